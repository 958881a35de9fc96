import PyProof.Rows.All
import Wide.All
import OpenK.AllK
import Wide.FinOn
import HandS.ForMost
import HandS.Walk
import HandS.Evl
import HandS.ExcInit
import HandS.Zip
import HandS.Property
import HandS.Defaults
import HandS.ClsMeth
import HandS.TupAny
import HandS.Wide
import HandS.WideBits
import HandS.IsInst
import HandS.Text
import HandS.FStr
import HandS.RaiseMore
import PyProof.Rows.NestShow
import HandS.Style
import HandS.OwnEq
import HandS.SlotsOwn
import HandS.MakeKwOnly
import KE.GoesEnum
import HandS.Ends
import HandS.HeadEnd
import HandS.HeadHook1
import HandS.HeadHook2
import KE.KExcInit
import KE.KExcIs
import HandS.ExcOwn
import HandS.ExcField
import PyProof.ExcBaseAll.ValueError
import PyProof.ExcBaseAll.LookupError
import PyProof.ExcBaseAll.RuntimeError
import PyProof.ExcBaseAll.ArithmeticError
import HandS.ExcValue
import HandS.Dict
import HandS.TryMany
import KE.KTryMore
import HandS.Star
import HandS.MakeKw
import HandS.SortInts
import PyProof.Rows.SortShellAny
import PyProof.ReprBulk
import KE.KStateDown
import HandS.Head0
import HandS.Head1
import HandS.Head2
import PySem.Challenge.RW_beamheads_k10_heads_made
set_option Elab.async false
set_option linter.all false
set_option maxRecDepth 100000
set_option maxHeartbeats 4000000
/-! Mir: what a piece of the text does, told by a function on plain data (its mirror). -/
namespace Mir
open PySem PySem.Spec L2
abbrev Ex := Evl.Ex

/-- plain data -/
inductive D where
  | non | bl (b : Bool) | int (i : Int) | str (x : Str)
  | lst (xs : List D) | tup (xs : List D)
  | ins (c : Str) (ns : List Str) (xs : List D)
  | dct (ks : List Key) (xs : List D)
  | scr (ns : List Int)
  | ty (n : String) | cls (c : Str)
  | exn (c : Str) (ns : List Str) (xs : List D)
  | hot (a : Addr) (cls : Value) (d : Option Addr) (c : Str) (ns : List Str) (xs : List D)

/-- the dict of an exception -/
def XDict (F : Hp) (od : Option Addr) (fs : List (Str × V)) : Prop := match od with
  | none => fs = []
  | some d => F d = some (exd d fs)
theorem XDict.mono {F F' : Hp} {od : Option Addr} {fs : List (Str × V)} (e : Ex F F') (h : XDict F od fs) : XDict F' od fs := by
  cases od with
  | none => exact h
  | some d => exact e _ _ h
/-- .. of one that was raised -/
def XHeld (F : Hp) (od : Option Addr) (fs : List (Str × V)) : Prop := match od with
  | none => fs = []
  | some d => F d = some (.xd fs)
theorem XHeld.mono {F F' : Hp} {od : Option Addr} {fs : List (Str × V)} (e : Ex F F') (h : XHeld F od fs) : XHeld F' od fs := by
  cases od with
  | none => exact h
  | some d => exact e _ _ h
section
variable (K : PySem.W.Frag) (mg : Str → Option Value)
/-! the datum is what stands at the value, by the part F of the heap that stays -/
mutual
def Rep (F : Hp) : D → V → Prop
  | .non, v => v = .non
  | .bl b, v => v = .bl b
  | .int i, v => v = .int i
  | .str x, v => v = .str x
  | .lst xs, v => ∃ a vs, v = .ref a ∧ F a = some (.lst vs) ∧ RepL F xs vs
  | .scr ns, v => ∃ a, v = .ref a ∧ SqL K F a (ns.map V.int)
  | .ty n, v => v = .ty n
  | .cls c, v => ∃ C, v = .ref C ∧ mg c = some (.ref C)
  | .tup xs, v => ∃ a vs, v = .ref a ∧ SqT K F a vs ∧ RepL F xs vs
  | .ins c ns xs, v => ∃ a C dx vs, v = .ref a ∧ mg c = some (.ref C) ∧ F a = some (.ins C dx (ns.zip vs)) ∧ ns.length = vs.length ∧ RepL F xs vs
  | .dct ks xs, v => ∃ a vs, v = .ref a ∧ F a = some (.dK (ks.zip vs)) ∧ ks.length = vs.length ∧ RepL F xs vs
  | .exn c ns xs, v => ∃ a C od vs, v = .ref a ∧ mg c = some (.ref C) ∧ F a = some (exo a C od) ∧ XDict F od (ns.zip vs) ∧ ns.length = vs.length ∧ RepL F xs vs
  | .hot a cls d c ns xs, v => v = .ref a ∧ ∃ C vs, mg c = some (.ref C) ∧ cls = .ref C ∧ XHeld F d (ns.zip vs) ∧ ns.length = vs.length ∧ RepL F xs vs
def RepL (F : Hp) : List D → List V → Prop
  | [], vs => vs = []
  | x :: xs, vs => ∃ v r, vs = v :: r ∧ Rep F x v ∧ RepL F xs r
end
end

section
variable {K : PySem.W.Frag} {mg : Str → Option Value} {F F' H H' : Hp}
mutual
theorem Rep.mono (e : Ex F F') : ∀ {d : D} {v : V}, Rep K mg F d v → Rep K mg F' d v
  | .non, v, h => by unfold Rep at h ⊢; exact h
  | .bl b, v, h => by unfold Rep at h ⊢; exact h
  | .int b, v, h => by unfold Rep at h ⊢; exact h
  | .ty b, v, h => by unfold Rep at h ⊢; exact h
  | .cls b, v, h => by unfold Rep at h ⊢; exact h
  | .str b, v, h => by unfold Rep at h ⊢; exact h
  | .lst xs, v, h => by
    unfold Rep at h ⊢
    obtain ⟨a, vs, h1, h2, h3⟩ := h
    exact ⟨a, vs, h1, e _ _ h2, RepL.mono e h3⟩
  | .scr ns, v, h => by
    unfold Rep at h ⊢
    obtain ⟨a, h1, h2⟩ := h
    exact ⟨a, h1, Evl.ex_l e h2⟩
  | .tup xs, v, h => by
    unfold Rep at h ⊢
    obtain ⟨a, vs, h1, h2, h3⟩ := h
    exact ⟨a, vs, h1, Evl.ex_t e h2, RepL.mono e h3⟩
  | .ins c ns xs, v, h => by
    unfold Rep at h ⊢
    obtain ⟨a, C, dx, vs, h1, h2, h3, h4, h5⟩ := h
    exact ⟨a, C, dx, vs, h1, h2, e _ _ h3, h4, RepL.mono e h5⟩
  | .dct ks xs, v, h => by
    unfold Rep at h ⊢
    obtain ⟨a, vs, h1, h3, h4, h5⟩ := h
    exact ⟨a, vs, h1, e _ _ h3, h4, RepL.mono e h5⟩
  | .exn c ns xs, v, h => by
    unfold Rep at h ⊢
    obtain ⟨a, C, od, vs, h1, h2, h3, h4, h5, h6⟩ := h
    exact ⟨a, C, od, vs, h1, h2, e _ _ h3, h4.mono e, h5, RepL.mono e h6⟩
  | .hot a cls d c ns xs, v, h => by
    unfold Rep at h ⊢
    obtain ⟨h1, C, vs, h2, h3, h4, h5, h6⟩ := h
    exact ⟨h1, C, vs, h2, h3, h4.mono e, h5, RepL.mono e h6⟩
theorem RepL.mono (e : Ex F F') : ∀ {ds : List D} {vs : List V}, RepL K mg F ds vs → RepL K mg F' ds vs
  | [], vs, h => by unfold RepL at h ⊢; exact h
  | d :: ds, vs, h => by
    unfold RepL at h ⊢
    obtain ⟨v, r, h1, h2, h3⟩ := h
    exact ⟨v, r, h1, Rep.mono e h2, RepL.mono e h3⟩
end
theorem RepL.nil : RepL K mg F [] [] := by unfold RepL; rfl
theorem RepL.cons {d : D} {ds : List D} {v : V} {vs : List V} (h : Rep K mg F d v) (r : RepL K mg F ds vs) : RepL K mg F (d :: ds) (v :: vs) := by
  unfold RepL
  exact ⟨v, vs, rfl, h, r⟩
theorem RepL.cons_inv {d : D} {ds : List D} {vs : List V} (h : RepL K mg F (d :: ds) vs) : ∃ v r, vs = v :: r ∧ Rep K mg F d v ∧ RepL K mg F ds r := by
  unfold RepL at h
  exact h
theorem RepL.nil_inv {vs : List V} (h : RepL K mg F [] vs) : vs = [] := by
  unfold RepL at h
  exact h
theorem RepL.len : ∀ {ds : List D} {vs : List V}, RepL K mg F ds vs → ds.length = vs.length
  | [], vs, h => by rw [h.nil_inv]; rfl
  | d :: ds, vs, h => by
    obtain ⟨v, r, rfl, _, h2⟩ := h.cons_inv
    rw [List.length_cons, List.length_cons, RepL.len h2]
theorem RepL.get : ∀ {ds : List D} {vs : List V} {i : Nat} {d : D}, RepL K mg F ds vs → ds[i]? = some d → ∃ v, vs[i]? = some v ∧ Rep K mg F d v
  | [], vs, i, d, _, e => by simp at e
  | x :: ds, vs, 0, d, h, e => by
    obtain ⟨v, r, rfl, h1, _⟩ := h.cons_inv
    simp at e
    subst e
    exact ⟨v, rfl, h1⟩
  | x :: ds, vs, i + 1, d, h, e => by
    obtain ⟨v, r, rfl, _, h2⟩ := h.cons_inv
    simp at e
    obtain ⟨w, e1, e2⟩ := RepL.get h2 e
    exact ⟨w, by simpa using e1, e2⟩
theorem RepL.get' : ∀ {ds : List D} {vs : List V} {i : Nat} {v : V}, RepL K mg F ds vs → vs[i]? = some v → ∃ d, ds[i]? = some d ∧ Rep K mg F d v
  | [], vs, i, d, h, e => by rw [h.nil_inv] at e; simp at e
  | x :: ds, vs, 0, v, h, e => by
    obtain ⟨w, r, rfl, h1, _⟩ := h.cons_inv
    simp at e
    subst e
    exact ⟨x, rfl, h1⟩
  | x :: ds, vs, i + 1, v, h, e => by
    obtain ⟨w, r, rfl, _, h2⟩ := h.cons_inv
    simp at e
    obtain ⟨d, e1, e2⟩ := RepL.get' h2 e
    exact ⟨d, by simpa using e1, e2⟩
theorem RepL.append : ∀ {ds es : List D} {vs ws : List V}, RepL K mg F ds vs → RepL K mg F es ws → RepL K mg F (ds ++ es) (vs ++ ws)
  | [], es, vs, ws, h, g => by rw [h.nil_inv]; exact g
  | d :: ds, es, vs, ws, h, g => by
    obtain ⟨v, r, rfl, h1, h2⟩ := h.cons_inv
    exact RepL.cons h1 (RepL.append h2 g)
theorem RepL.set : ∀ {ds : List D} {vs : List V} {d : D} {v : V} (i : Nat), RepL K mg F ds vs → Rep K mg F d v → RepL K mg F (ds.set i d) (vs.set i v)
  | [], vs, d, v, i, h, g => by rw [h.nil_inv]; exact RepL.nil
  | x :: ds, vs, d, v, 0, h, g => by
    obtain ⟨w, r, rfl, h1, h2⟩ := h.cons_inv
    exact RepL.cons g h2
  | x :: ds, vs, d, v, i + 1, h, g => by
    obtain ⟨w, r, rfl, h1, h2⟩ := h.cons_inv
    exact RepL.cons h1 (RepL.set i h2 g)
theorem RepL.take : ∀ {ds : List D} {vs : List V} (n : Nat), RepL K mg F ds vs → RepL K mg F (ds.take n) (vs.take n)
  | [], vs, n, h => by rw [h.nil_inv]; simp; exact RepL.nil
  | x :: ds, vs, 0, h => by simp; exact RepL.nil
  | x :: ds, vs, n + 1, h => by
    obtain ⟨w, r, rfl, h1, h2⟩ := h.cons_inv
    exact RepL.cons h1 (RepL.take n h2)
theorem RepL.drop : ∀ {ds : List D} {vs : List V} (n : Nat), RepL K mg F ds vs → RepL K mg F (ds.drop n) (vs.drop n)
  | [], vs, n, h => by rw [h.nil_inv]; simp; exact RepL.nil
  | x :: ds, vs, 0, h => by simpa using h
  | x :: ds, vs, n + 1, h => by
    obtain ⟨w, r, rfl, h1, h2⟩ := h.cons_inv
    exact RepL.drop n h2
theorem RepL.rev : ∀ {ds : List D} {vs : List V}, RepL K mg F ds vs → RepL K mg F ds.reverse vs.reverse
  | [], vs, h => by rw [h.nil_inv]; simp; exact RepL.nil
  | x :: ds, vs, h => by
    obtain ⟨w, r, rfl, h1, h2⟩ := h.cons_inv
    rw [List.reverse_cons, List.reverse_cons]
    exact RepL.append (RepL.rev h2) (RepL.cons h1 RepL.nil)
end

/-! ### the state -/
/-- a thing that may still change: a list, an object -/
inductive Cell where
  | lst (xs : List D) | ins (c : Str) (ns : List Str) (xs : List D)
/-- .. as it stands -/
def Cell.d : Cell → D
  | .lst xs => .lst xs
  | .ins c ns xs => .ins c ns xs
/-- what a name holds: nothing known, a datum, a thing of its own that may still change -/
inductive Slot where
  | no | val (d : D) | own (c : Cell)
abbrev SD := List Slot
/-- the entry: what stayed then, the heap then, the cells that are the callee's to change -/
structure Bs where
  F0 : Hp
  H0 : Hp
  io : List Addr
  par : Option Addr
section
variable (K : PySem.W.Frag) (mg : Str → Option Value)
def CellOk (F : Hp) (o : HO) : Cell → Prop
  | .lst xs => ∃ vs, o = .lst vs ∧ RepL K mg F xs vs
  | .ins c ns xs => ∃ C dx vs, o = .ins C dx (ns.zip vs) ∧ ns.length = vs.length ∧ mg c = some (.ref C) ∧ RepL K mg F xs vs
def SlotOk (B : Bs) (F H : Hp) (o : Option V) : Slot → Prop
  | .no => True
  | .val d => ∃ v, o = some v ∧ Rep K mg F d v
  | .own c => ∃ p u, o = some (.ref p) ∧ H p = some u ∧ CellOk K mg F u c ∧ F p = none ∧ (B.H0 p = none ∨ p ∈ B.io)
structure Sta (B : Bs) (F H : Hp) (σ : St) (sd : SD) : Prop where
  fh : Ex F H
  f0 : Ex B.F0 F
  keep : ∀ a o, B.H0 a = some o → a ∉ B.io → H a = some o
  fresh : ∀ a, F a ≠ none → B.F0 a ≠ none ∨ B.H0 a = none ∨ a ∈ B.io
  io : ∀ p ∈ B.io, H p ≠ none
  len : sd.length = σ.length
  slot : ∀ (i : Nat) (s : Slot), sd[i]? = some s → ∃ o, σ[i]? = some o ∧ SlotOk K mg B F H o s
  inj : ∀ (i j : Nat) (xs ys : Cell) (p : Addr), sd[i]? = some (.own xs) → sd[j]? = some (.own ys) → σ[i]? = some (some (V.ref p)) → σ[j]? = some (some (V.ref p)) → i = j
  par : ∀ p, B.par = some p → σ[0]? = some (some (V.ref p)) ∧ ∃ xs, sd[0]? = some (.own xs)
end
section
variable {K : PySem.W.Frag} {mg : Str → Option Value} {B : Bs} {F F' H H' : Hp} {σ : St} {sd : SD}
/-- new things stand in H', nothing that stood was changed -/
structure Grow (F H F' H' : Hp) : Prop where
  ff : Ex F F'
  fh : Ex F' H'
  hh : Ex H H'
  new : ∀ a, F' a ≠ none → F a ≠ none ∨ H a = none
theorem Grow.refl (h : Ex F H) : Grow F H F H := ⟨Evl.Ex.refl _, h, Evl.Ex.refl _, fun a h => .inl h⟩
theorem Grow.trans {F2 H2 : Hp} (g : Grow F H F' H') (k : Grow F' H' F2 H2) : Grow F H F2 H2 :=
  ⟨g.ff.trans k.ff, k.fh, g.hh.trans k.hh, fun a h => by
    rcases k.new a h with h1 | h1
    · exact g.new a h1
    · exact .inr (Evl.fresh_back g.hh h1)⟩
theorem Grow.laid {p : Addr} {o : HO} (fh : Ex F H) (h : H p = none) : Grow F H (upd F p o) (upd H p o) := by
  have hf : F p = none := Evl.fresh_back fh h
  refine ⟨Evl.Ex.new hf, fun a u e => ?_, Evl.Ex.new h, fun a ha => ?_⟩
  · by_cases z : a = p
    · subst z
      rw [upd_same] at e ⊢
      exact e
    · rw [upd_ne z] at e ⊢
      exact fh a u e
  · by_cases z : a = p
    · subst z
      exact .inr h
    · rw [upd_ne z] at ha
      exact .inl ha
theorem Grow.heap {H2 : Hp} (fh : Ex F H) (e : Ex H H2) : Grow F H F H2 := ⟨Evl.Ex.refl _, fh.trans e, e, fun a h => .inl h⟩
theorem CellOk.mono {o : HO} {c : Cell} (e : Ex F F') (h : CellOk K mg F o c) : CellOk K mg F' o c := by
  cases c with
  | lst xs =>
    obtain ⟨vs, h1, h2⟩ := h
    exact ⟨vs, h1, h2.mono e⟩
  | ins c ns xs =>
    obtain ⟨C, dx, vs, h1, h2, h3, h4⟩ := h
    exact ⟨C, dx, vs, h1, h2, h3, h4.mono e⟩
theorem CellOk.rep {o : HO} {c : Cell} {p : Addr} (h : CellOk K mg F o c) (hp : F p = some o) : Rep K mg F c.d (.ref p) := by
  cases c with
  | lst xs =>
    obtain ⟨vs, rfl, h2⟩ := h
    show Rep K mg F (.lst xs) _
    unfold Rep
    exact ⟨p, vs, rfl, hp, h2⟩
  | ins c ns xs =>
    obtain ⟨C, dx, vs, rfl, h2, h3, h4⟩ := h
    show Rep K mg F (.ins c ns xs) _
    unfold Rep
    exact ⟨p, C, dx, vs, rfl, h3, hp, h2, h4⟩
theorem SlotOk.grow {o : Option V} {s : Slot} (fh : Ex F H) (g : Grow F H F' H') (h : SlotOk K mg B F H o s) : SlotOk K mg B F' H' o s := by
  cases s with
  | no => exact True.intro
  | val d =>
    obtain ⟨v, h1, h2⟩ := h
    exact ⟨v, h1, h2.mono g.ff⟩
  | own xs =>
    obtain ⟨p, vs, h1, h2, h3, h4, h5⟩ := h
    refine ⟨p, vs, h1, g.hh _ _ h2, h3.mono g.ff, ?_, h5⟩
    cases e : F' p with
    | none => rfl
    | some u =>
      rcases g.new p (by rw [e]; exact fun z => nomatch z) with h6 | h6
      · exact absurd h4 h6
      · rw [h2] at h6
        cases h6
theorem Sta.h0 (S : Sta K mg B F H σ sd) {p : Addr} (h : H p = none) : B.H0 p = none := by
  cases e : B.H0 p with
  | none => rfl
  | some o =>
    by_cases hp : p ∈ B.io
    · exact absurd h (S.io p hp)
    · rw [S.keep p o e hp] at h
      cases h
theorem Sta.grow (S : Sta K mg B F H σ sd) (g : Grow F H F' H') : Sta K mg B F' H' σ sd := by
  refine ⟨g.fh, S.f0.trans g.ff, fun a o h1 h2 => g.hh _ _ (S.keep a o h1 h2), fun a h => ?_, fun p hp => ?_, S.len, fun i s h => ?_, S.inj, S.par⟩
  · rcases g.new a h with h1 | h1
    · exact S.fresh a h1
    · exact .inr (.inl (S.h0 h1))
  · cases e : H p with
    | none => exact absurd e (S.io p hp)
    | some o =>
      rw [g.hh p o e]
      exact fun z => nomatch z
  · obtain ⟨o, h1, h2⟩ := S.slot i s h
    exact ⟨o, h1, h2.grow S.fh g⟩
theorem Sta.val (S : Sta K mg B F H σ sd) {i : Nat} {d : D} (h : sd[i]? = some (.val d)) : ∃ v, σ[i]? = some (some v) ∧ Rep K mg F d v := by
  obtain ⟨o, h1, v, h2, h3⟩ := S.slot i _ h
  exact ⟨v, by rw [h1, h2], h3⟩
/-- the list that the def was handed to change stays where it is -/
def free0 (i : Nat) (sd : SD) : Bool := match i, sd with
  | 0, .own _ :: _ => false
  | _, _ => true
theorem free0_par (S : Sta K mg B F H σ sd) {i : Nat} (hf : free0 i sd = true) {p : Addr} (hp : B.par = some p) : i ≠ 0 := fun e => by
  obtain ⟨_, xs, h⟩ := S.par p hp
  subst e
  cases sd with
  | nil => cases h
  | cons s r =>
    cases h
    cases hf
/-- a name is given a datum -/
theorem Sta.set (S : Sta K mg B F H σ sd) (i : Nat) {d : D} {v : V} (h : Rep K mg F d v) (hf : free0 i sd = true) : Sta K mg B F H (σ.set i (some v)) (sd.set i (.val d)) := by
  refine ⟨S.fh, S.f0, S.keep, S.fresh, S.io, by simpa using S.len, fun j s hs => ?_, fun j k xs ys p h1 h2 h3 h4 => ?_, fun p hp => ?_⟩
  · by_cases z : i = j
    · subst z
      by_cases hl : i < sd.length
      · rw [List.getElem?_set_self hl] at hs
        cases hs
        exact ⟨some v, List.getElem?_set_self (by rw [← S.len]; exact hl), v, rfl, h⟩
      · rw [List.getElem?_eq_none (by simpa using hl)] at hs
        cases hs
    · rw [List.getElem?_set_ne z] at hs
      obtain ⟨o, h1, h2⟩ := S.slot j s hs
      exact ⟨o, by rw [List.getElem?_set_ne z]; exact h1, h2⟩
  · have nj : ∀ {j : Nat} {xs : Cell}, (sd.set i (.val d))[j]? = some (.own xs) → i ≠ j ∧ sd[j]? = some (.own xs) := fun {j xs} hj => by
      by_cases z : i = j
      · subst z
        by_cases hl : i < sd.length
        · rw [List.getElem?_set_self hl] at hj
          cases hj
        · rw [List.getElem?_eq_none (by simpa using hl)] at hj
          cases hj
      · rw [List.getElem?_set_ne z] at hj
        exact ⟨z, hj⟩
    obtain ⟨n1, e1⟩ := nj h1
    obtain ⟨n2, e2⟩ := nj h2
    rw [List.getElem?_set_ne n1] at h3
    rw [List.getElem?_set_ne n2] at h4
    exact S.inj j k xs ys p e1 e2 h3 h4
  · have hi := free0_par S hf hp
    obtain ⟨h1, xs, h2⟩ := S.par p hp
    exact ⟨by rw [List.getElem?_set_ne hi]; exact h1, xs, by rw [List.getElem?_set_ne hi]; exact h2⟩
/-- a name is forgotten -/
theorem Sta.forget (S : Sta K mg B F H σ sd) (i : Nat) (o : Option V) (hf : i ≠ 0) : Sta K mg B F H (σ.set i o) (sd.set i .no) := by
  refine ⟨S.fh, S.f0, S.keep, S.fresh, S.io, by simpa using S.len, fun j s hs => ?_, fun j k xs ys p h1 h2 h3 h4 => ?_, fun p hp => ?_⟩
  · by_cases z : i = j
    · subst z
      by_cases hl : i < sd.length
      · rw [List.getElem?_set_self hl] at hs
        cases hs
        exact ⟨o, List.getElem?_set_self (by rw [← S.len]; exact hl), True.intro⟩
      · rw [List.getElem?_eq_none (by simpa using hl)] at hs
        cases hs
    · rw [List.getElem?_set_ne z] at hs
      obtain ⟨o, h1, h2⟩ := S.slot j s hs
      exact ⟨o, by rw [List.getElem?_set_ne z]; exact h1, h2⟩
  · have nj : ∀ {j : Nat} {xs : Cell}, (sd.set i .no)[j]? = some (.own xs) → i ≠ j ∧ sd[j]? = some (.own xs) := fun {j xs} hj => by
      by_cases z : i = j
      · subst z
        by_cases hl : i < sd.length
        · rw [List.getElem?_set_self hl] at hj
          cases hj
        · rw [List.getElem?_eq_none (by simpa using hl)] at hj
          cases hj
      · rw [List.getElem?_set_ne z] at hj
        exact ⟨z, hj⟩
    obtain ⟨n1, e1⟩ := nj h1
    obtain ⟨n2, e2⟩ := nj h2
    rw [List.getElem?_set_ne n1] at h3
    rw [List.getElem?_set_ne n2] at h4
    exact S.inj j k xs ys p e1 e2 h3 h4
  · obtain ⟨h1, xs, h2⟩ := S.par p hp
    exact ⟨by rw [List.getElem?_set_ne hf]; exact h1, xs, by rw [List.getElem?_set_ne hf]; exact h2⟩
end
end Mir
set_option linter.all false
set_option maxRecDepth 100000
set_option maxHeartbeats 4000000
namespace Mir
open PySem PySem.Spec L2

/-! ### the mirror's own small language -/
abbrev M (α : Type) := SD → Option (α × SD)
def pur {α : Type} (a : α) : M α := fun sd => some (a, sd)
def bnd {α β : Type} (m : M α) (k : α → M β) : M β := fun sd => match m sd with
  | none => none
  | some (a, sd1) => k a sd1
def lft {α : Type} (o : Option α) : M α := fun sd => match o with
  | none => none
  | some a => some (a, sd)
theorem bnd_some {α β : Type} {m : M α} {k : α → M β} {sd : SD} {r : β × SD} (h : bnd m k sd = some r) : ∃ a sd1, m sd = some (a, sd1) ∧ k a sd1 = some r := by
  unfold bnd at h
  cases e : m sd with
  | none =>
    rw [e] at h
    cases h
  | some p =>
    obtain ⟨a, sd1⟩ := p
    rw [e] at h
    exact ⟨a, sd1, rfl, h⟩
theorem lft_some {α : Type} {o : Option α} {sd sd' : SD} {a : α} (h : lft o sd = some (a, sd')) : o = some a ∧ sd' = sd := by
  unfold lft at h
  cases o with
  | none => cases h
  | some b =>
    cases h
    exact ⟨rfl, rfl⟩
theorem pur_some {α : Type} {a b : α} {sd sd' : SD} (h : pur a sd = some (b, sd')) : b = a ∧ sd' = sd := by
  unfold pur at h
  cases h
  exact ⟨rfl, rfl⟩
/-- where a statement ends -/
inductive Out where
  | nx | rt (d : D) | bk | ct

section
variable (K : PySem.W.Frag) (mg : Str → Option Value)
def EvD (te : TE) (m : M D) : Prop := ∀ (B : Bs) (F H : Hp) (σ : L2.St) (sd : SD) (d : D) (sd' : SD), Sta K mg B F H σ sd → m sd = some (d, sd') →
  ∀ Q : VK, (∀ v F' H', Sta K mg B F' H' σ sd' → Ex F F' → Rep K mg F' d v → Q v H') → te σ H Q
def EvB (tt : TT) (m : M Bool) : Prop := ∀ (B : Bs) (F H : Hp) (σ : L2.St) (sd : SD) (b : Bool) (sd' : SD), Sta K mg B F H σ sd → m sd = some (b, sd') →
  ∀ Q : Bool → Hp → Prop, (∀ F' H', Sta K mg B F' H' σ sd' → Ex F F' → Q b H') → tt σ H Q
def EvL (ta : TA) (m : M (List D)) : Prop := ∀ (B : Bs) (F H : Hp) (σ : L2.St) (sd : SD) (ds : List D) (sd' : SD), Sta K mg B F H σ sd → m sd = some (ds, sd') →
  ∀ Q : List V → Hp → Prop, (∀ vs F' H', Sta K mg B F' H' σ sd' → Ex F F' → RepL K mg F' ds vs → Q vs H') → ta σ H Q
/-- what is wanted behind a statement that ends so -/
def Wants (B : Bs) (F : Hp) (sd' : SD) (E : Ends) : Out → Prop
  | .nx => ∀ σ' F' H', Sta K mg B F' H' σ' sd' → Ex F F' → E.nx σ' H'
  | .rt d => ∀ v σ' F' H', Sta K mg B F' H' σ' sd' → Ex F F' → Rep K mg F' d v → E.rt v H'
  | .bk => ∀ σ' F' H', Sta K mg B F' H' σ' sd' → Ex F F' → E.bk σ' H'
  | .ct => ∀ σ' F' H', Sta K mg B F' H' σ' sd' → Ex F F' → E.ct σ' H'
def ExD (ts : TS) (m : M Out) : Prop := ∀ (B : Bs) (F H : Hp) (σ : L2.St) (sd : SD) (o : Out) (sd' : SD), Sta K mg B F H σ sd → m sd = some (o, sd') →
  ∀ E : Ends, Wants K mg B F sd' E o → ts E σ H
def GtD (g : TG) (m : D → M Unit) : Prop := ∀ (B : Bs) (F H : Hp) (σ : L2.St) (sd : SD) (d : D) (v : V) (sd' : SD), Sta K mg B F H σ sd → Rep K mg F d v → m d sd = some ((), sd') →
  ∀ Q : L2.St → Hp → Prop, (∀ σ' F' H', Sta K mg B F' H' σ' sd' → Ex F F' → Q σ' H') → g v σ H Q
end
theorem Wants.mono {K : PySem.W.Frag} {mg : Str → Option Value} {B : Bs} {F F' : Hp} {sd : SD} {E : Ends} {o : Out} (e : Ex F F') (w : Wants K mg B F sd E o) : Wants K mg B F' sd E o := by
  cases o with
  | nx => exact fun σ' F1 H' S e1 => w σ' F1 H' S (e.trans e1)
  | rt d => exact fun v σ' F1 H' S e1 r => w v σ' F1 H' S (e.trans e1) r
  | bk => exact fun σ' F1 H' S e1 => w σ' F1 H' S (e.trans e1)
  | ct => exact fun σ' F1 H' S e1 => w σ' F1 H' S (e.trans e1)

section
variable (X : Cx)
def PEd (e : Expr) (t : TE) (m : M D) : Prop := PE X e t ∧ EvD X.K X.mg t m
def PTd (e : Expr) (t : TT) (m : M Bool) : Prop := PT X e t ∧ EvB X.K X.mg t m
def PWd (e : Expr) (t : TT) (m : M Bool) : Prop := PW X e t ∧ EvB X.K X.mg t m
def PAd (es : List Expr) (t : TA) (m : M (List D)) : Prop := PA X es t ∧ EvL X.K X.mg t m
def PSd (s : Stmt) (t : TS) (m : M Out) : Prop := PS X s t ∧ ExD X.K X.mg t m
def PSsd (s : List Stmt) (t : TS) (m : M Out) : Prop := PSs X s t ∧ ExD X.K X.mg t m
def PGd (e : Expr) (t : TG) (m : D → M Unit) : Prop := PG X e t ∧ GtD X.K X.mg t m
end

theorem PEd.cast {X : Cx} {e : Expr} {t t2 : TE} {m : M D} (h : PEd X e t m) (eq : t = t2) : PEd X e t2 m := eq ▸ h
/-! ### names, constants -/
/-- a name is read; a list of its own stays from then on as it is -/
def mVar (i : Nat) : M D := fun sd => match sd[i]? with
  | some (.val d) => some (d, sd)
  | some (.own c) => if i = 0 then none else some (c.d, sd.set i (.val c.d))
  | _ => none
theorem mVar_some {i : Nat} {sd sd' : SD} {d : D} (h : mVar i sd = some (d, sd')) : (sd[i]? = some (.val d) ∧ sd' = sd) ∨ ∃ c : Cell, sd[i]? = some (.own c) ∧ i ≠ 0 ∧ d = c.d ∧ sd' = sd.set i (.val c.d) := by
  unfold mVar at h
  split at h
  · rename_i d' e
    cases h
    exact .inl ⟨e, rfl⟩
  · rename_i xs e
    by_cases z : i = 0
    · rw [if_pos z] at h
      cases h
    · rw [if_neg z] at h
      cases h
      exact .inr ⟨xs, e, z, rfl, rfl⟩
  · cases h
theorem rep_lst {K : PySem.W.Frag} {mg : Str → Option Value} {F : Hp} {p : Addr} {ds : List D} {vs : List V} (h : F p = some (.lst vs)) (r : RepL K mg F ds vs) : Rep K mg F (.lst ds) (.ref p) := by
  unfold Rep
  exact ⟨p, vs, rfl, h, r⟩
theorem Sta.freeze {K : PySem.W.Frag} {mg : Str → Option Value} {B : Bs} {F H : Hp} {σ : L2.St} {sd : SD} (S : Sta K mg B F H σ sd) {i : Nat} {xs : Cell} (hi : i ≠ 0) (h : sd[i]? = some (.own xs)) :
    ∃ p F', σ[i]? = some (some (V.ref p)) ∧ Ex F F' ∧ Rep K mg F' xs.d (.ref p) ∧ Sta K mg B F' H σ (sd.set i (.val xs.d)) := by
  obtain ⟨o, h1, p, vs, rfl, h2, h3, h4, h5⟩ := S.slot i _ h
  have e1 : Ex F (upd F p vs) := Evl.Ex.new h4
  have r1 : Rep K mg (upd F p vs) xs.d (.ref p) := (h3.mono e1).rep upd_same
  refine ⟨p, _, h1, e1, r1, ⟨fun a u e => ?_, S.f0.trans e1, S.keep, fun a ha => ?_, S.io, by simpa using S.len, fun j s hs => ?_, fun j k xs' ys q g1 g2 g3 g4 => ?_, fun q hq => ?_⟩⟩
  · by_cases z : a = p
    · subst z
      rw [upd_same] at e
      cases e
      exact h2
    · rw [upd_ne z] at e
      exact S.fh a u e
  · by_cases z : a = p
    · subst z
      exact .inr h5
    · rw [upd_ne z] at ha
      exact S.fresh a ha
  · by_cases z : i = j
    · subst z
      rw [List.getElem?_set_self (List.getElem?_eq_some_iff.mp h).1] at hs
      cases hs
      exact ⟨_, h1, _, rfl, r1⟩
    · rw [List.getElem?_set_ne z] at hs
      obtain ⟨o1, k1, k2⟩ := S.slot j s hs
      refine ⟨o1, k1, ?_⟩
      cases s with
      | no => exact True.intro
      | val d =>
        obtain ⟨v, k3, k4⟩ := k2
        exact ⟨v, k3, k4.mono e1⟩
      | own zs =>
        obtain ⟨q, ws, rfl, k3, k4, k5, k6⟩ := k2
        have z2 : q ≠ p := fun z2 => z (S.inj i j xs zs p h hs h1 (by rw [k1, z2]))
        exact ⟨q, ws, rfl, k3, k4.mono e1, by rw [upd_ne z2]; exact k5, k6⟩
  · have nj : ∀ {j : Nat} {ys : Cell}, (sd.set i (.val xs.d))[j]? = some (.own ys) → sd[j]? = some (.own ys) := fun {j ys} hj => by
      by_cases z : i = j
      · subst z
        rw [List.getElem?_set_self (List.getElem?_eq_some_iff.mp h).1] at hj
        cases hj
      · rw [List.getElem?_set_ne z] at hj
        exact hj
    exact S.inj j k xs' ys q (nj g1) (nj g2) g3 g4
  · obtain ⟨k1, ys, k2⟩ := S.par q hq
    exact ⟨k1, ys, by rw [List.getElem?_set_ne hi]; exact k2⟩
section
variable {X : Cx} {a b c e : Expr} {pos : Pos} {ma mb mc : M D} {ta tb tc : TE} {tB' uB : TT} {r r' : R2} {r1 : V → Hp → VK → Prop} {rL : List V → Hp → VK → Prop} {tL : TA}
theorem pd_var (i : Nat) {x : Str} (hN : X.N[i]? = some x := by rfl) (hv : Vis X.env.scope x := by first | exact Or.inl rfl | exact Or.inr (Or.inl rfl) | exact Or.inr (Or.inr rfl)) (hd : (x == ("__debug__" : Str)) = false := by decide)
    (hcd : (x == ("__classdict__" : Str)) = false := by decide) : PEd X (.Name x pos) (tVar i) (mVar i) := by
  refine ⟨pe_var hN hv hd hcd, fun B F H σ sd d sd' S hm Q q => ?_⟩
  rcases mVar_some hm with ⟨h1, rfl⟩ | ⟨xs, h1, h2, rfl, rfl⟩
  · obtain ⟨v, h2, h3⟩ := S.val h1
    exact ⟨v, h2, q v F H S (Evl.Ex.refl _) h3⟩
  · obtain ⟨p, F1, h3, e1, r1, S1⟩ := S.freeze h2 h1
    exact ⟨.ref p, h3, q _ F1 H S1 e1 r1⟩
theorem pd_c {e : Expr} {v : V} {d : D} (h : PE X e (tC v)) (r : ∀ F, Rep X.K X.mg F d v) : PEd X e (tC v) (pur d) := by
  refine ⟨h, fun B F H σ sd d' sd' S hm Q q => ?_⟩
  obtain ⟨rfl, rfl⟩ := pur_some hm
  exact q v F H S (Evl.Ex.refl _) (r F)
theorem pd_int {i : Int} {j} : PEd X (.Constant (.int i) j pos) (tC (.int i)) (pur (.int i)) := pd_c pe_int fun F => by unfold Rep; rfl
theorem pd_bl {i : Bool} {j} : PEd X (.Constant (.bool i) j pos) (tC (.bl i)) (pur (.bl i)) := pd_c pe_bl fun F => by unfold Rep; rfl
theorem pd_non {j} : PEd X (.Constant .none j pos) (tC .non) (pur .non) := pd_c pe_non fun F => by unfold Rep; rfl
theorem pd_str {x : Str} {j} : PEd X (.Constant (.str x) j pos) (tC (.str x)) (pur (.str x)) := pd_c pe_str fun F => by unfold Rep; rfl

/-! ### operations by values -/
def OpD (X : Cx) (f : Value → Value → Sem Value) (r : R2) (g : D → D → Option D) : Prop := OpR X f r ∧
  ∀ (F H : Hp) (d1 d2 d : D) (v1 v2 : V), Ex F H → Rep X.K X.mg F d1 v1 → Rep X.K X.mg F d2 v2 → g d1 d2 = some d → ∀ Q : VK, (∀ v F' H', Grow F H F' H' → Rep X.K X.mg F' d v → Q v H') → r v1 v2 H Q
def UnD (X : Cx) (f : Value → Sem Value) (r : V → Hp → VK → Prop) (g : D → Option D) : Prop := UnR X f r ∧
  ∀ (F H : Hp) (d1 d : D) (v1 : V), Ex F H → Rep X.K X.mg F d1 v1 → g d1 = some d → ∀ Q : VK, (∀ v F' H', Grow F H F' H' → Rep X.K X.mg F' d v → Q v H') → r v1 H Q
def CallD (X : Cx) (f : Value) (r : List V → Hp → VK → Prop) (g : List D → Option D) : Prop := CallR X f r ∧
  ∀ (F H : Hp) (ds : List D) (d : D) (vs : List V), Ex F H → RepL X.K X.mg F ds vs → g ds = some d → ∀ Q : VK, (∀ v F' H', Grow F H F' H' → Rep X.K X.mg F' d v → Q v H') → r vs H Q
def op2 (g : D → D → Option D) (ma mb : M D) : M D := bnd ma fun x => bnd mb fun y => lft (g x y)
def op1 (g : D → Option D) (ma : M D) : M D := bnd ma fun x => lft (g x)
theorem ev_op2 {r : R2} {g : D → D → Option D} {ta tb : TE} {K : PySem.W.Frag} {mg : Str → Option Value}
    (hr : ∀ (F H : Hp) (d1 d2 d : D) (v1 v2 : V), Ex F H → Rep K mg F d1 v1 → Rep K mg F d2 v2 → g d1 d2 = some d → ∀ Q : VK, (∀ v F' H', Grow F H F' H' → Rep K mg F' d v → Q v H') → r v1 v2 H Q)
    (ha : EvD K mg ta ma) (hb : EvD K mg tb mb) : EvD K mg (tOp r ta tb) (op2 g ma mb) := fun B F H σ sd d sd' S hm Q q => by
  obtain ⟨x, sd1, h1, h2⟩ := bnd_some hm
  obtain ⟨y, sd2, h3, h4⟩ := bnd_some h2
  obtain ⟨h5, rfl⟩ := lft_some h4
  refine ha B F H σ sd x sd1 S h1 _ fun v1 F1 H1 S1 e1 r1 => ?_
  refine hb B F1 H1 σ sd1 y sd' S1 h3 _ fun v2 F2 H2 S2 e2 r2 => ?_
  exact hr F2 H2 x y d v1 v2 S2.fh (r1.mono e2) r2 h5 Q fun v F3 H3 g3 r3 => q v F3 H3 (S2.grow g3) ((e1.trans e2).trans g3.ff) r3
theorem pd_op {op : Operator} {g : D → D → Option D} (ho : OpD X (binaryOp op) r g) (ha : PEd X a ta ma) (hb : PEd X b tb mb) : PEd X (.BinOp a op b pos) (tOp r ta tb) (op2 g ma mb) := by
  obtain ⟨h1, h2⟩ := ho
  obtain ⟨pa, ea⟩ := ha
  obtain ⟨pb, eb⟩ := hb
  exact ⟨pe_op h1 pa pb, ev_op2 h2 ea eb⟩
theorem pd_un {op : UnaryOp} {g : D → Option D} (ho : UnD X (unaryOp op) r1 g) (ha : PEd X a ta ma) : PEd X (.UnaryOp op a pos) (tUn r1 ta) (op1 g ma) := by
  obtain ⟨h1, h2⟩ := ho
  obtain ⟨pa, ea⟩ := ha
  refine ⟨pe_un h1 pa, fun B F H σ sd d sd' S hm Q q => ?_⟩
  obtain ⟨x, sd1, h3, h4⟩ := bnd_some hm
  obtain ⟨h5, rfl⟩ := lft_some h4
  refine ea B F H σ sd x sd' S h3 _ fun v1 F1 H1 S1 e1 r1 => ?_
  exact h2 F1 H1 x d v1 S1.fh r1 h5 Q fun v F3 H3 g3 r3 => q v F3 H3 (S1.grow g3) (e1.trans g3.ff) r3
/-- a comparison as a value -/
theorem pd_cmp {op : CmpOp} {g : D → D → Option D} (ho : OpD X (compareOp op) r g) (ha : PEd X a ta ma) (hb : PEd X b tb mb) (hm : behindInMarks op b = false) : PEd X (.Compare a [op] [b] pos) (tOp r ta tb) (op2 g ma mb) := by
  obtain ⟨h1, h2⟩ := ho
  obtain ⟨pa, ea⟩ := ha
  obtain ⟨pb, eb⟩ := hb
  exact ⟨pe_cmpR h1 pa pb hm, ev_op2 h2 ea eb⟩
/-- a value that is a bool -/
def asB : D → Option Bool
  | .bl b => some b
  | _ => none
def tst (m : M D) : M Bool := bnd m fun d => lft (asB d)
theorem asB_some {d : D} {b : Bool} (h : asB d = some b) : d = .bl b := by
  cases d <;> simp [asB] at h
  rw [h]
theorem ev_test {te : TE} {K : PySem.W.Frag} {mg : Str → Option Value} (h : EvD K mg te ma) : EvB K mg (fun σ H Q => te σ H fun x H1 => ∃ c, x = .bl c ∧ Q c H1) (tst ma) := fun B F H σ sd d sd' S hm Q q => by
  obtain ⟨x, sd1, h1, h2⟩ := bnd_some hm
  obtain ⟨h3, rfl⟩ := lft_some h2
  obtain rfl := asB_some h3
  refine h B F H σ sd _ sd' S h1 _ fun v F1 H1 S1 e1 r1 => ?_
  unfold Rep at r1
  exact ⟨d, r1, q F1 H1 S1 e1⟩
theorem pt_cmp {op : CmpOp} {g : D → D → Option D} (ho : OpD X (compareOp op) r g) (ha : PEd X a ta ma) (hb : PEd X b tb mb) (hm : behindInMarks op b = false) : PTd X (.Compare a [op] [b] pos) (tTest (tOp r ta tb)) (tst (op2 g ma mb)) := by
  obtain ⟨h1, h2⟩ := ho
  obtain ⟨pa, ea⟩ := ha
  obtain ⟨pb, eb⟩ := hb
  exact ⟨pt_cmpR h1 pa pb hm, ev_test (ev_op2 h2 ea eb)⟩
theorem pt_val {e : Expr} {m : M D} (h : PEd X e ta m) (he : ∀ whole, isTrue e X.env whole = (do let v ← whole; standAt e.pos; holding [v] (truthy v)) := by intro _; rfl) : PTd X e (tB ta) (tst m) := by
  obtain ⟨p, ev⟩ := h
  exact ⟨L2.pt_val p he, ev_test ev⟩
/-! ### and, or, not -/
def mNotB (m : M Bool) : M Bool := bnd m fun b => pur (!b)
def mAndB (m n : M Bool) : M Bool := bnd m fun b => if b = true then n else pur false
def mOrB (m n : M Bool) : M Bool := bnd m fun b => if b = true then pur true else n
variable {mB nB : M Bool} {rest : List Expr}
theorem pt_notd (h : PTd X a tB' mB) : PTd X (.UnaryOp .Not a pos) (tNot tB') (mNotB mB) := by
  obtain ⟨p, ev⟩ := h
  refine ⟨pt_not p, fun B F H σ sd d sd' S hm Q q => ?_⟩
  obtain ⟨x, sd1, h1, h2⟩ := bnd_some hm
  obtain ⟨rfl, rfl⟩ := pur_some h2
  exact ev B F H σ sd x sd' S h1 _ fun F1 H1 S1 e1 => q F1 H1 S1 e1
theorem pw_and1d (h : PTd X a tB' mB) : PWd X (.BoolOp .And [a] pos) tB' mB := by
  obtain ⟨p, ev⟩ := h
  exact ⟨pw_and1 p, ev⟩
theorem pw_or1d (h : PTd X a tB' mB) : PWd X (.BoolOp .Or [a] pos) tB' mB := by
  obtain ⟨p, ev⟩ := h
  exact ⟨pw_or1 p, ev⟩
theorem pw_andd (h : PTd X a tB' mB) (k : PWd X (.BoolOp .And (b :: rest) pos) uB nB) : PWd X (.BoolOp .And (a :: b :: rest) pos) (tAnd tB' uB) (mAndB mB nB) := by
  obtain ⟨p, ev⟩ := h
  obtain ⟨p', ev'⟩ := k
  refine ⟨pw_and p p', fun B F H σ sd d sd' S hm Q q => ?_⟩
  obtain ⟨x, sd1, h1, h2⟩ := bnd_some hm
  refine ev B F H σ sd x sd1 S h1 _ fun F1 H1 S1 e1 => ?_
  cases x with
  | true =>
    rw [if_pos rfl] at h2 ⊢
    exact ev' B F1 H1 σ sd1 d sd' S1 h2 Q fun F2 H2 S2 e2 => q F2 H2 S2 (e1.trans e2)
  | false =>
    rw [if_neg Bool.false_ne_true] at h2 ⊢
    obtain ⟨rfl, rfl⟩ := pur_some h2
    exact q F1 H1 S1 e1
theorem pw_ord (h : PTd X a tB' mB) (k : PWd X (.BoolOp .Or (b :: rest) pos) uB nB) : PWd X (.BoolOp .Or (a :: b :: rest) pos) (tOr tB' uB) (mOrB mB nB) := by
  obtain ⟨p, ev⟩ := h
  obtain ⟨p', ev'⟩ := k
  refine ⟨pw_or p p', fun B F H σ sd d sd' S hm Q q => ?_⟩
  obtain ⟨x, sd1, h1, h2⟩ := bnd_some hm
  refine ev B F H σ sd x sd1 S h1 _ fun F1 H1 S1 e1 => ?_
  cases x with
  | true =>
    rw [if_pos rfl] at h2 ⊢
    obtain ⟨rfl, rfl⟩ := pur_some h2
    exact q F1 H1 S1 e1
  | false =>
    rw [if_neg Bool.false_ne_true] at h2 ⊢
    exact ev' B F1 H1 σ sd1 d sd' S1 h2 Q fun F2 H2 S2 e2 => q F2 H2 S2 (e1.trans e2)
theorem pt_w (h : PWd X e tB' mB) : PTd X e tB' mB := by
  obtain ⟨p, ev⟩ := h
  exact ⟨p.pt, ev⟩
/-- .. as values -/
def mNotV (m : M D) : M D := bnd m fun d => bnd (lft (asB d)) fun b => pur (.bl (!b))
def mAndV (m n : M D) : M D := bnd m fun d => bnd (lft (asB d)) fun b => if b = true then n else pur (.bl false)
def mOrV (m n : M D) : M D := bnd m fun d => bnd (lft (asB d)) fun b => if b = true then pur (.bl true) else n
theorem pd_one {op} (h : PEd X a ta ma) : PEd X (.BoolOp op [a] pos) ta ma := by
  obtain ⟨p, ev⟩ := h
  exact ⟨pe_one p, ev⟩
theorem pd_not (h : PEd X a ta ma) : PEd X (.UnaryOp .Not a pos) (tNotV ta) (mNotV ma) := by
  obtain ⟨p, ev⟩ := h
  refine ⟨pe_not p, fun B F H σ sd d sd' S hm Q q => ?_⟩
  obtain ⟨x, sd1, h1, h2⟩ := bnd_some hm
  obtain ⟨y, sd2, h3, h4⟩ := bnd_some h2
  obtain ⟨h5, rfl⟩ := lft_some h3
  obtain ⟨rfl, rfl⟩ := pur_some h4
  obtain rfl := asB_some h5
  refine ev B F H σ sd _ _ S h1 _ fun v F1 H1 S1 e1 r1 => ?_
  unfold Rep at r1
  exact ⟨y, r1, q _ F1 H1 S1 e1 (by unfold Rep; rfl)⟩
theorem pd_and (h : PEd X a ta ma) (k : PEd X (.BoolOp .And (b :: rest) pos) tb mb) : PEd X (.BoolOp .And (a :: b :: rest) pos) (tAndV ta tb) (mAndV ma mb) := by
  obtain ⟨p, ev⟩ := h
  obtain ⟨p', ev'⟩ := k
  refine ⟨pe_and p p', fun B F H σ sd d sd' S hm Q q => ?_⟩
  obtain ⟨x, sd1, h1, h2⟩ := bnd_some hm
  obtain ⟨y, sd2, h3, h4⟩ := bnd_some h2
  obtain ⟨h5, rfl⟩ := lft_some h3
  obtain rfl := asB_some h5
  refine ev B F H σ sd _ _ S h1 _ fun v F1 H1 S1 e1 r1 => ?_
  unfold Rep at r1
  refine ⟨y, r1, ?_⟩
  cases y with
  | true =>
    rw [if_pos rfl] at h4 ⊢
    exact ev' B F1 H1 σ _ d sd' S1 h4 Q fun v2 F2 H2 S2 e2 r2 => q v2 F2 H2 S2 (e1.trans e2) r2
  | false =>
    rw [if_neg Bool.false_ne_true] at h4 ⊢
    obtain ⟨rfl, rfl⟩ := pur_some h4
    exact q _ F1 H1 S1 e1 (by unfold Rep; rfl)
theorem pd_or (h : PEd X a ta ma) (k : PEd X (.BoolOp .Or (b :: rest) pos) tb mb) : PEd X (.BoolOp .Or (a :: b :: rest) pos) (tOrV ta tb) (mOrV ma mb) := by
  obtain ⟨p, ev⟩ := h
  obtain ⟨p', ev'⟩ := k
  refine ⟨pe_or p p', fun B F H σ sd d sd' S hm Q q => ?_⟩
  obtain ⟨x, sd1, h1, h2⟩ := bnd_some hm
  obtain ⟨y, sd2, h3, h4⟩ := bnd_some h2
  obtain ⟨h5, rfl⟩ := lft_some h3
  obtain rfl := asB_some h5
  refine ev B F H σ sd _ _ S h1 _ fun v F1 H1 S1 e1 r1 => ?_
  unfold Rep at r1
  refine ⟨y, r1, ?_⟩
  cases y with
  | true =>
    rw [if_pos rfl] at h4 ⊢
    obtain ⟨rfl, rfl⟩ := pur_some h4
    exact q _ F1 H1 S1 e1 (by unfold Rep; rfl)
  | false =>
    rw [if_neg Bool.false_ne_true] at h4 ⊢
    exact ev' B F1 H1 σ _ d sd' S1 h4 Q fun v2 F2 H2 S2 e2 r2 => q v2 F2 H2 S2 (e1.trans e2) r2
/-- a if t else b -/
def mIf {α : Type} (t : M Bool) (ma mb : M α) : M α := bnd t fun c => if c = true then ma else mb
theorem pd_if (h : PTd X c tB' mB) (ha : PEd X a ta ma) (hb : PEd X b tb mb) : PEd X (.IfExp c a b pos) (tIf tB' ta tb) (mIf mB ma mb) := by
  obtain ⟨p, ev⟩ := h
  obtain ⟨pa, ea⟩ := ha
  obtain ⟨pb, eb⟩ := hb
  refine ⟨pe_ifExp p pa pb, fun B F H σ sd d sd' S hm Q q => ?_⟩
  obtain ⟨x, sd1, h1, h2⟩ := bnd_some hm
  refine ev B F H σ sd x sd1 S h1 _ fun F1 H1 S1 e1 => ?_
  cases x with
  | true =>
    rw [if_pos rfl] at h2 ⊢
    exact ea B F1 H1 σ sd1 d sd' S1 h2 Q fun v2 F2 H2 S2 e2 r2 => q v2 F2 H2 S2 (e1.trans e2) r2
  | false =>
    rw [if_neg Bool.false_ne_true] at h2 ⊢
    exact eb B F1 H1 σ sd1 d sd' S1 h2 Q fun v2 F2 H2 S2 e2 r2 => q v2 F2 H2 S2 (e1.trans e2) r2
/-- a op1 b op2 c -/
def mChain (g g' : D → D → Option D) (ma mb mc : M D) : M D := bnd ma fun x => bnd mb fun y => bnd (lft (g x y)) fun z => bnd (lft (asB z)) fun k => if k = true then bnd mc fun w => lft (g' y w) else pur (.bl false)
theorem ev_chain {r r' : R2} {g g' : D → D → Option D} {ta tb tc : TE} {K : PySem.W.Frag} {mg : Str → Option Value}
    (hr : ∀ (F H : Hp) (d1 d2 d : D) (v1 v2 : V), Ex F H → Rep K mg F d1 v1 → Rep K mg F d2 v2 → g d1 d2 = some d → ∀ Q : VK, (∀ v F' H', Grow F H F' H' → Rep K mg F' d v → Q v H') → r v1 v2 H Q)
    (hr' : ∀ (F H : Hp) (d1 d2 d : D) (v1 v2 : V), Ex F H → Rep K mg F d1 v1 → Rep K mg F d2 v2 → g' d1 d2 = some d → ∀ Q : VK, (∀ v F' H', Grow F H F' H' → Rep K mg F' d v → Q v H') → r' v1 v2 H Q)
    (ha : EvD K mg ta ma) (hb : EvD K mg tb mb) (hc : EvD K mg tc mc) : EvD K mg (tChain r r' ta tb tc) (mChain g g' ma mb mc) := fun B F H σ sd d sd' S hm Q q => by
  obtain ⟨x, sd1, h1, h2⟩ := bnd_some hm
  obtain ⟨y, sd2, h3, h4⟩ := bnd_some h2
  obtain ⟨z, sd3, h5, h6⟩ := bnd_some h4
  obtain ⟨h7, rfl⟩ := lft_some h5
  obtain ⟨k, sd4, h8, h9⟩ := bnd_some h6
  obtain ⟨h10, rfl⟩ := lft_some h8
  obtain rfl := asB_some h10
  refine ha B F H σ sd x sd1 S h1 _ fun v1 F1 H1 S1 e1 r1 => ?_
  refine hb B F1 H1 σ sd1 y _ S1 h3 _ fun v2 F2 H2 S2 e2 r2 => ?_
  refine hr F2 H2 x y _ v1 v2 S2.fh (r1.mono e2) r2 h7 _ fun v F3 H3 g3 r3 => ?_
  unfold Rep at r3
  refine ⟨k, r3, ?_⟩
  have S3 := S2.grow g3
  cases k with
  | true =>
    rw [if_pos rfl] at h9 ⊢
    obtain ⟨w, sd5, h11, h12⟩ := bnd_some h9
    obtain ⟨h13, rfl⟩ := lft_some h12
    refine hc B F3 H3 σ _ w _ S3 h11 _ fun v4 F4 H4 S4 e4 r4 => ?_
    exact hr' F4 H4 y w d v2 v4 S4.fh ((r2.mono g3.ff).mono e4) r4 h13 Q fun v F5 H5 g5 r5 => q v F5 H5 (S4.grow g5) (((e1.trans e2).trans g3.ff).trans (e4.trans g5.ff)) r5
  | false =>
    rw [if_neg Bool.false_ne_true] at h9 ⊢
    obtain ⟨rfl, rfl⟩ := pur_some h9
    exact q _ F3 H3 S3 ((e1.trans e2).trans g3.ff) (by unfold Rep; rfl)
theorem pd_chain {op op' : CmpOp} {g g' : D → D → Option D} (ho : OpD X (compareOp op) r g) (ho' : OpD X (compareOp op') r' g') (ha : PEd X a ta ma) (hb : PEd X b tb mb) (hc : PEd X c tc mc)
    (hm : lastMarks [op, op'] [b, c] = false := by with_unfolding_all rfl) : PEd X (.Compare a [op, op'] [b, c] pos) (tChain r r' ta tb tc) (mChain g g' ma mb mc) := by
  obtain ⟨h1, h2⟩ := ho
  obtain ⟨h1', h2'⟩ := ho'
  obtain ⟨pa, ea⟩ := ha
  obtain ⟨pb, eb⟩ := hb
  obtain ⟨pc, ec⟩ := hc
  exact ⟨pe_chain h1 h1' pa pb pc hm, ev_chain h2 h2' ea eb ec⟩
theorem pt_chaind {op op' : CmpOp} {g g' : D → D → Option D} (ho : OpD X (compareOp op) r g) (ho' : OpD X (compareOp op') r' g') (ha : PEd X a ta ma) (hb : PEd X b tb mb) (hc : PEd X c tc mc)
    (hm : lastMarks [op, op'] [b, c] = false := by with_unfolding_all rfl) : PTd X (.Compare a [op, op'] [b, c] pos) (tTest (tChain r r' ta tb tc)) (tst (mChain g g' ma mb mc)) := by
  obtain ⟨h1, h2⟩ := ho
  obtain ⟨h1', h2'⟩ := ho'
  obtain ⟨pa, ea⟩ := ha
  obtain ⟨pb, eb⟩ := hb
  obtain ⟨pc, ec⟩ := hc
  exact ⟨pt_chain h1 h1' pa pb pc hm, ev_test (ev_chain h2 h2' ea eb ec)⟩

/-! ### lists of arguments, displays -/
def mNil : M (List D) := pur []
def mCons (m : M D) (n : M (List D)) : M (List D) := bnd m fun d => bnd n fun ds => pur (d :: ds)
variable {es : List Expr} {mL : M (List D)}
theorem pa_nild : PAd X [] tNil mNil := by
  refine ⟨pa_nil, fun B F H σ sd d sd' S hm Q q => ?_⟩
  obtain ⟨rfl, rfl⟩ := pur_some hm
  exact q [] F H S (Evl.Ex.refl _) RepL.nil
theorem pa_consd (h : PEd X e ta ma) (k : PAd X es tL mL) (hs : starEach (e :: es) X.env = (false, eval e X.env) :: starEach es X.env := by rfl) : PAd X (e :: es) (tCons ta tL) (mCons ma mL) := by
  obtain ⟨p, ev⟩ := h
  obtain ⟨p', ev'⟩ := k
  refine ⟨pa_cons p p' hs, fun B F H σ sd d sd' S hm Q q => ?_⟩
  obtain ⟨x, sd1, h1, h2⟩ := bnd_some hm
  obtain ⟨ds, sd2, h3, h4⟩ := bnd_some h2
  obtain ⟨rfl, rfl⟩ := pur_some h4
  refine ev B F H σ sd x sd1 S h1 _ fun v F1 H1 S1 e1 r1 => ?_
  exact ev' B F1 H1 σ sd1 ds _ S1 h3 _ fun vs F2 H2 S2 e2 r2 => q (v :: vs) F2 H2 S2 (e1.trans e2) (RepL.cons (r1.mono e2) r2)
def lim {α : Type} (n : Nat) (a : α) : Option α := if n ≤ 100000 then some a else none
theorem lim_some {α : Type} {n : Nat} {a b : α} (h : lim n a = some b) : b = a ∧ n ≤ 100000 := by
  unfold lim at h
  by_cases z : n ≤ 100000
  · rw [if_pos z] at h
    cases h
    exact ⟨rfl, z⟩
  · rw [if_neg z] at h
    cases h
def mTup (m : M (List D)) : M D := bnd m fun ds => lft (lim ds.length (.tup ds))
def mLst (m : M (List D)) : M D := bnd m fun ds => lft (lim ds.length (.lst ds))
theorem rep_tup {K : PySem.W.Frag} {mg : Str → Option Value} {F : Hp} {p : Addr} {ds : List D} {vs : List V} (h : F p = some (.tup vs)) (r : RepL K mg F ds vs) : Rep K mg F (.tup ds) (.ref p) := by
  unfold Rep
  exact ⟨p, vs, rfl, Evl.st_of h, r⟩
theorem pd_tup {x1} (h : PAd X es tL mL) : PEd X (.Tuple es x1 pos) (tTup tL) (mTup mL) := by
  obtain ⟨p, ev⟩ := h
  refine ⟨pe_tup p, fun B F H σ sd d sd' S hm Q q => ?_⟩
  obtain ⟨ds, sd1, h1, h2⟩ := bnd_some hm
  obtain ⟨h3, rfl⟩ := lft_some h2
  obtain ⟨rfl, hl⟩ := lim_some h3
  refine ev B F H σ sd ds _ S h1 _ fun vs F1 H1 S1 e1 r1 => ⟨Evl.sz_of (by rw [← r1.len]; exact hl), fun p hp => ?_⟩
  have g := Grow.laid (o := .tup vs) S1.fh hp
  exact q _ _ _ (S1.grow g) (e1.trans g.ff) (rep_tup upd_same (r1.mono g.ff))
theorem pd_lst (h : PAd X es tL mL) : PEd X (.List es pos) (tLst tL) (mLst mL) := by
  obtain ⟨p, ev⟩ := h
  refine ⟨pe_lst p, fun B F H σ sd d sd' S hm Q q => ?_⟩
  obtain ⟨ds, sd1, h1, h2⟩ := bnd_some hm
  obtain ⟨h3, rfl⟩ := lft_some h2
  obtain ⟨rfl, hl⟩ := lim_some h3
  refine ev B F H σ sd ds _ S h1 _ fun vs F1 H1 S1 e1 r1 => ⟨Evl.sz_of (by rw [← r1.len]; exact hl), fun p hp => ?_⟩
  have g := Grow.laid (o := .lst vs) S1.fh hp
  exact q _ _ _ (S1.grow g) (e1.trans g.ff) (rep_lst upd_same (r1.mono g.ff))
/-- a call of a built-in -/
def mCall (g : List D → Option D) (m : M (List D)) : M D := bnd m fun ds => lft (g ds)
theorem ev_callB {r : List V → Hp → VK → Prop} {g : List D → Option D} {t : TA} {K : PySem.W.Frag} {mg : Str → Option Value}
    (hr : ∀ (F H : Hp) (ds : List D) (d : D) (vs : List V), Ex F H → RepL K mg F ds vs → g ds = some d → ∀ Q : VK, (∀ v F' H', Grow F H F' H' → Rep K mg F' d v → Q v H') → r vs H Q)
    (h : EvL K mg t mL) : EvD K mg (tCB r t) (mCall g mL) := fun B F H σ sd d sd' S hm Q q => by
  obtain ⟨ds, sd1, h1, h2⟩ := bnd_some hm
  obtain ⟨h3, rfl⟩ := lft_some h2
  refine h B F H σ sd ds _ S h1 _ fun vs F1 H1 S1 e1 r1 => ?_
  exact hr F1 H1 ds d vs S1.fh r1 h3 Q fun v F2 H2 g2 r2 => q v F2 H2 (S1.grow g2) (e1.trans g2.ff) r2
theorem pd_callB {id : String} {g : List D → Option D} {x : Str} {p : Pos} (hc : CallD X (.builtin id) rL g) (hg : Gl X x) (hm : X.mg x = none) (hv : bootBuiltins x = some (.builtin id)) (ha : PAd X (e :: es) tL mL) (hn : x ≠ "__name__" := by decide) (hdb : (x == ("__debug__" : Str)) = false := by decide)
    (he : starEach (e :: es) X.env = (false, eval e X.env) :: starEach es X.env := by rfl) (hpl : (backTo pos (starEach es X.env)).any (·.1) = false := by rfl) : PEd X (.Call (.Name x p) (e :: es) [] pos) (tCB rL tL) (mCall g mL) := by
  obtain ⟨h1, h2⟩ := hc
  obtain ⟨pa, ev⟩ := ha
  exact ⟨pe_callB h1 hg hm hv pa hn hdb he hpl, ev_callB h2 ev⟩
theorem pd_callTy {T : String} {g : List D → Option D} {x : Str} {p : Pos} (hc : CallD X (.type T) rL g) (hg : Gl X x) (hm : X.mg x = none) (hv : bootBuiltins x = some (.type T)) (ha : PAd X (e :: es) tL mL) (hn : x ≠ "__name__" := by decide) (hdb : (x == ("__debug__" : Str)) = false := by decide)
    (he : starEach (e :: es) X.env = (false, eval e X.env) :: starEach es X.env := by rfl) (hpl : (backTo pos (starEach es X.env)).any (·.1) = false := by rfl) : PEd X (.Call (.Name x p) (e :: es) [] pos) (tCB rL tL) (mCall g mL) := by
  obtain ⟨h1, h2⟩ := hc
  obtain ⟨pa, ev⟩ := ha
  exact ⟨pe_callTy h1 hg hm hv pa hn hdb he hpl, ev_callB h2 ev⟩
end

/-! ### statements -/
section
variable {X : Cx} {st : Stmt} {rest : List Stmt} {m n : M Out} {e : Expr} {ma : M D} {mB : M Bool} {pos : Pos} {ta : TE} {tB' : TT} {tS uS : TS} {tG : TG} {tGs : TGs} {tL : TA}
def mSeq (m n : M Out) : M Out := bnd m fun o => match o with
  | .nx => n
  | o => pur o
theorem pss_nild : PSsd X [] tNext (pur .nx) := by
  refine ⟨pss_nil, fun B F H σ sd o sd' S hm E w => ?_⟩
  obtain ⟨rfl, rfl⟩ := pur_some hm
  exact w σ F H S (Evl.Ex.refl _)
theorem pss_consd (h1 : PSd X st tS m) (h2 : PSsd X rest uS n) : PSsd X (st :: rest) (tSeq tS uS) (mSeq m n) := by
  obtain ⟨p, ev⟩ := h1
  obtain ⟨p', ev'⟩ := h2
  refine ⟨pss_cons p p', fun B F H σ sd o sd' S hm E w => ?_⟩
  obtain ⟨o1, sd1, h3, h4⟩ := bnd_some hm
  refine ev B F H σ sd o1 sd1 S h3 _ ?_
  cases o1 with
  | nx => exact fun σ1 F1 H1 S1 e1 => ev' B F1 H1 σ1 sd1 o sd' S1 h4 E (w.mono e1)
  | rt d =>
    obtain ⟨rfl, rfl⟩ := pur_some h4
    exact w
  | bk =>
    obtain ⟨rfl, rfl⟩ := pur_some h4
    exact w
  | ct =>
    obtain ⟨rfl, rfl⟩ := pur_some h4
    exact w
theorem pss_oned (h1 : PSd X st tS m) : PSsd X [st] tS m := by
  obtain ⟨p, ev⟩ := h1
  exact ⟨pss_one p, ev⟩
def mRet (m : M D) : M Out := bnd m fun d => pur (.rt d)
theorem ps_retd (h : PEd X e ta ma) : PSd X (.Return (some e) pos) (tRet ta) (mRet ma) := by
  obtain ⟨p, ev⟩ := h
  refine ⟨ps_ret p, fun B F H σ sd o sd' S hm E w => ?_⟩
  obtain ⟨d, sd1, h1, h2⟩ := bnd_some hm
  obtain ⟨rfl, rfl⟩ := pur_some h2
  exact ev B F H σ sd d _ S h1 _ fun v F1 H1 S1 e1 r1 => w v σ F1 H1 S1 e1 r1
def mDrop (m : M D) : M Out := bnd m fun _ => pur .nx
theorem ps_exprd (h : PEd X e ta ma) (hs : swapsWith e none pos.line X.env = pure false := by rfl) : PSd X (.Expr e pos) (tDrop ta) (mDrop ma) := by
  obtain ⟨p, ev⟩ := h
  refine ⟨ps_expr p hs, fun B F H σ sd o sd' S hm E w => ?_⟩
  obtain ⟨d, sd1, h1, h2⟩ := bnd_some hm
  obtain ⟨rfl, rfl⟩ := pur_some h2
  exact ev B F H σ sd d _ S h1 _ fun v F1 H1 S1 e1 _ => w σ F1 H1 S1 e1
theorem ps_passd : PSd X (.Pass pos) tNext (pur .nx) := by
  refine ⟨ps_pass, fun B F H σ sd o sd' S hm E w => ?_⟩
  obtain ⟨rfl, rfl⟩ := pur_some hm
  exact w σ F H S (Evl.Ex.refl _)
theorem ps_brk : PSd X (.Break pos) tBreak (pur .bk) := by
  refine ⟨ps_break, fun B F H σ sd o sd' S hm E w => ?_⟩
  obtain ⟨rfl, rfl⟩ := pur_some hm
  exact w σ F H S (Evl.Ex.refl _)
theorem ps_cnt : PSd X (.Continue pos) tCont (pur .ct) := by
  refine ⟨ps_continue, fun B F H σ sd o sd' S hm E w => ?_⟩
  obtain ⟨rfl, rfl⟩ := pur_some hm
  exact w σ F H S (Evl.Ex.refl _)
/-- a statement that is never reached in what is told here -/
theorem ps_no : PSd X st tNever (fun _ => none) := ⟨ps_never, fun B F H σ sd o sd' S hm E w => nomatch hm⟩
theorem ps_ifd {c : Expr} {a b : List Stmt} (hc : PTd X c tB' mB) (ha : PSsd X a tS m) (hb : PSsd X b uS n) : PSd X (.If c a b pos) (tIfS tB' tS uS) (mIf mB m n) := by
  obtain ⟨p, ev⟩ := hc
  obtain ⟨pa, ea⟩ := ha
  obtain ⟨pb, eb⟩ := hb
  refine ⟨ps_if p pa pb, fun B F H σ sd o sd' S hm E w => ?_⟩
  obtain ⟨x, sd1, h1, h2⟩ := bnd_some hm
  refine ev B F H σ sd x sd1 S h1 _ fun F1 H1 S1 e1 => ?_
  cases x with
  | true =>
    rw [if_pos rfl] at h2 ⊢
    exact ea B F1 H1 σ sd1 o sd' S1 h2 E (w.mono e1)
  | false =>
    rw [if_neg Bool.false_ne_true] at h2 ⊢
    exact eb B F1 H1 σ sd1 o sd' S1 h2 E (w.mono e1)
/-! ### targets -/
def mSet (i : Nat) (d : D) : M Unit := fun sd => if free0 i sd = true then some ((), sd.set i (.val d)) else none
theorem mSet_some {i : Nat} {d : D} {sd sd' : SD} {u : Unit} (h : mSet i d sd = some (u, sd')) : free0 i sd = true ∧ sd' = sd.set i (.val d) := by
  unfold mSet at h
  by_cases z : free0 i sd = true
  · rw [if_pos z] at h
    cases h
    exact ⟨z, rfl⟩
  · rw [if_neg z] at h
    cases h
theorem pg_named {i : Nat} {x : Str} (hN : X.N.Nodup) (hi : X.N[i]? = some x) (hx : Loc X.env.scope x) (hf : X.fn x = true ∨ X.env.scope.names.lookup x = some .local := by first | exact .inl rfl | exact .inr rfl | assumption) : PGd X (.Name x pos) (gName i) (mSet i) := by
  refine ⟨pg_name hN hi hx hf, fun B F H σ sd d v sd' S r hm Q q => ?_⟩
  obtain ⟨h0, rfl⟩ := mSet_some hm
  exact q _ F H (S.set i r h0) (Evl.Ex.refl _)
def mUnp : List (D → M Unit) → List D → M Unit
  | [], [] => pur ()
  | g :: gs, d :: ds => bnd (g d) fun _ => mUnp gs ds
  | _, _ => fun _ => none
def PGsd (X : Cx) (es : List Expr) (t : TGs) (gs : List (D → M Unit)) : Prop := PGs X es t ∧ es.length = gs.length ∧
  ∀ (B : Bs) (F H : Hp) (σ : L2.St) (sd : SD) (ds : List D) (vs : List V) (sd' : SD), Sta X.K X.mg B F H σ sd → RepL X.K X.mg F ds vs → mUnp gs ds sd = some ((), sd') →
    ∀ Q : L2.St → Hp → Prop, (∀ σ' F' H', Sta X.K X.mg B F' H' σ' sd' → Ex F F' → Q σ' H') → t vs σ H Q
theorem pgs_nild : PGsd X [] gNil [] := by
  refine ⟨pgs_nil, rfl, fun B F H σ sd ds vs sd' S r hm Q q => ?_⟩
  cases ds with
  | nil =>
    obtain ⟨_, rfl⟩ := pur_some hm
    exact ⟨r.nil_inv, q σ F H S (Evl.Ex.refl _)⟩
  | cons _ _ => cases hm
theorem pgs_consd {es : List Expr} {g : D → M Unit} {gs : List (D → M Unit)} (h1 : PGd X e tG g) (h2 : PGsd X es tGs gs)
    (hs : (assignEach (e :: es) X.env).map (·.2) = assign e X.env :: (assignEach es X.env).map (·.2) := by rfl) : PGsd X (e :: es) (gCons tG tGs) (g :: gs) := by
  obtain ⟨p, ev⟩ := h1
  obtain ⟨p', hl, ev'⟩ := h2
  refine ⟨pgs_cons p p' hs, by simp [hl], fun B F H σ sd ds vs sd' S r hm Q q => ?_⟩
  cases ds with
  | nil => cases hm
  | cons d ds =>
    obtain ⟨v, vr, rfl, r1, r2⟩ := r.cons_inv
    obtain ⟨⟨⟩, sd1, h3, h4⟩ := bnd_some hm
    refine ⟨v, vr, rfl, ev B F H σ sd d v sd1 S r1 h3 _ fun σ1 F1 H1 S1 e1 => ?_⟩
    exact ev' B F1 H1 σ1 sd1 ds vr sd' S1 (r2.mono e1) h4 Q fun σ2 F2 H2 S2 e2 => q σ2 F2 H2 S2 (e1.trans e2)
def mGtup (gs : List (D → M Unit)) (d : D) : M Unit := match d with
  | .tup ds => mUnp gs ds
  | _ => fun _ => none
theorem mUnp_len : ∀ {gs : List (D → M Unit)} {ds : List D} {sd : SD} {r : Unit × SD}, mUnp gs ds sd = some r → gs.length = ds.length
  | [], [], _, _, _ => rfl
  | g :: gs, d :: ds, sd, r, h => by
    obtain ⟨_, sd1, _, h2⟩ := bnd_some h
    rw [List.length_cons, List.length_cons, mUnp_len h2]
  | [], d :: ds, _, _, h => by cases h
  | g :: gs, [], _, _, h => by cases h
theorem pg_tupd {es : List Expr} {k : Nat} {gs : List (D → M Unit)} (hc : X.calm = true) (h : PGsd X es tGs gs)
    (hn : (assignEach es X.env).length = es.length := by rfl) (hst : (assignEach es X.env).findIdx? (·.1) = none := by rfl) : PGd X (.Tuple es k pos) (gTup X.K es.length tGs) (mGtup gs) := by
  obtain ⟨p, hl, ev⟩ := h
  refine ⟨pg_tup hc p hn hst, fun B F H σ sd d v sd' S r hm Q q => ?_⟩
  cases d with
  | tup ds =>
    unfold Rep at r
    obtain ⟨a, vs, rfl, h1, h2⟩ := r
    refine ⟨a, vs, rfl, Evl.ex_t S.fh h1, ?_, ev B F H σ sd ds vs sd' S h2 hm Q q⟩
    rw [← h2.len, hl, mUnp_len hm]
  | _ => cases hm
def mAsg (m : M D) (g : D → M Unit) : M Out := bnd m fun d => bnd (g d) fun _ => pur .nx
theorem ps_asgd {tg : Expr} {g : D → M Unit} (he : PEd X e ta ma) (hg : PGd X tg tG g) (hs : swapsWithSole [tg] e pos.line X.env = pure false := by rfl) (hw : swappedStores [tg] e X.env = pure none := by rfl)
    (h1 : (assignEach [tg] X.env).map (·.2) = [assign tg X.env] := by rfl) : PSd X (.Assign [tg] e pos) (tAsg ta tG) (mAsg ma g) := by
  obtain ⟨p, ev⟩ := he
  obtain ⟨p', ev'⟩ := hg
  refine ⟨ps_asg p p' hs hw h1, fun B F H σ sd o sd' S hm E w => ?_⟩
  obtain ⟨d, sd1, h3, h4⟩ := bnd_some hm
  obtain ⟨⟨⟩, sd2, h5, h6⟩ := bnd_some h4
  obtain ⟨rfl, rfl⟩ := pur_some h6
  refine ev B F H σ sd d sd1 S h3 _ fun v F1 H1 S1 e1 r1 => ?_
  exact ev' B F1 H1 σ sd1 d v _ S1 r1 h5 _ fun σ2 F2 H2 S2 e2 => w σ2 F2 H2 S2 (e1.trans e2)
/-- x = e -/
theorem ps_setd {i : Nat} {x : Str} {pos' : Pos} (hN : X.N.Nodup) (hi : X.N[i]? = some x) (hx : Loc X.env.scope x) (he : PEd X e ta ma) (hs : swapsWith e (some (.Name x pos')) pos.line X.env = pure false := by rfl) (hf : X.fn x = true ∨ X.env.scope.names.lookup x = some .local := by first | exact .inl rfl | exact .inr rfl | assumption) :
    PSd X (.Assign [.Name x pos'] e pos) (tAsg ta (gName i)) (mAsg ma (mSet i)) := by
  obtain ⟨p, ev⟩ := he
  refine ⟨ps_set hN hi hx p hs hf, fun B F H σ sd o sd' S hm E w => ?_⟩
  obtain ⟨d, sd1, h3, h4⟩ := bnd_some hm
  obtain ⟨⟨⟩, sd2, h5, h6⟩ := bnd_some h4
  obtain ⟨rfl, rfl⟩ := pur_some h6
  obtain ⟨h0, rfl⟩ := mSet_some h5
  exact ev B F H σ sd d sd1 S h3 _ fun v F1 H1 S1 e1 r1 => w _ F1 H1 (S1.set i r1 h0) e1
/-- a, b = e1, e2 with plain local names -/
theorem ps_pard {i j : Nat} {x y : Str} {a b : Expr} {px py pt : Pos} {kt k2 pt2} {mL : M (List D)} (hc : X.calm = true) (hN : X.N.Nodup) (hi : X.N[i]? = some x) (hj : X.N[j]? = some y) (hij : i ≠ j)
    (hx : X.env.scope.names.lookup x = some .local) (hy : X.env.scope.names.lookup y = some .local) (ha : PAd X [a, b] tL mL)
    (hw : swappedStores [.Tuple [.Name x px, .Name y py] kt pt] (.Tuple [a, b] k2 pt2) X.env = pure (some [x, y]))
    (hs : swapsWithSole [.Tuple [.Name x px, .Name y py] kt pt] (.Tuple [a, b] k2 pt2) pos.line X.env = pure false := by rfl) :
    PSd X (.Assign [.Tuple [.Name x px, .Name y py] kt pt] (.Tuple [a, b] k2 pt2) pos) (tPar i j tL) (bnd mL fun ds => bnd (mUnp [mSet i, mSet j] ds) fun _ => pur .nx) := by
  obtain ⟨p, ev⟩ := ha
  refine ⟨ps_par hc hN hi hj hij hx hy p hw hs, fun B F H σ sd o sd' S hm E w => ?_⟩
  obtain ⟨ds, sd1, h3, h4⟩ := bnd_some hm
  obtain ⟨⟨⟩, sd2, h5, h6⟩ := bnd_some h4
  obtain ⟨rfl, rfl⟩ := pur_some h6
  refine ev B F H σ sd ds sd1 S h3 _ fun vs F1 H1 S1 e1 r1 => ?_
  match ds, h5, r1 with
  | [d1, d2], h5, r1 =>
    obtain ⟨v1, r, rfl, q1, r2⟩ := r1.cons_inv
    obtain ⟨v2, r', rfl, q2, r3⟩ := r2.cons_inv
    obtain rfl := r3.nil_inv
    obtain ⟨⟨⟩, sd3, h7, h8⟩ := bnd_some h5
    obtain ⟨f7, rfl⟩ := mSet_some h7
    obtain ⟨⟨⟩, sd4, h9, h10⟩ := bnd_some h8
    obtain ⟨f9, rfl⟩ := mSet_some h9
    obtain ⟨_, rfl⟩ := pur_some h10
    exact ⟨v1, v2, rfl, w _ F1 H1 ((S1.set i q1 f7).set j q2 f9) e1⟩
  | [], h5, r1 => cases h5
  | [_], h5, r1 =>
    obtain ⟨⟨⟩, sd3, h7, h8⟩ := bnd_some h5
    cases h8
  | _ :: _ :: _ :: _, h5, r1 =>
    obtain ⟨⟨⟩, sd3, h7, h8⟩ := bnd_some h5
    obtain ⟨⟨⟩, sd4, h9, h10⟩ := bnd_some h8
    cases h10
end
end Mir
set_option linter.all false
set_option maxRecDepth 100000
set_option maxHeartbeats 4000000
namespace Mir
open PySem PySem.Spec L2
abbrev St' := L2.St

/-! ### a part of the run seen from its own beginning: what is not the state's own is kept -/
def Owns (sd : SD) (σ : St') (p : Addr) : Prop := ∃ (i : Nat) (xs : Cell), sd[i]? = some (.own xs) ∧ σ[i]? = some (some (V.ref p))
section
variable {K : PySem.W.Frag} {mg : Str → Option Value} {B : Bs} {F F' H H' : Hp} {σ : St'} {sd sd' : SD}
theorem Sta.own_at (S : Sta K mg B F H σ sd) {p : Addr} (h : Owns sd σ p) : ∃ vs, H p = some vs ∧ F p = none ∧ (B.H0 p = none ∨ p ∈ B.io) := by
  obtain ⟨i, xs, h1, h2⟩ := h
  obtain ⟨o, h3, q, vs, h4, h5, _, h6, h7⟩ := S.slot i _ h1
  rw [h3] at h2
  rw [h4] at h2
  cases h2
  exact ⟨vs, h5, h6, h7⟩
/-- the addresses of the state's own lists -/
def owned (sd : SD) (σ : St') : List Addr := (List.range sd.length).filterMap fun i => match sd[i]?, σ[i]? with
  | some (.own _), some (some (V.ref p)) => some p
  | _, _ => none
theorem mem_owned {p : Addr} : p ∈ owned sd σ ↔ Owns sd σ p := by
  unfold owned
  rw [List.mem_filterMap]
  constructor
  · rintro ⟨i, _, h⟩
    split at h
    · rename_i xs q h1 h2
      cases h
      exact ⟨i, xs, h1, h2⟩
    · cases h
  · rintro ⟨i, xs, h1, h2⟩
    refine ⟨i, List.mem_range.mpr ?_, ?_⟩
    · exact (List.getElem?_eq_some_iff.mp h1).1
    · rw [h1, h2]
/-- seen from here -/
def here (B : Bs) (F H : Hp) (sd : SD) (σ : St') : Bs := ⟨F, H, owned sd σ, B.par⟩
theorem Sta.down (S : Sta K mg B F H σ sd) : Sta K mg (here B F H sd σ) F H σ sd := by
  refine ⟨S.fh, Evl.Ex.refl _, fun a o h _ => h, fun a h => .inl h, fun p hp => ?_, S.len, fun i s h => ?_, S.inj, S.par⟩
  · obtain ⟨vs, h1, _⟩ := S.own_at (mem_owned.mp hp)
    rw [h1]
    exact fun z => nomatch z
  · obtain ⟨o, h1, h2⟩ := S.slot i s h
    refine ⟨o, h1, ?_⟩
    cases s with
    | no => exact True.intro
    | val d => exact h2
    | own xs =>
      obtain ⟨p, vs, rfl, h3, h4, h5, _⟩ := h2
      exact ⟨p, vs, rfl, h3, h4, h5, .inr (mem_owned.mpr ⟨i, xs, h, h1⟩)⟩
theorem Sta.up {σ' : St'} (S : Sta K mg B F H σ sd) (S' : Sta K mg (here B F H sd σ) F' H' σ' sd') : Sta K mg B F' H' σ' sd' := by
  refine ⟨S'.fh, S.f0.trans S'.f0, fun a o h1 h2 => ?_, fun a h => ?_, fun p hp => ?_, S'.len, fun i s h => ?_, S'.inj, S'.par⟩
  · refine S'.keep a o (S.keep a o h1 h2) fun hm => ?_
    obtain ⟨_, _, _, h3⟩ := S.own_at (mem_owned.mp hm)
    rcases h3 with h3 | h3
    · rw [h1] at h3
      cases h3
    · exact h2 h3
  · rcases S'.fresh a h with h1 | h1 | h1
    · exact S.fresh a h1
    · exact .inr (.inl (S.h0 h1))
    · obtain ⟨_, _, _, h2⟩ := S.own_at (mem_owned.mp h1)
      exact .inr h2
  · by_cases hm : p ∈ owned sd σ
    · exact S'.io p hm
    · cases e : H p with
      | none => exact absurd e (S.io p hp)
      | some o =>
        rw [S'.keep p o e hm]
        exact fun z => nomatch z
  · obtain ⟨o, h1, h2⟩ := S'.slot i s h
    refine ⟨o, h1, ?_⟩
    cases s with
    | no => exact True.intro
    | val d => exact h2
    | own xs =>
      obtain ⟨p, vs, rfl, h3, h4, h5, h6⟩ := h2
      refine ⟨p, vs, rfl, h3, h4, h5, ?_⟩
      rcases h6 with h6 | h6
      · exact .inl (S.h0 h6)
      · obtain ⟨_, _, _, h7⟩ := S.own_at (mem_owned.mp h6)
        exact h7
/-- a cell that is not the state's own, through a part of the run -/
structure Kept (F H : Hp) (sd : SD) (σ : St') (F' H' : Hp) (sd' : SD) (σ' : St') : Prop where
  val : ∀ p o, H p = some o → ¬ Owns sd σ p → H' p = some o ∧ ¬ Owns sd' σ' p
  off : ∀ p o, H p = some o → ¬ Owns sd σ p → F p = none → F' p = none
theorem Sta.kept {σ' : St'} (S' : Sta K mg (here B F H sd σ) F' H' σ' sd') : Kept F H sd σ F' H' sd' σ' := by
  refine ⟨fun p o h1 h2 => ⟨S'.keep p o h1 fun hm => h2 (mem_owned.mp hm), fun h3 => ?_⟩, fun p o h1 hO h2 => ?_⟩
  · obtain ⟨_, _, _, h4⟩ := S'.own_at h3
    rcases h4 with h4 | h4
    · have h5 : H p = none := h4
      rw [h1] at h5
      cases h5
    · exact h2 (mem_owned.mp h4)
  · cases e : F' p with
    | none => rfl
    | some u =>
      rcases S'.fresh p (by rw [e]; exact fun z => nomatch z) with h3 | h3 | h3
      · exact absurd h2 h3
      · have h5 : H p = none := h3
        rw [h1] at h5
        cases h5
      · exact absurd (mem_owned.mp h3) hO
theorem EvD.kept {te : TE} {m : M D} (ev : EvD K mg te m) {d : D} (S : Sta K mg B F H σ sd) (hm : m sd = some (d, sd')) (Q : VK)
    (q : ∀ v F' H', Sta K mg B F' H' σ sd' → Ex F F' → Rep K mg F' d v → Kept F H sd σ F' H' sd' σ → Q v H') : te σ H Q :=
  ev _ F H σ sd d sd' S.down hm Q fun v F' H' S' e r => q v F' H' (S.up S') e r S'.kept
theorem EvB.kept {tt : TT} {m : M Bool} (ev : EvB K mg tt m) {b : Bool} (S : Sta K mg B F H σ sd) (hm : m sd = some (b, sd')) (Q : Bool → Hp → Prop)
    (q : ∀ F' H', Sta K mg B F' H' σ sd' → Ex F F' → Kept F H sd σ F' H' sd' σ → Q b H') : tt σ H Q :=
  ev _ F H σ sd b sd' S.down hm Q fun F' H' S' e => q F' H' (S.up S') e S'.kept
/-- a list laid that is nobody's yet -/
theorem Sta.beside (S : Sta K mg B F H σ sd) {p : Addr} {o : HO} (h : H p = none) : Sta K mg B F (upd H p o) σ sd ∧ ¬ Owns sd σ p ∧ F p = none := by
  refine ⟨S.grow (Grow.heap S.fh (Evl.Ex.new h)), fun hO => ?_, Evl.fresh_back S.fh h⟩
  obtain ⟨vs, h1, _⟩ := S.own_at hO
  rw [h] at h1
  cases h1
/-- it is changed -/
theorem Sta.other (S : Sta K mg B F H σ sd) {p : Addr} {o o' : HO} (h : H p = some o) (hn : ¬ Owns sd σ p) (hF : F p = none) (h0 : B.H0 p = none) : Sta K mg B F (upd H p o') σ sd := by
  refine ⟨fun a u e => ?_, S.f0, fun a u h1 h2 => ?_, S.fresh, fun q hq => ?_, S.len, fun i s hs => ?_, S.inj, S.par⟩
  · by_cases z : a = p
    · subst z
      rw [hF] at e
      cases e
    · rw [upd_ne z]
      exact S.fh a u e
  · by_cases z : a = p
    · subst z
      rw [h0] at h1
      cases h1
    · rw [upd_ne z]
      exact S.keep a u h1 h2
  · by_cases z : q = p
    · subst z
      rw [upd_same]
      exact fun z => nomatch z
    · rw [upd_ne z]
      exact S.io q hq
  · obtain ⟨o1, h1, h2⟩ := S.slot i s hs
    refine ⟨o1, h1, ?_⟩
    cases s with
    | no => exact True.intro
    | val d => exact h2
    | own xs =>
      obtain ⟨q, vs, rfl, h3, h4, h5, h6⟩ := h2
      have z : q ≠ p := fun z => hn ⟨i, xs, hs, by rw [h1, z]⟩
      exact ⟨q, vs, rfl, by rw [upd_ne z]; exact h3, h4, h5, h6⟩
/-- it becomes a thing that stays -/
theorem Sta.froze (S : Sta K mg B F H σ sd) {p : Addr} {o : HO} (h : H p = some o) (hn : ¬ Owns sd σ p) (hF : F p = none) (h0 : B.H0 p = none) : Sta K mg B (upd F p o) H σ sd ∧ Ex F (upd F p o) := by
  have e1 : Ex F (upd F p o) := Evl.Ex.new hF
  refine ⟨⟨fun a u e => ?_, S.f0.trans e1, S.keep, fun a ha => ?_, S.io, S.len, fun i s hs => ?_, S.inj, S.par⟩, e1⟩
  · by_cases z : a = p
    · subst z
      rw [upd_same] at e
      cases e
      exact h
    · rw [upd_ne z] at e
      exact S.fh a u e
  · by_cases z : a = p
    · subst z
      exact .inr (.inl h0)
    · rw [upd_ne z] at ha
      exact S.fresh a ha
  · obtain ⟨o1, h1, h2⟩ := S.slot i s hs
    refine ⟨o1, h1, ?_⟩
    cases s with
    | no => exact True.intro
    | val d =>
      obtain ⟨v, h3, h4⟩ := h2
      exact ⟨v, h3, h4.mono e1⟩
    | own xs =>
      obtain ⟨q, vs, rfl, h3, h4, h5, h6⟩ := h2
      have z : q ≠ p := fun z => hn ⟨i, xs, hs, by rw [h1, z]⟩
      exact ⟨q, vs, rfl, h3, h4.mono e1, by rw [upd_ne z]; exact h5, h6⟩
end

/-! ### what is walked -/
section
variable (K : PySem.W.Frag) (mg : Str → Option Value)
def Walks (F : Hp) (J : It) (ds : List D) : Prop := ∃ (G : Hp → Prop) (Y : Nat → Hp → V → Hp → Prop), Walk J ds.length G Y ∧ (∀ H, Ex F H → G H) ∧
  ∀ (i : Nat) (F1 H1 : Hp) (x : V) (H2 : Hp) (d : D), Ex F F1 → Ex F1 H1 → Y i H1 x H2 → ds[i]? = some d → ∃ F2, Grow F1 H1 F2 H2 ∧ Rep K mg F2 d x
def ItD (wi : TI) (m : M (List D)) : Prop := ∀ (B : Bs) (F H : Hp) (σ : St') (sd : SD) (ds : List D) (sd' : SD), Sta K mg B F H σ sd → m sd = some (ds, sd') →
  ∀ R : It → Hp → Prop, (∀ J F' H', Sta K mg B F' H' σ sd' → Ex F F' → Walks K mg F' J ds → R J H') → wi σ H R
end
def PId (X : Cx) (tg iter : Expr) (w : TI) (m : M (List D)) : Prop := PI X tg iter w ∧ ItD X.K X.mg w m

/-! ### for -/
def forM (g : D → M Unit) (b : M Out) : List D → M Out
  | [] => pur .nx
  | d :: r => bnd (g d) fun _ => bnd b fun o => match o with
    | .nx => forM g b r
    | .ct => forM g b r
    | .bk => pur .nx
    | .rt d => pur (.rt d)
def mFor (it : M (List D)) (g : D → M Unit) (b : M Out) : M Out := bnd it fun ds => forM g b ds
section
variable {X : Cx} {iter tg : Expr} {body : List Stmt} {mi : M (List D)} {mgt : D → M Unit} {mb : M Out} {pos : Pos} {w : TI} {g : TG} {t : TS}
theorem ps_ford (hp : PassesOwn (model X.prog X.w) X.A X.env X.xe) (hc : X.calm = true) (hi : PId X tg iter w mi) (hg : PGd X tg g mgt) (hb : PSsd X body t mb)
    (hs : ∀ x, foldedSetIterable iter X.env x = pure x := by intro _; rfl) : PSd X (.For tg iter body [] pos) (tFor w g t) (mFor mi mgt mb) := by
  obtain ⟨p1, v1⟩ := hi
  obtain ⟨p2, v2⟩ := hg
  obtain ⟨p3, v3⟩ := hb
  refine ⟨ps_for hp hc p1 p2 p3 hs, fun B F H σ sd o sd' S hm E want => ?_⟩
  obtain ⟨ds, sd1, h1, h2⟩ := bnd_some hm
  refine v1 B F H σ sd ds sd1 S h1 _ fun J F1 H1 S1 e1 ⟨G, Y, wk, hG, hY⟩ => ?_
  refine for_it wk (fun i σ2 H2 => ∃ F2 sd2, Sta X.K X.mg B F2 H2 σ2 sd2 ∧ Ex F1 F2 ∧ forM mgt mb (ds.drop i) sd2 = some (o, sd')) ⟨F1, sd1, S1, Evl.Ex.refl _, h2⟩ (fun i σ2 H2 _ ⟨F2, sd2, S2, e2, _⟩ => hG H2 (e2.trans S2.fh)) ?_ ?_
  · rintro i x σ2 H2 H3 hlt ⟨F2, sd2, S2, e2, h3⟩ hy
    obtain ⟨F3, g3, r3⟩ := hY i F2 H2 x H3 ds[i] e2 S2.fh hy (by simp [hlt])
    have S3 := S2.grow g3
    rw [List.drop_eq_getElem_cons hlt] at h3
    obtain ⟨⟨⟩, sd4, h4, h5⟩ := bnd_some h3
    refine v2 B F3 H3 σ2 sd2 ds[i] x sd4 S3 r3 h4 _ fun σ4 F4 H4 S4 e4 => ?_
    obtain ⟨o5, sd5, h6, h7⟩ := bnd_some h5
    have e14 : Ex F1 F4 := (e2.trans g3.ff).trans e4
    refine v3 B F4 H4 σ4 sd4 o5 sd5 S4 h6 _ ?_
    cases o5 with
    | nx => exact fun σ5 F5 H5 S5 e5 => ⟨F5, sd5, S5, e14.trans e5, h7⟩
    | ct => exact fun σ5 F5 H5 S5 e5 => ⟨F5, sd5, S5, e14.trans e5, h7⟩
    | bk =>
      obtain ⟨rfl, rfl⟩ := pur_some h7
      exact fun σ5 F5 H5 S5 e5 => want σ5 F5 H5 S5 (e1.trans (e14.trans e5))
    | rt d =>
      obtain ⟨rfl, rfl⟩ := pur_some h7
      exact fun v σ5 F5 H5 S5 e5 r5 => want v σ5 F5 H5 S5 (e1.trans (e14.trans e5)) r5
  · rintro σ2 H2 ⟨F2, sd2, S2, e2, h3⟩
    rw [List.drop_length] at h3
    obtain ⟨rfl, rfl⟩ := pur_some h3
    exact want σ2 F2 H2 S2 (e1.trans e2)
end

/-! ### comprehensions -/
def wipeS (sd : SD) : List Nat → SD
  | [] => sd
  | v :: vs => (wipeS sd vs).set v .no
/-- the own lists as they are behind, all else as it was -/
def pick : Slot → Slot → Slot
  | .own _, b => b
  | a, _ => a
def back (sd sd2 : SD) : SD := List.zipWith pick sd sd2
def compL (vs : List Nat) (g : D → M Unit) (t : M Bool) (e : M D) : List D → M (List D)
  | [] => pur []
  | d :: r => fun sd => bnd (g d) (fun _ => bnd t fun b => if b = true then bnd e fun y => bnd (compL vs g t e r) fun ys => pur (y :: ys) else compL vs g t e r) (wipeS sd vs)
def mComp (it : M (List D)) (vs : List Nat) (g : D → M Unit) (t : M Bool) (e : M D) : M D := bnd it fun ds sd =>
  match compL vs g t e ds sd with
  | none => none
  | some (ys, sd2) => if ds.length ≤ 50000 then some (.lst ys, back sd (wipeS sd2 vs)) else none
theorem wipe_at {τ : St'} {u : Nat} : ∀ {us : List Nat}, u ∈ us → u < τ.length → (wipe τ us)[u]? = some none
  | [], h, _ => by simp at h
  | w :: ws, h, hl => by
    show ((wipe τ ws).set w none)[u]? = some none
    by_cases z : w = u
    · subst z
      rw [List.getElem?_set_self (by rw [wipe_length]; exact hl)]
    · rw [List.getElem?_set_ne z]
      rcases List.mem_cons.mp h with h | h
      · exact absurd h.symm z
      · exact wipe_at h hl
theorem wipe_wipe {τ : St'} {vs : List Nat} : ∀ {us : List Nat}, (∀ v ∈ us, v ∈ vs) → wipe (wipe τ vs) us = wipe τ vs
  | [], _ => rfl
  | u :: us, hu => by
    show (wipe (wipe τ vs) us).set u none = wipe τ vs
    rw [wipe_wipe fun v hv => hu v (by simp [hv])]
    refine List.ext_getElem? fun j => ?_
    by_cases z : u = j
    · subst z
      by_cases hl : u < (wipe τ vs).length
      · rw [List.getElem?_set_self hl, wipe_at (hu u (by simp)) (by rw [wipe_length] at hl; exact hl)]
      · rw [List.getElem?_eq_none (by simpa using hl), List.getElem?_eq_none (by simpa using hl)]
    · rw [List.getElem?_set_ne z]
theorem wipeS_length (sd : SD) : ∀ vs : List Nat, (wipeS sd vs).length = sd.length
  | [] => rfl
  | v :: vs => by unfold wipeS; rw [List.length_set, wipeS_length sd vs]
theorem wipe_ix {σ : St'} : ∀ {vs : List Nat} {i : Nat}, i ∉ vs → (wipe σ vs)[i]? = σ[i]?
  | [], i, _ => rfl
  | v :: vs, i, h => by
    have h1 : v ≠ i := fun e => h (by simp [e])
    have h2 : i ∉ vs := fun e => h (by simp [e])
    unfold wipe
    rw [List.getElem?_set_ne h1, wipe_ix h2]
theorem wipeS_ix {σ : SD} : ∀ {vs : List Nat} {i : Nat}, i ∉ vs → (wipeS σ vs)[i]? = σ[i]?
  | [], i, _ => rfl
  | v :: vs, i, h => by
    have h1 : v ≠ i := fun e => h (by simp [e])
    have h2 : i ∉ vs := fun e => h (by simp [e])
    unfold wipeS
    rw [List.getElem?_set_ne h1, wipeS_ix h2]
theorem wipeS_no {σ : SD} : ∀ {vs : List Nat} {i : Nat} {s : Slot}, i ∈ vs → (wipeS σ vs)[i]? = some s → s = .no
  | [], i, s, h, _ => by simp at h
  | v :: vs, i, s, h, e => by
    unfold wipeS at e
    by_cases z : v = i
    · subst z
      by_cases hl : v < (wipeS σ vs).length
      · rw [List.getElem?_set_self hl] at e
        cases e
        rfl
      · rw [List.getElem?_eq_none (by simpa using hl)] at e
        cases e
    · rw [List.getElem?_set_ne z] at e
      rcases List.mem_cons.mp h with h | h
      · exact absurd h.symm z
      · exact wipeS_no h e
section
variable {K : PySem.W.Frag} {mg : Str → Option Value} {B : Bs} {F F' H H' : Hp} {σ σ2 : St'} {sd sd2 : SD}
theorem Sta.wiped (S : Sta K mg B F H σ sd) : ∀ vs : List Nat, 0 ∉ vs → Sta K mg B F H (wipe σ vs) (wipeS sd vs)
  | [], _ => S
  | v :: vs, h0 => by
    unfold wipe wipeS
    exact (S.wiped vs fun h => h0 (by simp [h])).forget v none fun h => h0 (by simp [h])
theorem owns_wiped {p : Addr} {vs : List Nat} (h : ¬ Owns sd σ p) : ¬ Owns (wipeS sd vs) (wipe σ vs) p := fun ⟨i, xs, h1, h2⟩ => by
  by_cases hi : i ∈ vs
  · cases wipeS_no hi h1
  · rw [wipeS_ix hi] at h1
    rw [wipe_ix hi] at h2
    exact h ⟨i, xs, h1, h2⟩
theorem back_ix {i : Nat} {s : Slot} (h : (back sd sd2)[i]? = some s) : ∃ a b, sd[i]? = some a ∧ sd2[i]? = some b ∧ s = pick a b := by
  unfold back at h
  rw [List.getElem?_zipWith] at h
  cases e1 : sd[i]? with
  | none => rw [e1] at h; simp at h
  | some a =>
    cases e2 : sd2[i]? with
    | none => rw [e1, e2] at h; simp at h
    | some b =>
      rw [e1, e2] at h
      simp at h
      exact ⟨a, b, rfl, rfl, h.symm⟩
/-- behind a block: its own names are forgotten -/
theorem Sta.back {F0 H0 : Hp} (S : Sta K mg B F0 H0 σ sd) (e : Ex F0 F) {vs : List Nat} (S2 : Sta K mg B F H σ2 sd2) (hw : wipe σ2 vs = wipe σ vs) (h0 : 0 ∉ vs) : Sta K mg B F H σ (back sd (wipeS sd2 vs)) := by
  have S3 := S2.wiped vs h0
  rw [hw] at S3
  have hl : (wipeS sd2 vs).length = sd.length := by rw [S3.len, wipe_length, S.len]
  refine ⟨S3.fh, S3.f0, S3.keep, S3.fresh, S3.io, ?_, fun i s hs => ?_, fun i j xs ys p h1 h2 h3 h4 => ?_, fun p hp => ?_⟩
  · unfold Mir.back
    rw [List.length_zipWith, hl, Nat.min_self, S.len]
  · obtain ⟨a, b, h1, h2, rfl⟩ := back_ix hs
    obtain ⟨o, h3, h4⟩ := S.slot i a h1
    refine ⟨o, h3, ?_⟩
    cases a with
    | no => exact True.intro
    | val d =>
      obtain ⟨v, h5, h6⟩ := h4
      exact ⟨v, h5, h6.mono e⟩
    | own xs =>
      show SlotOk K mg B F H o b
      by_cases hi : i ∈ vs
      · obtain rfl := wipeS_no hi h2
        exact True.intro
      · obtain ⟨o', h5, h6⟩ := S3.slot i b h2
        rw [wipe_ix hi, h3] at h5
        cases h5
        exact h6
  · have key : ∀ {i : Nat} {xs : Cell}, (Mir.back sd (wipeS sd2 vs))[i]? = some (.own xs) → (wipeS sd2 vs)[i]? = some (.own xs) ∧ i ∉ vs := fun {i xs} h => by
      obtain ⟨a, b, h1, h2, h3⟩ := back_ix h
      cases a with
      | no => cases h3
      | val d => cases h3
      | own zs =>
        have h4 : Slot.own xs = b := h3
        subst h4
        refine ⟨h2, fun hi => ?_⟩
        cases wipeS_no hi h2
    obtain ⟨k1, n1⟩ := key h1
    obtain ⟨k2, n2⟩ := key h2
    exact S3.inj i j xs ys p k1 k2 (by rw [wipe_ix n1]; exact h3) (by rw [wipe_ix n2]; exact h4)
  · obtain ⟨h1, xs, h2⟩ := S.par p hp
    obtain ⟨_, ys, h4⟩ := S3.par p hp
    refine ⟨h1, ys, ?_⟩
    unfold Mir.back
    rw [List.getElem?_zipWith, h2, h4]
    rfl
theorem owns_back {p : Addr} {vs : List Nat} (h : ¬ Owns sd2 σ2 p) (hw : wipe σ2 vs = wipe σ vs) : ¬ Owns (Mir.back sd (wipeS sd2 vs)) σ p := fun ⟨i, xs, h1, h2⟩ => by
  obtain ⟨a, b, h3, h4, h5⟩ := back_ix h1
  cases a with
  | no => cases h5
  | val d => cases h5
  | own zs =>
    have h6 : Slot.own xs = b := h5
    subst h6
    by_cases hi : i ∈ vs
    · cases wipeS_no hi h4
    · rw [wipeS_ix hi] at h4
      have h7 : (wipe σ2 vs)[i]? = (wipe σ vs)[i]? := by rw [hw]
      rw [wipe_ix hi, wipe_ix hi] at h7
      exact h ⟨i, xs, h4, by rw [h7]; exact h2⟩
end
/-- a target whose names are among vs -/
def GtC (K : PySem.W.Frag) (mg : Str → Option Value) (vs : List Nat) (g : TG) (m : D → M Unit) : Prop := ∀ (B : Bs) (F H : Hp) (σ : St') (sd : SD) (d : D) (v : V) (sd' : SD), Sta K mg B F H σ sd → Rep K mg F d v → m d sd = some ((), sd') →
  ∀ Q : St' → Hp → Prop, (∀ σ', Sta K mg B F H σ' sd' → wipe σ' vs = wipe σ vs → (∀ p, ¬ Owns sd σ p → ¬ Owns sd' σ' p) → Q σ' H) → g v σ H Q
def PGc (X : Cx) (vs : List Nat) (e : Expr) (g : TG) (m : D → M Unit) : Prop := PG X e g ∧ GtC X.K X.mg vs g m
theorem wipe_set {σ : St'} {o : Option V} {i : Nat} : ∀ {vs : List Nat}, i ∈ vs → wipe (σ.set i o) vs = wipe σ vs
  | [], h => by simp at h
  | v :: vs, h => by
    unfold wipe
    by_cases hi : i ∈ vs
    · rw [wipe_set hi]
    · have e : i = v := by
        rcases List.mem_cons.mp h with h | h
        · exact h
        · exact absurd h hi
      subst e
      have key : ∀ {vs : List Nat}, i ∉ vs → wipe (σ.set i o) vs = (wipe σ vs).set i o := by
        intro vs
        induction vs with
        | nil => intro _; rfl
        | cons w ws ih =>
          intro hn
          have h1 : i ≠ w := fun e => hn (by simp [e])
          have h2 : i ∉ ws := fun e => hn (by simp [e])
          unfold wipe
          rw [ih h2, List.set_comm _ _ h1]
      rw [key hi, List.set_set]
theorem owns_set {sd : SD} {σ : St'} {i : Nat} {d : D} {v : V} {p : Addr} (h : ¬ Owns sd σ p) : ¬ Owns (sd.set i (.val d)) (σ.set i (some v)) p := fun ⟨j, xs, h1, h2⟩ => by
  by_cases z : i = j
  · subst z
    by_cases hl : i < sd.length
    · rw [List.getElem?_set_self hl] at h1
      cases h1
    · rw [List.getElem?_eq_none (by simpa using hl)] at h1
      cases h1
  · rw [List.getElem?_set_ne z] at h1 h2
    exact h ⟨j, xs, h1, h2⟩
section
variable {X : Cx} {pos : Pos} {vs : List Nat}
theorem pgc_name {i : Nat} {x : Str} (hi : i ∈ vs) (h : PG X (.Name x pos) (gName i)) : PGc X vs (.Name x pos) (gName i) (mSet i) := by
  refine ⟨h, fun B F H σ sd d v sd' S r hm Q q => ?_⟩
  obtain ⟨h0, rfl⟩ := mSet_some hm
  exact q _ (S.set i r h0) (wipe_set hi) fun p hp => owns_set hp
def PGcs (X : Cx) (vs : List Nat) (es : List Expr) (t : TGs) (ms : List (D → M Unit)) : Prop := PGs X es t ∧ es.length = ms.length ∧
  ∀ (B : Bs) (F H : Hp) (σ : St') (sd : SD) (ds : List D) (ws : List V) (sd' : SD), Sta X.K X.mg B F H σ sd → RepL X.K X.mg F ds ws → mUnp ms ds sd = some ((), sd') →
    ∀ Q : St' → Hp → Prop, (∀ σ', Sta X.K X.mg B F H σ' sd' → wipe σ' vs = wipe σ vs → (∀ p, ¬ Owns sd σ p → ¬ Owns sd' σ' p) → Q σ' H) → t ws σ H Q
theorem pgcs_nil : PGcs X vs [] gNil [] := by
  refine ⟨pgs_nil, rfl, fun B F H σ sd ds ws sd' S r hm Q q => ?_⟩
  cases ds with
  | nil =>
    obtain ⟨_, rfl⟩ := pur_some hm
    exact ⟨r.nil_inv, q σ S rfl fun _ h => h⟩
  | cons _ _ => cases hm
theorem pgcs_cons {e : Expr} {es : List Expr} {g : TG} {t : TGs} {m : D → M Unit} {ms : List (D → M Unit)} (h1 : PGc X vs e g m) (h2 : PGcs X vs es t ms)
    (hs : (assignEach (e :: es) X.env).map (·.2) = assign e X.env :: (assignEach es X.env).map (·.2) := by rfl) : PGcs X vs (e :: es) (gCons g t) (m :: ms) := by
  obtain ⟨p, ev⟩ := h1
  obtain ⟨p', hl, ev'⟩ := h2
  refine ⟨pgs_cons p p' hs, by simp [hl], fun B F H σ sd ds ws sd' S r hm Q q => ?_⟩
  cases ds with
  | nil => cases hm
  | cons d ds =>
    obtain ⟨v, vr, rfl, r1, r2⟩ := r.cons_inv
    obtain ⟨⟨⟩, sd1, h3, h4⟩ := bnd_some hm
    refine ⟨v, vr, rfl, ev B F H σ sd d v sd1 S r1 h3 _ fun σ1 S1 w1 o1 => ?_⟩
    exact ev' B F H σ1 sd1 ds vr sd' S1 r2 h4 Q fun σ2 S2 w2 o2 => q σ2 S2 (w2.trans w1) fun a ha => o2 a (o1 a ha)
theorem pgc_tup {es : List Expr} {k : Nat} {t : TGs} {ms : List (D → M Unit)} {n : Nat} (hc : X.calm = true) (h : PGcs X vs es t ms) (hn' : n = es.length := by rfl)
    (hn : (assignEach es X.env).length = n := by rfl) (hst : (assignEach es X.env).findIdx? (·.1) = none := by rfl) : PGc X vs (.Tuple es k pos) (gTup X.K n t) (mGtup ms) := by
  obtain ⟨p, hl, ev⟩ := h
  refine ⟨pg_tup hc p hn hst, fun B F H σ sd d v sd' S r hm Q q => ?_⟩
  cases d with
  | tup ds =>
    unfold Rep at r
    obtain ⟨a, ws, rfl, h1, h2⟩ := r
    refine ⟨a, ws, rfl, Evl.ex_t S.fh h1, ?_, ev B F H σ sd ds ws sd' S h2 hm Q q⟩
    rw [← h2.len, hn', hl, mUnp_len hm]
  | _ => cases hm
end
def PTsd (X : Cx) (es : List Expr) (t : TT) (m : M Bool) : Prop := PTs X es t ∧ EvB X.K X.mg t m
theorem pts_nild {X : Cx} : PTsd X [] tYes (pur true) := ⟨pts_nil, fun B F H σ sd b sd' S hm Q q => by
  obtain ⟨rfl, rfl⟩ := pur_some hm
  exact q F H S (Evl.Ex.refl _)⟩
section
variable {K : PySem.W.Frag} {mg : Str → Option Value}
theorem ev_comp {wi : TI} {g : TG} {tt : TT} {te : TE} {vs : List Nat} {mi : M (List D)} {mgt : D → M Unit} {mt : M Bool} {me : M D}
    (v1 : ItD K mg wi mi) (v2 : GtC K mg vs g mgt) (v3 : EvB K mg tt mt) (v4 : EvD K mg te me) (h0 : 0 ∉ vs) : EvD K mg (tLc wi g tt te vs) (mComp mi vs mgt mt me) := fun B F H σ sd d sd' S hm Q q => by
  obtain ⟨ds, sd1, h1, h2⟩ := bnd_some hm
  refine v1 B F H σ sd ds sd1 S h1 _ fun J F1 H1 S1 e1 ⟨G, Y, wk, hG, hY⟩ => ?_
  intro L hL
  cases e : compL vs mgt mt me ds sd1 with
  | none => rw [e] at h2; cases h2
  | some pr =>
    obtain ⟨ys, sdE⟩ := pr
    rw [e] at h2
    by_cases hz : ds.length ≤ 50000
    case neg =>
      have h2' : (if ds.length ≤ 50000 then some (D.lst ys, Mir.back sd1 (wipeS sdE vs)) else none) = some (d, sd') := h2
      rw [if_neg hz] at h2'
      cases h2'
    have h2' : (if ds.length ≤ 50000 then some (D.lst ys, Mir.back sd1 (wipeS sdE vs)) else none) = some (d, sd') := h2
    rw [if_pos hz] at h2'
    obtain ⟨rfl, rfl⟩ : D.lst ys = d ∧ Mir.back sd1 (wipeS sdE vs) = sd' := by
      cases h2'
      exact ⟨rfl, rfl⟩
    obtain ⟨Sb, nO, nF⟩ := S1.beside (o := HO.lst []) hL
    have hL0 : B.H0 L = none := S1.h0 hL
    refine lc_it wk (fun i H2 => ∃ (F2 : Hp) (σ2 : St') (sd2 : SD) (acc : List V) (zs rs : List D), Sta K mg B F2 H2 σ2 sd2 ∧ Ex F1 F2 ∧ wipe σ2 vs = wipe σ vs ∧ ¬ Owns sd2 σ2 L ∧ F2 L = none ∧ H2 L = some (.lst acc) ∧ RepL K mg F2 zs acc ∧ acc.length ≤ i ∧
      compL vs mgt mt me (ds.drop i) sd2 = some (rs, sdE) ∧ zs ++ rs = ys)
      ⟨F1, σ, sd1, [], [], ys, Sb, Evl.Ex.refl _, rfl, nO, nF, upd_same, RepL.nil, Nat.le_refl _, e, rfl⟩ (fun i H2 _ ⟨F2, σ2, sd2, acc, zs, rs, S2, e2, _⟩ => hG H2 (e2.trans S2.fh)) ?_ ?_
    · rintro i x H2 H3 hlt ⟨F2, σ2, sd2, acc, zs, rs, S2, e2, w2, n2, f2, a2, r2, l2, c2, y2⟩ hy
      obtain ⟨F3, g3, r3⟩ := hY i F2 H2 x H3 ds[i] e2 S2.fh hy (by simp [hlt])
      have S3 := (S2.grow g3).wiped vs h0
      rw [w2] at S3
      rw [List.drop_eq_getElem_cons hlt] at c2
      obtain ⟨⟨⟩, sd4, h4, h5⟩ := bnd_some (show bnd (mgt ds[i]) _ (wipeS sd2 vs) = _ from c2)
      have a3 : H3 L = some (.lst acc) := g3.hh _ _ a2
      have f3 : F3 L = none := by
        cases q3 : F3 L with
        | none => rfl
        | some u =>
          rcases g3.new L (by rw [q3]; exact fun z => nomatch z) with h | h
          · exact absurd f2 h
          · rw [a2] at h
            cases h
      have n3 : ¬ Owns (wipeS sd2 vs) (wipe σ vs) L := by
        rw [← w2]
        exact owns_wiped n2
      refine v2 B F3 H3 (wipe σ vs) (wipeS sd2 vs) ds[i] x sd4 S3 r3 h4 _ fun σ4 S4 w4 o4 => ?_
      have w4' : wipe σ4 vs = wipe σ vs := by
        rw [w4]
        exact wipe_wipe fun v h => h
      refine ⟨w4', ?_⟩
      obtain ⟨b, sd5, h6, h7⟩ := bnd_some h5
      refine v3.kept S4 h6 _ fun F5 H5 S5 e5 k5 => ?_
      obtain ⟨a5, n5⟩ := k5.val L _ a3 (o4 L n3)
      have f5 := k5.off L _ a3 (o4 L n3) f3
      have e15 : Ex F1 F5 := (e2.trans g3.ff).trans e5
      have r5 := (r2.mono g3.ff).mono e5
      cases b with
      | false =>
        rw [if_neg Bool.false_ne_true] at h7 ⊢
        exact ⟨F5, σ4, sd5, acc, zs, rs, S5, e15, w4', n5, f5, a5, r5, by omega, h7, y2⟩
      | true =>
        rw [if_pos rfl] at h7 ⊢
        obtain ⟨y, sd6, h8, h9⟩ := bnd_some h7
        obtain ⟨rs', sd7, h10, h11⟩ := bnd_some h9
        obtain ⟨rfl, rfl⟩ := pur_some h11
        refine v4.kept S5 h8 _ fun v F6 H6 S6 e6 r6 k6 => ?_
        obtain ⟨a6, n6⟩ := k6.val L _ a5 n5
        have f6 := k6.off L _ a5 n5 f5
        refine ⟨acc, a6, Evl.sz_lt (by omega), F6, σ4, sd6, acc ++ [v], zs ++ [y], rs', S6.other a6 n6 f6 hL0, e15.trans e6, w4', n6, f6, upd_same, RepL.append (r5.mono e6) (RepL.cons r6 RepL.nil), by rw [List.length_append]; simp; omega, h10, by rw [← y2]; simp⟩
    · rintro H2 ⟨F2, σ2, sd2, acc, zs, rs, S2, e2, w2, n2, f2, a2, r2, l2, c2, y2⟩
      rw [List.drop_length] at c2
      obtain ⟨rfl, rfl⟩ := pur_some c2
      rw [List.append_nil] at y2
      subst y2
      have S3 := S1.back e2 S2 w2 h0
      have n3 : ¬ Owns (Mir.back sd1 (wipeS sdE vs)) σ L := owns_back n2 w2
      obtain ⟨S4, e4⟩ := S3.froze a2 n3 f2 hL0
      exact q _ _ _ S4 ((e1.trans e2).trans e4) (rep_lst upd_same (r2.mono e4))
end
section
variable {X : Cx} {elt tg iter : Expr} {ifs : List Expr} {scope : Scope} {own : List (Str × Nat)} {pos : Pos} {w : TI} {g : TG} {tt : TT} {te : TE} {mi : M (List D)} {mgt : D → M Unit} {mt : M Bool} {me : M D}
/-- a block's context -/
abbrev blkOf (X : Cx) (scope : Scope) (s : Shared) (H : Hp) (C : Addr) (cl : List (Str × Addr)) (fp : List Addr) : Cx := X.blk s H scope (compEnvC scope cl C X.env) fp
theorem pd_comp (hc : X.calm = true) (hN : X.N.Nodup) (hi : PId X tg iter w mi) (ok : blkC X.N X.env.scope scope own = true)
    (hg : ∀ (s : Shared) (H : Hp) (C : Addr) (cl : List (Str × Addr)) (fp : List Addr), PGc (blkOf X scope s H C cl fp) (own.map (·.2)) tg g mgt)
    (ht : ∀ (s : Shared) (H : Hp) (C : Addr) (cl : List (Str × Addr)) (fp : List Addr), PTsd (blkOf X scope s H C cl fp) ifs tt mt)
    (he : ∀ (s : Shared) (H : Hp) (C : Addr) (cl : List (Str × Addr)) (fp : List Addr), PEd (blkOf X scope s H C cl fp) elt te me) (s0 : Shared) (h0 : 0 ∉ own.map (·.2) := by decide)
    (hs : ∀ x, foldedSetIterable iter X.env x = pure x := by intro _; rfl) :
    PEd X (.ListComp elt [⟨tg, iter, ifs, 0⟩] scope pos) (tLc w g tt te (own.map (·.2))) (mComp mi (own.map (·.2)) mgt mt me) := by
  obtain ⟨p1, v1⟩ := hi
  exact ⟨pe_lc hc hN p1 (blkOk_by ok) (fun s H C cl fp => (hg s H C cl fp).1) (fun s H C cl fp => (ht s H C cl fp).1) (fun s H C cl fp => (he s H C cl fp).1) hs,
    ev_comp v1 (hg s0 (fun _ => none) 0 [] []).2 (ht s0 (fun _ => none) 0 [] []).2 (he s0 (fun _ => none) 0 [] []).2 h0⟩
/-- y = [..] -/
theorem ps_setComp {i : Nat} {y : Str} {py spos : Pos} (hc : X.calm = true) (hN : X.N.Nodup) (hy : X.N[i]? = some y) (hyl : X.env.scope.names.lookup y = some .local)
    (hsw : swapsWith (.ListComp elt [⟨tg, iter, ifs, 0⟩] scope pos) (some (.Name y py)) spos.line X.env = pure true) (hi : PId X tg iter w mi) (ok : blkC X.N X.env.scope scope own = true)
    (hg : ∀ (s : Shared) (H : Hp) (C : Addr) (cl : List (Str × Addr)) (fp : List Addr), PGc (blkOf X scope s H C cl fp) (own.map (·.2)) tg g mgt)
    (ht : ∀ (s : Shared) (H : Hp) (C : Addr) (cl : List (Str × Addr)) (fp : List Addr), PTsd (blkOf X scope s H C cl fp) ifs tt mt)
    (he : ∀ (s : Shared) (H : Hp) (C : Addr) (cl : List (Str × Addr)) (fp : List Addr), PEd (blkOf X scope s H C cl fp) elt te me) (s0 : Shared) (h0 : 0 ∉ own.map (·.2) := by decide)
    (hs : ∀ x, foldedSetIterable iter X.env x = pure x := by intro _; rfl) :
    PSd X (.Assign [.Name y py] (.ListComp elt [⟨tg, iter, ifs, 0⟩] scope pos) spos) (tAsg (tLc w g tt te (own.map (·.2))) (gName i)) (mAsg (mComp mi (own.map (·.2)) mgt mt me) (mSet i)) := by
  obtain ⟨p1, v1⟩ := hi
  refine ⟨ps_setLc hc hN hy hyl hsw p1 (blkOk_by ok) (fun s H C cl fp => (hg s H C cl fp).1) (fun s H C cl fp => (ht s H C cl fp).1) (fun s H C cl fp => (he s H C cl fp).1) hs, fun B F H σ sd o sd' S hm E want => ?_⟩
  have ev := ev_comp v1 (hg s0 (fun _ => none) 0 [] []).2 (ht s0 (fun _ => none) 0 [] []).2 (he s0 (fun _ => none) 0 [] []).2 h0
  obtain ⟨d, sd1, h3, h4⟩ := bnd_some hm
  obtain ⟨⟨⟩, sd2, h5, h6⟩ := bnd_some h4
  obtain ⟨rfl, rfl⟩ := pur_some h6
  obtain ⟨f5, rfl⟩ := mSet_some h5
  exact ev B F H σ sd d sd1 S h3 _ fun v F1 H1 S1 e1 r1 => want _ F1 H1 (S1.set i r1 f5) e1
end
end Mir
set_option linter.all false
set_option maxRecDepth 100000
set_option maxHeartbeats 4000000
namespace Mir
open PySem PySem.Spec L2
open PyProof.Rows (envOfC)

/-! ### what a def keeps, where nothing is being shown around it -/
structure FnG (P : Program) (w : World) (K : PySem.W.Frag) (mg : Str → Option Value) (base : Heap) (CX : CXT) (k : Nat) (f : Addr) (fd : FuncData) (ps : List Str) (sp : Sp) : Prop where
  len : ∀ vs H Q E, sp vs H Q E → vs.length = ps.length
  go : ∀ (A : Around) (outer : List Env) (s : Shared) (H : Hp) (args : Args) (us : List Value) (vs : List V) (Q : VK) (E : XK), Room k A → A.guards = some [] → Env0 P w K mg base A outer s H →
    BindsTo s fd args (ps.zip us) → Vals vs us → sp vs H Q E → codeAny (model P w) A (.call (.ref f) args) (CR CX outer P w H s Q E) s
section
variable {P : Program} {w : World} {K : PySem.W.Frag} {mg : Str → Option Value} {base : Heap} {CX : CXT} {k : Nat} {f : Addr} {fd : FuncData} {ps : List Str} {sp : Sp}
theorem FnG.mono {j : Nat} (F : FnG P w K mg base CX j f fd ps sp) (h : j ≤ k) : FnG P w K mg base CX k f fd ps sp := ⟨F.len, fun A o s H a us vs Q E hr => F.go A o s H a us vs Q E (hr.mono h)⟩
theorem FnG.imp {sp' : Sp} (F : FnG P w K mg base CX k f fd ps sp) (h : ∀ vs H Q E, sp' vs H Q E → sp vs H Q E) : FnG P w K mg base CX k f fd ps sp' :=
  ⟨fun vs H Q E q => F.len vs H Q E (h _ _ _ _ q), fun A o s H a us vs Q E hr hg e0 hb r q => F.go A o s H a us vs Q E hr hg e0 hb r (h _ _ _ _ q)⟩
theorem deeper_guards {A : Around} {env : Env} (h : A.guards = some []) : (A.deeper env).guards = some [] := h
/-- a def of the text, by its body -/
theorem fng_of {name qual : Str} {params : Arguments} {body : List Stmt} {scope : Scope} {dV kV doc pm cdv ct oc : Value} {an od : Option Addr} {osl : Array (Option Value)} {N : List Str}
    (lk : K.lookup f = some ⟨oc, od, .func (PySem.W.fnOf name qual params body scope dV kV doc pm an cdv ct), osl⟩) (hcd : PySem.W.codeIn K cdv qual = true) (S : FnScope N ps scope) (len : ∀ vs H Q E, sp vs H Q E → vs.length = ps.length)
    (hbody : ∀ (A : Around) (outer : List Env) (s : Shared) (H : Hp) (vs : List V) (Q : VK) (E : XK), Room k (A.deeper (envOfC qual scope s.heap.objs.size f cdv)) → A.guards = some [] → sp vs H Q E →
      ∃ t, PSs (cxOf CX P w K mg base N qual scope f cdv A outer s H E) body t ∧ t { nx := fun _ H' => Q .non H', rt := Q } (start N vs) H) :
    FnG P w K mg base CX (k + 1) f (PySem.W.fnOf name qual params body scope dV kV doc pm an cdv ct) ps sp := by
  refine ⟨len, ?_⟩
  intro A outer s H args us vs Q E hr hgd e0 hb r hsp
  have same : ∀ b o, base.get? b = some o → s.heap.get? b = some o := fun b o e => (e0.bs b o e).1
  have kin := e0.mod.kin.keeps same
  have kinds : ∀ y ∈ ps.zip us, scope.names.lookup y.1 = some .local ∨ (scope.names.lookup y.1 = some .cell ∧ ((cellsFrom (s.heap.objs.size + 1) scope.names []).lookup y.1).isSome = true) := by
    rintro ⟨n, v⟩ hy
    have q := S.par n (List.of_mem_zip hy).1
    exact q.imp id fun q => ⟨q, PySem.W.cellsFrom_some _ _ _ (.inl q)⟩
  have inner : ∀ env, env = envOfC qual scope s.heap.objs.size f cdv → ∀ s1, InCallC s s.heap.objs.size (bindL (envOfC qual scope s.heap.objs.size f cdv).kindOf (ps.zip us) fun _ => none) (cellsFrom (s.heap.objs.size + 1) scope.names [])
      (bindC (envOfC qual scope s.heap.objs.size f cdv).kindOf (ps.zip us) fun _ => none) s1 →
      wpAny (model P w) (A.deeper (envOfC qual scope s.heap.objs.size f cdv)) (execs body (envOfC qual scope s.heap.objs.size f cdv)) (fun fl s' => match fl with
        | .ret u => CE outer P w H s Q u s'
        | .next => CE outer P w H s Q .none s'
        | _ => False) (cxOf CX P w K mg base N qual scope f cdv A outer s H E).xe s1 := by
    intro env _ s1 x
    obtain ⟨t, ht, hq⟩ := hbody A outer s H vs Q E (hr.deeper _) hgd hsp
    refine wpAny_mono (ht.run [] s1 (start N vs) H _ (inv_start S hr.hd e0 (len _ _ _ _ hsp) r x) hq) ?_ fun _ _ z => z
    intro fl s' hs
    cases fl with
    | ret u =>
      obtain ⟨v, σ', H', J, rv, q⟩ := hs
      exact ⟨v, H', J.os, J.bare, J.base, J.hok, rv, q⟩
    | next =>
      obtain ⟨σ', H', J, q⟩ := hs
      exact ⟨.non, H', J.os, J.bare, J.base, J.hok, rfl, q⟩
    | brk =>
      obtain ⟨_, _, _, q⟩ := hs
      exact q.elim
    | cont =>
      obtain ⟨_, _, _, q⟩ := hs
      exact q.elim
  refine codeAny_call_function hr.depth (kin _ _ lk) rfl S.co S.gen rfl (PySem.W.codeRec_of kin hcd) (hb _ _ _ _ ?_)
  refine wpAny_newFunctionEnv_cells S.kind kinds ?_
  intro env he s1 x
  subst he
  refine ⟨(e0.mod.nolimit.keeps same).keeps x.toInCall.keep, codeAny_func ?_⟩
  refine wpAny_mono (inner _ rfl s1 x) ?_ fun _ _ z => z
  intro fl s' hs
  cases fl with
  | ret u => exact hs
  | next => exact hs
  | brk => exact hs.elim
  | cont => exact hs.elim
theorem Fun.okg {x qual : Str} {st : Stmt} {N : List Str} (F : L2.Fun K x qual st f fd) (S : FnScope N ps (defScope st)) (len : ∀ vs H Q E, sp vs H Q E → vs.length = ps.length)
    (hbody : ∀ (cdv : Value) (A : Around) (outer : List Env) (s : Shared) (H : Hp) (vs : List V) (Q : VK) (E : XK), Room k (A.deeper (envOfC qual (defScope st) s.heap.objs.size f cdv)) → A.guards = some [] → sp vs H Q E →
      ∃ t, PSs (cxOf CX P w K mg base N qual (defScope st) f cdv A outer s H E) (defBody st) t ∧ t { nx := fun _ H' => Q .non H', rt := Q } (start N vs) H) : FnG P w K mg base CX (k + 1) f fd ps sp := by
  obtain ⟨oc, od, kV, doc, pm, an, cdv, ct, osl, rfl, lk, hcd⟩ := F.ex
  exact fng_of lk hcd S len fun A outer s H vs Q E hr hgd hsp => hbody cdv A outer s H vs Q E hr hgd hsp
end

/-! ### the two kinds of promises -/
section
variable (K : PySem.W.Frag) (mg : Str → Option Value)
/-- nothing that stood is changed -/
def spP (n : Nat) (mf : List D → Option D) : Sp := fun vs H Q _ => ∃ (F : Hp) (ds : List D) (d : D), Ex F H ∧ RepL K mg F ds vs ∧ ds.length = n ∧ mf ds = some d ∧ ∀ v F' H', Grow F H F' H' → Rep K mg F' d v → Q v H'
/-- the first argument is a list that is changed -/
def spI (n : Nat) (mf : Cell → List D → Option (D × Cell)) : Sp := fun vs H Q _ => ∃ (F : Hp) (p : Addr) (ws : HO) (us : List V) (cs : Cell) (ds : List D) (d : D) (cs' : Cell), vs = .ref p :: us ∧ Ex F H ∧ F p = none ∧ H p = some ws ∧ CellOk K mg F ws cs ∧ RepL K mg F ds us ∧ ds.length = n ∧
  mf cs ds = some (d, cs') ∧ ∀ v F' H' ws', Ex F F' → Ex F' H' → (∀ a o, a ≠ p → H a = some o → H' a = some o) → (∀ a, F' a ≠ none → F a ≠ none ∨ H a = none) → F' p = none → H' p = some ws' → CellOk K mg F' ws' cs' → Rep K mg F' d v → Q v H'
end
def startS (N : List Str) (ds : List D) : SD := ds.map Slot.val ++ List.replicate (N.length - ds.length) Slot.no
/-- a body as a function of the arguments -/
def runP (N : List Str) (m : M Out) : List D → Option D := fun ds => match m (startS N ds) with
  | some (.rt d, _) => some d
  | some (.nx, _) => some .non
  | _ => none
def startI (N : List Str) (cs : Cell) (ds : List D) : SD := Slot.own cs :: (ds.map Slot.val ++ List.replicate (N.length - (ds.length + 1)) Slot.no)
def runI (N : List Str) (m : M Out) : Cell → List D → Option (D × Cell) := fun cs ds => match m (startI N cs ds) with
  | some (.rt d, .own cs' :: _) => some (d, cs')
  | some (.nx, .own cs' :: _) => some (.non, cs')
  | _ => none
section
variable {P : Program} {w : World} {K : PySem.W.Frag} {mg : Str → Option Value} {base : Heap} {k : Nat} {f : Addr} {fd : FuncData} {ps N : List Str} {x qual : Str} {st : Stmt}
theorem start_ix {vs : List V} {i : Nat} {v : V} (h : vs[i]? = some v) : (start N vs)[i]? = some (some v) := by
  have hl : i < vs.length := (List.getElem?_eq_some_iff.mp h).1
  unfold L2.start
  rw [List.getElem?_append_left (by simpa using hl), List.getElem?_map, h]
  rfl
theorem sta_start {F H : Hp} {ds : List D} {vs : List V} (hF : Ex F H) (r : RepL K mg F ds vs) : Sta K mg ⟨F, H, [], none⟩ F H (start N vs) (startS N ds) := by
  have hz : ∀ (i : Nat) (s : Slot), (startS N ds)[i]? = some s → s = .no ∨ ∃ d, ds[i]? = some d ∧ s = .val d := fun i s h => by
    unfold startS at h
    by_cases hi : i < ds.length
    · rw [List.getElem?_append_left (by simpa using hi), List.getElem?_map] at h
      cases e : ds[i]? with
      | none => rw [e] at h; cases h
      | some d =>
        rw [e] at h
        cases h
        exact .inr ⟨d, rfl, rfl⟩
    · rw [List.getElem?_append_right (by simpa using hi), List.getElem?_replicate] at h
      split at h
      · cases h
        exact .inl rfl
      · cases h
  refine ⟨hF, Evl.Ex.refl _, fun a o h _ => h, fun a h => .inl h, fun p hp => (nomatch hp), ?_, fun i s h => ?_, fun i j xs ys p h _ _ _ => ?_, fun p hp => (nomatch hp)⟩
  · unfold startS L2.start
    simp [r.len]
  · rcases hz i s h with rfl | ⟨d, h1, rfl⟩
    · have hl : i < (start N vs).length := by
        have h2 := (List.getElem?_eq_some_iff.mp h).1
        unfold startS at h2
        unfold L2.start
        simp only [List.length_append, List.length_map, List.length_replicate] at h2 ⊢
        rw [← r.len]
        exact h2
      exact ⟨_, List.getElem?_eq_getElem hl, True.intro⟩
    · obtain ⟨v, h2, h3⟩ := r.get h1
      exact ⟨some v, start_ix h2, v, rfl, h3⟩
  · rcases hz i _ h with h1 | ⟨d, _, h1⟩
    · cases h1
    · cases h1
/-- a def of the text, whatever holds it -/
def MkG (P : Program) (w : World) (K : PySem.W.Frag) (mg : Str → Option Value) (base : Heap) (k : Nat) (f : Addr) (fd : FuncData) (ps : List Str) (qual : Str) (scope : Scope) (body : List Stmt) (N : List Str) : Prop := ∀ sp : Sp, (∀ vs H Q E, sp vs H Q E → vs.length = ps.length) →
  (∀ (cdv : Value) (A : Around) (outer : List Env) (s : Shared) (H : Hp) (vs : List V) (Q : VK) (E : XK), Room k (A.deeper (envOfC qual scope s.heap.objs.size f cdv)) → A.guards = some [] → sp vs H Q E →
      ∃ t, PSs (cxOf CX0 P w K mg base N qual scope f cdv A outer s H E) body t ∧ t { nx := fun _ H' => Q .non H', rt := Q } (start N vs) H) → FnG P w K mg base CX0 (k + 1) f fd ps sp
theorem FunD.mk {params : Arguments} {body : List Stmt} {scope : Scope} {dvs : List V} {kws : List (Str × V)} (F : L2.FunD K x qual params body scope dvs kws f fd) (S : FnScope N ps scope) : MkG P w K mg base k f fd ps qual scope body N := fun sp len hbody => by
  obtain ⟨oc, od, dV, kV, doc, pm, an, cdv, ct, osl, rfl, lk, hcd, _, _⟩ := F.ex
  exact fng_of lk hcd S len fun A outer s H vs Q E hr hgd hsp => hbody cdv A outer s H vs Q E hr hgd hsp
variable {scope : Scope} {body : List Stmt}
/-- THE RULE for a def that changes nothing that stood -/
theorem fn_p_of {m : M Out} (mk : MkG P w K mg base k f fd ps qual scope body N)
    (hb : ∀ (cdv : Value) (A : Around) (outer : List Env) (s : Shared) (H : Hp) (E : XK), Room k (A.deeper (envOfC qual scope s.heap.objs.size f cdv)) → A.guards = some [] →
      ∃ t, PSsd (cxOf CX0 P w K mg base N qual scope f cdv A outer s H E).nox body t m) : FnG P w K mg base CX0 (k + 1) f fd ps (spP K mg ps.length (runP N m)) := by
  refine mk _ (fun vs H Q E h => ?_) (fun cdv A outer s H vs Q E hr hgd hsp => ?_)
  · obtain ⟨F0, ds, d, _, r, hl, _⟩ := h
    rw [← r.len, hl]
  · obtain ⟨F0, ds, d, hF, r, hl, hm, q⟩ := hsp
    obtain ⟨t, p, ev⟩ := hb cdv A outer s H E hr hgd
    refine ⟨t, p.nox, ?_⟩
    have S0 : Sta K mg ⟨F0, H, [], none⟩ F0 H (start N vs) (startS N ds) := sta_start hF r
    unfold runP at hm
    cases e : m (startS N ds) with
    | none => rw [e] at hm; cases hm
    | some pr =>
      obtain ⟨o, sd'⟩ := pr
      rw [e] at hm
      have gr : ∀ {σ' : L2.St} {F' H' : Hp}, Sta K mg ⟨F0, H, [], none⟩ F' H' σ' sd' → Grow F0 H F' H' := fun {σ' F' H'} S' =>
        ⟨S'.f0, S'.fh, fun a u h => S'.keep a u h (fun z => nomatch z), fun a h => by
          rcases S'.fresh a h with h1 | h1 | h1
          · exact .inl h1
          · exact .inr h1
          · exact nomatch h1⟩
      refine ev _ F0 H _ _ o sd' S0 e _ ?_
      cases o with
      | nx =>
        cases hm
        exact fun σ' F' H' S' _ => q _ F' H' (gr S') (by unfold Rep; rfl)
      | rt d' =>
        cases hm
        exact fun v σ' F' H' S' _ rv => q v F' H' (gr S') rv
      | bk => cases hm
      | ct => cases hm
/-- .. for one that changes its first argument -/
theorem fn_i_of {m : M Out} (mk : MkG P w K mg base k f fd ps qual scope body N) (hps : 0 < ps.length)
    (hb : ∀ (cdv : Value) (A : Around) (outer : List Env) (s : Shared) (H : Hp) (E : XK), Room k (A.deeper (envOfC qual scope s.heap.objs.size f cdv)) → A.guards = some [] →
      ∃ t, PSsd (cxOf CX0 P w K mg base N qual scope f cdv A outer s H E).nox body t m) : FnG P w K mg base CX0 (k + 1) f fd ps (spI K mg (ps.length - 1) (runI N m)) := by
  refine mk _ (fun vs H Q E h => ?_) (fun cdv A outer s H vs Q E hr hgd hsp => ?_)
  · obtain ⟨F0, p, ws, us, cs, ds, d, cs', rfl, _, _, _, _, r, hl, _⟩ := h
    rw [List.length_cons, ← r.len, hl]
    omega
  · obtain ⟨F0, p, ws, us, cs, ds, d, cs', rfl, hF, hp, hH, rc, r, hl, hm, q⟩ := hsp
    obtain ⟨t, pp, ev⟩ := hb cdv A outer s H E hr hgd
    refine ⟨t, pp.nox, ?_⟩
    have S0 : Sta K mg ⟨F0, H, [p], some p⟩ F0 H (start N (.ref p :: us)) (startI N cs ds) := by
      have S1 : Sta K mg ⟨F0, H, [], none⟩ F0 H (start N (.ref p :: us)) (startS N (.non :: ds)) → True := fun _ => True.intro
      have hz : ∀ (i : Nat) (s : Slot), (startI N cs ds)[i]? = some s → (i = 0 ∧ s = .own cs) ∨ s = .no ∨ ∃ d j, i = j + 1 ∧ ds[j]? = some d ∧ s = .val d := fun i s h => by
        unfold startI at h
        cases i with
        | zero =>
          cases h
          exact .inl ⟨rfl, rfl⟩
        | succ j =>
          rw [List.getElem?_cons_succ] at h
          by_cases hi : j < ds.length
          · rw [List.getElem?_append_left (by simpa using hi), List.getElem?_map] at h
            cases e : ds[j]? with
            | none => rw [e] at h; cases h
            | some d =>
              rw [e] at h
              cases h
              exact .inr (.inr ⟨d, j, rfl, e, rfl⟩)
          · rw [List.getElem?_append_right (by simpa using hi), List.getElem?_replicate] at h
            split at h
            · cases h
              exact .inr (.inl rfl)
            · cases h
      refine ⟨hF, Evl.Ex.refl _, fun a o h _ => h, fun a h => .inl h, fun a ha => ?_, ?_, fun i s h => ?_, fun i j xs ys a h1 h2 _ _ => ?_, fun a ha => ?_⟩
      · obtain rfl : a = p := by simpa using ha
        rw [hH]
        exact fun z => nomatch z
      · unfold startI L2.start
        simp [r.len]
      · rcases hz i s h with ⟨rfl, rfl⟩ | rfl | ⟨d, j, rfl, h1, rfl⟩
        · exact ⟨some (.ref p), start_ix rfl, p, ws, rfl, hH, rc, hp, .inr (by simp)⟩
        · have hl2 : i < (start N (V.ref p :: us)).length := by
            have h2 := (List.getElem?_eq_some_iff.mp h).1
            unfold startI at h2
            unfold L2.start
            simp only [List.length_append, List.length_map, List.length_replicate, List.length_cons] at h2 ⊢
            rw [← r.len]
            omega
          exact ⟨_, List.getElem?_eq_getElem hl2, True.intro⟩
        · obtain ⟨v, h2, h3⟩ := r.get h1
          exact ⟨some v, start_ix (by simpa using h2), v, rfl, h3⟩
      · have k1 : i = 0 := by
          rcases hz i _ h1 with ⟨e, _⟩ | e | ⟨_, _, _, _, e⟩
          · exact e
          · cases e
          · cases e
        have k2 : j = 0 := by
          rcases hz j _ h2 with ⟨e, _⟩ | e | ⟨_, _, _, _, e⟩
          · exact e
          · cases e
          · cases e
        rw [k1, k2]
      · cases ha
        exact ⟨start_ix rfl, cs, rfl⟩
    unfold runI at hm
    cases e : m (startI N cs ds) with
    | none => rw [e] at hm; cases hm
    | some pr =>
      obtain ⟨o, sd'⟩ := pr
      rw [e] at hm
      have gr : ∀ {σ' : L2.St} {F' H' : Hp} {cs' : Cell} {rest : SD}, sd' = .own cs' :: rest → Sta K mg ⟨F0, H, [p], some p⟩ F' H' σ' sd' → ∀ v, Rep K mg F' d v → (∀ v F' H' ws', Ex F0 F' → Ex F' H' → (∀ a o, a ≠ p → H a = some o → H' a = some o) → (∀ a, F' a ≠ none → F0 a ≠ none ∨ H a = none) → F' p = none → H' p = some ws' → CellOk K mg F' ws' cs' → Rep K mg F' d v → Q v H') → Q v H' := fun {σ' F' H' cs' rest} hsd S' v rv q => by
        obtain ⟨h1, _⟩ := S'.par p rfl
        obtain ⟨o1, h2, p', ws', rfl, h3, h4, h5, _⟩ := S'.slot 0 (.own cs') (by rw [hsd]; rfl)
        rw [h1] at h2
        cases h2
        refine q v F' H' ws' S'.f0 S'.fh (fun a u hne h => S'.keep a u h (by simpa using hne)) (fun a h => ?_) h5 h3 h4 rv
        rcases S'.fresh a h with h6 | h6 | h6
        · exact .inl h6
        · exact .inr h6
        · obtain rfl : a = p := by simpa using h6
          exact absurd h5 h
      refine ev _ F0 H _ _ o sd' S0 e _ ?_
      cases sd' with
      | nil => cases o <;> cases hm
      | cons s0 rest =>
        cases s0 with
        | no => cases o <;> cases hm
        | val d' => cases o <;> cases hm
        | own cs2 =>
          cases o with
          | nx =>
            cases hm
            exact fun σ' F' H' S' _ => gr rfl S' _ (by unfold Rep; rfl) q
          | rt d' =>
            cases hm
            exact fun v σ' F' H' S' _ rv => gr rfl S' v rv q
          | bk => cases hm
          | ct => cases hm
theorem fn_p {m : M Out} {params : Arguments} {dvs : List V} {kws : List (Str × V)} (F : L2.FunD K x qual params body scope dvs kws f fd) (S : FnScope N ps scope)
    (hb : ∀ (cdv : Value) (A : Around) (outer : List Env) (s : Shared) (H : Hp) (E : XK), Room k (A.deeper (envOfC qual scope s.heap.objs.size f cdv)) → A.guards = some [] →
      ∃ t, PSsd (cxOf CX0 P w K mg base N qual scope f cdv A outer s H E).nox body t m) : FnG P w K mg base CX0 (k + 1) f fd ps (spP K mg ps.length (runP N m)) := fn_p_of (FunD.mk F S) hb
theorem fn_i {m : M Out} {params : Arguments} {dvs : List V} {kws : List (Str × V)} (F : L2.FunD K x qual params body scope dvs kws f fd) (S : FnScope N ps scope) (hps : 0 < ps.length)
    (hb : ∀ (cdv : Value) (A : Around) (outer : List Env) (s : Shared) (H : Hp) (E : XK), Room k (A.deeper (envOfC qual scope s.heap.objs.size f cdv)) → A.guards = some [] →
      ∃ t, PSsd (cxOf CX0 P w K mg base N qual scope f cdv A outer s H E).nox body t m) : FnG P w K mg base CX0 (k + 1) f fd ps (spI K mg (ps.length - 1) (runI N m)) := fn_i_of (FunD.mk F S) hps hb
end

/-! ### calls -/
section
variable {X : Cx} {CX : CXT} {k : Nat} {f C : Addr} {fd : FuncData} {ps : List Str} {sp : Sp} {dvs : List V} {ds : List Value} {E : XK} {x m : Str} {p pos apos : Pos} {e o : Expr} {es : List Expr} {ta : TE} {t : TA}
theorem run_g {A : Around} {pins : List (Addr × Obj)} {σ : L2.St} {H : Hp} {s : Shared} {Q : VK} {us : List Value} {vs : List V} (F : FnG X.prog X.w X.K X.mg X.base CX k f fd ps sp) (hr : Room k X.A) (hgd : X.A.guards = some []) (hb : Binds X.K fd ps ds) (hd : Vals dvs ds) (hx : Passes CX X E)
    (I : Inv X pins σ H s) (r : Vals vs us) (h : sp (vs ++ dvs) H Q E) : wpAny (model X.prog X.w) X.A (call (.ref f) us) (EP X pins σ Q) X.xe s := by
  have r2 := r.append hd
  refine wpAny_call (codeAny_mono (F.go X.A X.stack s H ⟨us, []⟩ (us ++ ds) (vs ++ dvs) Q E hr hgd I.env0 (hb s us I.kIn ?_) r2 h) ?_)
  · rw [← r2.length]
    exact F.len _ _ _ _ h
  · intro r s' hq
    match r, hq with
    | .error e, hq => exact hx pins σ H s e s' I hq
    | .ok (.ret u), hq => exact I.after hq
    | .ok .next, hq => exact hq.elim
    | .ok .brk, hq => exact hq.elim
    | .ok .cont, hq => exact hq.elim
theorem pg_call (F : FnG X.prog X.w X.K X.mg X.base CX k f fd ps sp) (hr : Room k X.A) (hgd : X.A.guards = some []) (hg : Gl X x) (hm : X.mg x = some (.ref f)) (hk : PySem.W.keepIn X.K (.ref f) = true) (hb : Binds X.K fd ps ds) (hd : Vals dvs ds) (hx : Passes CX X E)
    (ha : PA X (e :: es) t) (hdb : (x == ("__debug__" : Str)) = false := by decide) (he : starEach (e :: es) X.env = (false, eval e X.env) :: starEach es X.env := by rfl) (hpl : (backTo pos (starEach es X.env)).any (·.1) = false := by rfl) :
    PE X (.Call (.Name x p) (e :: es) [] pos) (tCall sp dvs E t) := by
  constructor
  intro pins s σ H Q I h
  refine wpAny_Call_Name_kw (ld_glob I hg hm ?_ hdb)
  refine PySem.W.callWith_K (h₀ := X.base) I.ok.mod.kin hk (thn (ha.run pos pins s σ H _ I h) ?_) he hpl
  rintro us s1 ⟨vs, H1, I1, r, q⟩
  exact ⟨I1.kIn, run_g (A := X.A) F hr hgd hb hd hx I1 r q⟩
theorem pg_call0 (F : FnG X.prog X.w X.K X.mg X.base CX k f fd ps sp) (hr : Room k X.A) (hgd : X.A.guards = some []) (hg : Gl X x) (hm : X.mg x = some (.ref f)) (hk : PySem.W.keepIn X.K (.ref f) = true) (hb : Binds X.K fd ps ds) (hd : Vals dvs ds) (hx : Passes CX X E)
    (hdb : (x == ("__debug__" : Str)) = false := by decide) : PE X (.Call (.Name x p) [] [] pos) (tCall sp dvs E tNil) := by
  constructor
  intro pins s σ H Q I h
  exact wpAny_Call_Name_kw (ld_glob I hg hm (PySem.W.callWith_K0 I.kIn hk (run_g (A := X.A) (us := []) F hr hgd hb hd hx I .nil h)) hdb)
theorem pg_meth {pl : Sem Bool} (he : PE X o ta) (c : Cls X.K C) (hm : Meth X.K C m f) (F : FnG X.prog X.w X.K X.mg X.base CX k f fd ps sp) (hr : Room k X.A) (hgd : X.A.guards = some []) (hb : Binds X.K fd ps ds) (hd : Vals dvs ds) (hx : Passes CX X E) (ha : PA X (e :: es) t)
    (hst : starEach (e :: es) X.env = (false, eval e X.env) :: starEach es X.env := by rfl) (hpl : (backTo pos (starEach es X.env)).any (·.1) = false := by rfl)
    (ht : eval (.Call (.Attribute o m apos) (e :: es) [] pos) X.env = (do
      let obj ← eval o X.env
      standAt apos.atName
      let (fn, own) ← holding [obj] (getMethod obj m pl)
      callWith pos fn own (backTo pos (starEach (e :: es) X.env)) (backToKw pos (keywordEach [] X.env))) := by rfl) :
    PE X (.Call (.Attribute o m apos) (e :: es) [] pos) (tMeth C m sp dvs E ta t) := by
  constructor
  intro pins s σ H Q I h
  refine PySem.W.methodCall_KW (pl := pl) (thn (he.run pins s σ H _ I h) ?_) ht
  rintro u s1 ⟨x, H1, I1, rx, a, dx, fs, rfl, ea, l, q⟩
  obtain rfl : u = Value.ref a := rx
  refine getmeth_ok I1 ea c hm l ?_
  refine PySem.W.callWith_K (first := [.ref a]) (h₀ := X.base) I.ok.mod.kin hm.kp (thn (ha.run pos pins s1 σ H1 _ I1 q) ?_) hst hpl
  rintro us s2 ⟨vs, H2, I2, r, q2⟩
  exact ⟨I2.kIn, run_g (A := X.A) (us := .ref a :: us) (vs := .ref a :: vs) F hr hgd hb hd hx I2 (.cons rfl r) q2⟩
theorem pg_meth0 {pl : Sem Bool} (he : PE X o ta) (c : Cls X.K C) (hm : Meth X.K C m f) (F : FnG X.prog X.w X.K X.mg X.base CX k f fd ps sp) (hr : Room k X.A) (hgd : X.A.guards = some []) (hb : Binds X.K fd ps ds) (hd : Vals dvs ds) (hx : Passes CX X E)
    (ht : eval (.Call (.Attribute o m apos) [] [] pos) X.env = (do
      let obj ← eval o X.env
      standAt apos.atName
      let (fn, own) ← holding [obj] (getMethod obj m pl)
      callWith pos fn own (backTo pos (starEach [] X.env)) (backToKw pos (keywordEach [] X.env))) := by rfl) :
    PE X (.Call (.Attribute o m apos) [] [] pos) (tMeth C m sp dvs E ta tNil) := by
  constructor
  intro pins s σ H Q I h
  refine PySem.W.methodCall_KW (pl := pl) (thn (he.run pins s σ H _ I h) ?_) ht
  rintro u s1 ⟨x, H1, I1, rx, a, dx, fs, rfl, ea, l, q⟩
  obtain rfl : u = Value.ref a := rx
  exact getmeth_ok I1 ea c hm l (PySem.W.callWith_K0 (first := [.ref a]) I1.kIn hm.kp (run_g (A := X.A) (us := [.ref a]) (vs := [.ref a]) F hr hgd hb hd hx I1 (.cons rfl .nil) q))
theorem make_guards {A : Around} {C : Addr} {us : List Value} {kw : List (Str × Value)} (h : A.guards = some []) : (A.under (.builtin "type.__call__" ⟨.ref C :: us, kw⟩)).guards = some [] := by
  first | exact h | (simp [Around.under, Code.guards, Code.isGuard, guardIds, pushGuards, h])
theorem run_mk {pins : List (Addr × Obj)} {σ : L2.St} {H : Hp} {s : Shared} {Q : VK} {us : List Value} {vs : List V} (M : Mk X.K C f) (F : FnG X.prog X.w X.K X.mg X.base CX k f fd ps sp) (hr : Room (k + 1) X.A) (hgd : X.A.guards = some []) (hb : Binds X.K fd ps ds) (hd : Vals dvs ds)
    (hx : Passes CX X E) (I : Inv X pins σ H s) (r : Vals vs us)
    (h : ∀ x dx, H x = none → H dx = none → dx ≠ x → sp (.ref x :: (vs ++ dvs)) (upd (upd H dx (.own x)) x (.ins C dx [])) (fun v H2 => v = .non ∧ Q (.ref x) H2) E) :
    wpAny (model X.prog X.w) X.A (call (.ref C) us) (EP X pins σ Q) X.xe s := by
  have hq := h (s.heap.objs.size + 1) s.heap.objs.size (I.hok.fresh (Nat.le_succ _)) (I.hok.fresh (Nat.le_refl _)) (Nat.ne_of_lt (Nat.lt_succ_self _))
  have J := Inv.made (C := C) I
  have r2 : Vals (V.ref (s.heap.objs.size + 1) :: (vs ++ dvs)) (Value.ref (s.heap.objs.size + 1) :: (us ++ ds)) := .cons rfl (r.append hd)
  have hl : (Value.ref (s.heap.objs.size + 1) :: us ++ ds).length = ps.length := by
    have e := r2.length
    rw [F.len _ _ _ _ hq] at e
    exact e.symm
  refine wpAny_call (make_map (f := f) I.kIn M.makes M.init (beq_iff_eq.mp M.fn) (codeAny_mono (F.go _ X.stack _ _ ⟨Value.ref (s.heap.objs.size + 1) :: us, []⟩ (Value.ref (s.heap.objs.size + 1) :: (us ++ ds)) _ _ E (hr.make C us []) (make_guards hgd)
    (J.env0.make C us []) (hb _ (Value.ref (s.heap.objs.size + 1) :: us) J.kIn hl) r2 hq) ?_))
  intro r s' hq'
  match r, hq' with
  | .error e, hq' => exact hx pins σ _ _ e s' J hq'
  | .ok (.ret u), hq' =>
    obtain ⟨v, H', I3, rv, rfl, q3⟩ := J.after hq'
    exact ⟨rv, V.ref (s.heap.objs.size + 1), H', I3, rfl, q3⟩
  | .ok .next, hq' => exact hq'.elim
  | .ok .brk, hq' => exact hq'.elim
  | .ok .cont, hq' => exact hq'.elim
theorem pg_make (M : Mk X.K C f) (F : FnG X.prog X.w X.K X.mg X.base CX k f fd ps sp) (hr : Room (k + 1) X.A) (hgd : X.A.guards = some []) (hg : Gl X x) (hm : X.mg x = some (.ref C)) (hb : Binds X.K fd ps ds) (hd : Vals dvs ds) (hx : Passes CX X E)
    (ha : PA X (e :: es) t) (hdb : (x == ("__debug__" : Str)) = false := by decide) (he : starEach (e :: es) X.env = (false, eval e X.env) :: starEach es X.env := by rfl) (hpl : (backTo pos (starEach es X.env)).any (·.1) = false := by rfl) :
    PE X (.Call (.Name x p) (e :: es) [] pos) (tMake C sp dvs E t) := by
  constructor
  intro pins s σ H Q I h
  refine wpAny_Call_Name_kw (ld_glob I hg hm ?_ hdb)
  refine PySem.W.callWith_K (h₀ := X.base) I.ok.mod.kin M.kp (thn (ha.run pos pins s σ H _ I h) ?_) he hpl
  rintro us s1 ⟨vs, H1, I1, r, q⟩
  exact ⟨I1.kIn, run_mk M F hr hgd hb hd hx I1 r q⟩
/-- e.f, a property -/
theorem pg_prop {q g : Addr} (he : PE X e ta) (c : Cls X.K C) (hp : PropOf X.K C m q g) (F : FnG X.prog X.w X.K X.mg X.base CX k g fd ps sp) (hr : Room (k + 1) X.A) (hgd : X.A.guards = some []) (hb : Binds X.K fd ps ds) (hd : Vals dvs ds) (hx : Passes CX X.nox E)
    (hab : attributeBase e m X.env (eval e X.env) = eval e X.env := by rfl) : PE X (.Attribute e m pos) (tProp C sp dvs E ta) := by
  constructor
  intro pins s σ H Q I h
  refine attr_of hab (thn (he.run pins s σ H _ I h) ?_)
  rintro u s1 ⟨x, H1, I1, rx, a, dx, fs, rfl, ea, hsp⟩
  obtain rfl : u = Value.ref a := rx
  obtain ⟨mA, O, _, _, _, _⟩ := ins_get I1.hok ea
  obtain ⟨od, J, _⟩ := O.look
  obtain ⟨rest, hrec⟩ := hp.rec_
  have I2 := I1.tok (s1.toks + 1)
  have hl : ([Value.ref a] ++ ds).length = ps.length := by
    rw [← F.len _ _ _ _ hsp]
    show ds.length + 1 = dvs.length + 1
    rw [hd.length]
  have hc : (PySem.W.clsIn X.K C).isSome = true := by
    obtain ⟨cd, hc, _⟩ := PySem.W.any_some c.hd
    rw [hc]
    rfl
  refine PySem.W.get_bind I1.kIn J (PySem.W.plainGet_of (c.get m)).1 (PySem.W.findObj_data hc hp.at_ hp.get hp.tak) (PySem.W.plainGet_of (c.get m)).2 (wpAny_call (PySem.W.prop_get (s := { s1 with toks := s1.toks + 1 }) I1.kIn hrec ?_))
  refine codeAny_mono (F.go X.A.in1 X.stack { s1 with toks := s1.toks + 1 } H1 ⟨[.ref a], []⟩ (.ref a :: ds) (.ref a :: dvs) Q E hr.in1 hgd I2.env0.in1 (hb _ [.ref a] I2.kIn hl) (.cons rfl hd) hsp) ?_
  intro r s' hq
  match r, hq with
  | .error er, hq => exact (hx pins σ H1 { s1 with toks := s1.toks + 1 } er s' (I2.wish _) hq).elim
  | .ok (.ret u), hq =>
    obtain ⟨v, H', I3, rv, q3⟩ := I2.after hq
    show wpAny _ _ (handedOut u) _ _ _
    rw [PySem.W.handedOut_of (handed_of rv)]
    exact wpAny_pure ⟨v, H', I3, rv, q3⟩
  | .ok .next, hq => exact hq.elim
  | .ok .brk, hq => exact hq.elim
  | .ok .cont, hq => exact hq.elim
end
end Mir
set_option linter.all false
set_option maxRecDepth 100000
set_option maxHeartbeats 4000000
namespace Mir
open PySem PySem.Spec L2

section
variable {K : PySem.W.Frag} {mg : Str → Option Value} {B : Bs} {F F' H H' : Hp} {σ : St'} {sd : SD}
/-- a thing of one's own is changed -/
theorem Sta.chg (S : Sta K mg B F H σ sd) {i : Nat} {c c' : Cell} {p : Addr} {o' : HO} (hi : sd[i]? = some (.own c)) (hp : σ[i]? = some (some (V.ref p))) (ff : Ex F F') (fh : Ex F' H') (oth : ∀ a o, a ≠ p → H a = some o → H' a = some o)
    (new : ∀ a, F' a ≠ none → F a ≠ none ∨ H a = none) (n' : F' p = none) (h' : H' p = some o') (r' : CellOk K mg F' o' c') : Sta K mg B F' H' σ (sd.set i (.own c')) := by
  obtain ⟨o, h1, p', u, rfl, h2, h3, h4, h5⟩ := S.slot i _ hi
  rw [hp] at h1
  cases h1
  have hl : i < sd.length := (List.getElem?_eq_some_iff.mp hi).1
  have nj : ∀ {j : Nat} {x : Cell}, (sd.set i (.own c'))[j]? = some (.own x) → ∃ y, sd[j]? = some (.own y) := fun {j x} hj => by
    by_cases z : i = j
    · subst z
      exact ⟨c, hi⟩
    · rw [List.getElem?_set_ne z] at hj
      exact ⟨x, hj⟩
  refine ⟨fh, S.f0.trans ff, fun a o k1 k2 => ?_, fun a ha => ?_, fun q hq => ?_, by simpa using S.len, fun j s hs => ?_, fun j k xs ys q g1 g2 g3 g4 => ?_, fun q hq => ?_⟩
  · refine oth a o (fun z => ?_) (S.keep a o k1 k2)
    subst z
    rcases h5 with h5 | h5
    · rw [k1] at h5
      cases h5
    · exact k2 h5
  · rcases new a ha with k | k
    · exact S.fresh a k
    · exact .inr (.inl (S.h0 k))
  · by_cases z : q = p
    · subst z
      rw [h']
      exact fun z => nomatch z
    · cases e : H q with
      | none => exact absurd e (S.io q hq)
      | some u =>
        rw [oth q u z e]
        exact fun z => nomatch z
  · by_cases z : i = j
    · subst z
      rw [List.getElem?_set_self hl] at hs
      cases hs
      exact ⟨_, hp, p, o', rfl, h', r', n', h5⟩
    · rw [List.getElem?_set_ne z] at hs
      obtain ⟨o1, k1, k2⟩ := S.slot j s hs
      refine ⟨o1, k1, ?_⟩
      cases s with
      | no => exact True.intro
      | val d =>
        obtain ⟨v, k3, k4⟩ := k2
        exact ⟨v, k3, k4.mono ff⟩
      | own x =>
        obtain ⟨q, w, rfl, k3, k4, k5, k6⟩ := k2
        have z2 : q ≠ p := fun z2 => z (S.inj i j c x p hi hs hp (by rw [k1, z2]))
        refine ⟨q, w, rfl, oth q w z2 k3, k4.mono ff, ?_, k6⟩
        cases e : F' q with
        | none => rfl
        | some u =>
          rcases new q (by rw [e]; exact fun z => nomatch z) with k | k
          · exact absurd k5 k
          · rw [k3] at k
            cases k
  · obtain ⟨y1, e1⟩ := nj g1
    obtain ⟨y2, e2⟩ := nj g2
    exact S.inj j k y1 y2 q e1 e2 g3 g4
  · obtain ⟨k1, ys, k2⟩ := S.par q hq
    refine ⟨k1, ?_⟩
    by_cases z : i = 0
    · subst z
      exact ⟨c', by rw [List.getElem?_set_self hl]⟩
    · exact ⟨ys, by rw [List.getElem?_set_ne z]; exact k2⟩
/-- .. where nothing new stands besides -/
theorem Sta.chg' (S : Sta K mg B F H σ sd) {i : Nat} {c c' : Cell} {p : Addr} {o' : HO} (hi : sd[i]? = some (.own c)) (hp : σ[i]? = some (some (V.ref p))) (r' : CellOk K mg F o' c') : Sta K mg B F (upd H p o') σ (sd.set i (.own c')) := by
  obtain ⟨o, h1, p', u, rfl, h2, h3, h4, h5⟩ := S.slot i _ hi
  rw [hp] at h1
  cases h1
  refine S.chg hi hp (Evl.Ex.refl _) (fun a o e => ?_) (fun a o hne e => by rw [upd_ne hne]; exact e) (fun a h => .inl h) h4 upd_same r'
  rw [upd_ne (fun z => by rw [z, h4] at e; cases e)]
  exact S.fh a o e
/-- a name is given a new thing of its own -/
theorem Sta.newOwn (S : Sta K mg B F H σ sd) {i : Nat} {c : Cell} {p : Addr} {o : HO} (hp : H p = none) (r : CellOk K mg F o c) (hf : i ≠ 0) : Sta K mg B F (upd H p o) (σ.set i (some (.ref p))) (sd.set i (.own c)) := by
  obtain ⟨S1, nO, nF⟩ := S.beside (o := o) hp
  have h0 := S.h0 hp
  refine ⟨S1.fh, S1.f0, S1.keep, S1.fresh, S1.io, by simpa using S1.len, fun j s hs => ?_, fun j k xs ys q g1 g2 g3 g4 => ?_, fun q hq => ?_⟩
  · by_cases z : i = j
    · subst z
      by_cases hl : i < sd.length
      · rw [List.getElem?_set_self hl] at hs
        cases hs
        exact ⟨_, List.getElem?_set_self (by rw [← S.len]; exact hl), p, o, rfl, upd_same, r, nF, .inl h0⟩
      · rw [List.getElem?_eq_none (by simpa using hl)] at hs
        cases hs
    · rw [List.getElem?_set_ne z] at hs
      obtain ⟨o1, k1, k2⟩ := S1.slot j s hs
      exact ⟨o1, by rw [List.getElem?_set_ne z]; exact k1, k2⟩
  · have key : ∀ {j : Nat} {x : Cell} {q : Addr}, (sd.set i (.own c))[j]? = some (.own x) → (σ.set i (some (V.ref p)))[j]? = some (some (V.ref q)) → (j = i ∧ q = p) ∨ (j ≠ i ∧ q ≠ p ∧ sd[j]? = some (.own x) ∧ σ[j]? = some (some (V.ref q))) := fun {j x q} hj hq => by
      by_cases z : i = j
      · subst z
        by_cases hl : i < σ.length
        · rw [List.getElem?_set_self hl] at hq
          cases hq
          exact .inl ⟨rfl, rfl⟩
        · rw [List.getElem?_eq_none (by simpa using hl)] at hq
          cases hq
      · rw [List.getElem?_set_ne z] at hj hq
        refine .inr ⟨fun e => z e.symm, fun e => ?_, hj, hq⟩
        subst e
        exact nO ⟨j, x, hj, hq⟩
    rcases key g1 g3 with ⟨e1, e2⟩ | ⟨e1, e2, e3, e4⟩
    · rcases key g2 g4 with ⟨e5, e6⟩ | ⟨e5, e6, _⟩
      · rw [e1, e5]
      · exact absurd e2 e6
    · rcases key g2 g4 with ⟨e5, e6⟩ | ⟨e5, e6, e7, e8⟩
      · exact absurd e6 e2
      · exact S.inj j k xs ys q e3 e7 e4 e8
  · obtain ⟨k1, ys, k2⟩ := S1.par q hq
    exact ⟨by rw [List.getElem?_set_ne hf]; exact k1, ys, by rw [List.getElem?_set_ne hf]; exact k2⟩
end

/-! ### calls of defs -/
def mFn (n : Nat) (mf : List D → Option D) (ds0 : List D) (mL : M (List D)) : M D := bnd mL fun ds => if (ds ++ ds0).length = n then lft (mf (ds ++ ds0)) else fun _ => none
/-- .. the first argument the thing at i, which it changes -/
def mTake (i : Nat) : M Cell := fun sd => match sd[i]? with
  | some (.own c) => some (c, sd)
  | _ => none
def mPut (i : Nat) (c : Cell) : M Unit := fun sd => some ((), sd.set i (.own c))
def mFnI (n : Nat) (mf : Cell → List D → Option (D × Cell)) (i : Nat) (ds0 : List D) (mL : M (List D)) : M D := bnd (mTake i) fun _ => bnd mL fun ds => if (ds ++ ds0).length = n then
  bnd (mTake i) fun c => bnd (lft (mf c (ds ++ ds0))) fun r => bnd (mPut i r.2) fun _ => pur r.1 else fun _ => none
theorem mTake_some {i : Nat} {sd sd' : SD} {c : Cell} (h : mTake i sd = some (c, sd')) : sd[i]? = some (.own c) ∧ sd' = sd := by
  unfold mTake at h
  split at h
  · rename_i c' e
    cases h
    exact ⟨e, rfl⟩
  · cases h
/-- a new object of the class -/
def mMake (n : Nat) (mf : Cell → List D → Option (D × Cell)) (cls : Str) (ds0 : List D) (mL : M (List D)) : M D := bnd mL fun ds => if (ds ++ ds0).length = n then match mf (.ins cls [] []) (ds ++ ds0) with
  | some (.non, c') => pur c'.d
  | _ => fun _ => none else fun _ => none
/-- an object of the class that has no attribute of that name -/
def isC (cls m : Str) : D → Bool
  | .ins c ns _ => decide (c = cls) && decide (m ∉ ns)
  | _ => false
theorem isC_some {cls m : Str} {d : D} (h : isC cls m d = true) : ∃ ns xs, d = .ins cls ns xs ∧ m ∉ ns := by
  cases d with
  | ins c ns xs =>
    have h' : (decide (c = cls) && decide (m ∉ ns)) = true := h
    rw [Bool.and_eq_true, decide_eq_true_eq, decide_eq_true_eq] at h'
    exact ⟨ns, xs, by rw [h'.1], h'.2⟩
  | _ => cases h
/-- o.m(..) -/
def mMeth (n : Nat) (mf : List D → Option D) (cls m : Str) (ds0 : List D) (mo : M D) (mL : M (List D)) : M D := bnd mo fun o => if isC cls m o = true then bnd mL fun ds => if (o :: (ds ++ ds0)).length = n then lft (mf (o :: (ds ++ ds0))) else fun _ => none else fun _ => none
/-- an object of the class -/
def isK (cls : Str) : D → Bool
  | .ins c _ _ => decide (c = cls)
  | _ => false
theorem isK_some {cls : Str} {d : D} (h : isK cls d = true) : ∃ ns xs, d = .ins cls ns xs := by
  cases d with
  | ins c ns xs =>
    have h' : decide (c = cls) = true := h
    rw [decide_eq_true_eq] at h'
    exact ⟨ns, xs, by rw [h']⟩
  | _ => cases h
/-- o.f, a property -/
def mProp (mf : List D → Option D) (cls : Str) (mo : M D) : M D := bnd mo fun o => if isK cls o = true then lft (mf [o]) else fun _ => none
/-- o.f -/
def fldD (cls f : Str) : D → Option D
  | .ins c ns xs => if c = cls then (ns.zip xs).lookup f else none
  | _ => none
def mFld (cls f : Str) (mo : M D) : M D := bnd mo fun o => lft (fldD cls f o)
section
variable {X : Cx} {k : Nat} {f C : Addr} {fd : FuncData} {ps : List Str} {dvs : List V} {ds0 : List D} {ds : List Value} {x m cls : Str} {p pos apos : Pos} {e o : Expr} {es : List Expr} {ta : TE} {t : TA} {n i : Nat} {mf : List D → Option D} {mi : Cell → List D → Option (D × Cell)} {mL : M (List D)} {mo : M D}
theorem ev_call {E : XK} (hv : EvL X.K X.mg t mL) (hdv : ∀ F, RepL X.K X.mg F ds0 dvs) : EvD X.K X.mg (tCall (spP X.K X.mg n mf) dvs E t) (mFn n mf ds0 mL) := fun B F H σ sd d sd' S hm Q q => by
  obtain ⟨ds, sd1, h1, h2⟩ := bnd_some hm
  by_cases hl : (ds ++ ds0).length = n
  · rw [if_pos hl] at h2
    obtain ⟨h3, rfl⟩ := lft_some h2
    refine hv B F H σ sd ds sd' S h1 _ fun vs F1 H1 S1 e1 r1 => ?_
    exact ⟨F1, ds ++ ds0, d, S1.fh, r1.append (hdv F1), hl, h3, fun v F2 H2 g r2 => q v F2 H2 (S1.grow g) (e1.trans g.ff) r2⟩
  · rw [if_neg hl] at h2
    cases h2
theorem pd_fn (F : FnG X.prog X.w X.K X.mg X.base CX0 k f fd ps (spP X.K X.mg n mf)) (hr : Room k X.A) (hgd : X.A.guards = some []) (hg : Gl X x) (hm : X.mg x = some (.ref f)) (hk : PySem.W.keepIn X.K (.ref f) = true) (hb : Binds X.K fd ps ds) (hd : Vals dvs ds) (hdv : ∀ F, RepL X.K X.mg F ds0 dvs)
    (ha : PAd X (e :: es) t mL) (hdb : (x == ("__debug__" : Str)) = false := by decide) (he : starEach (e :: es) X.env = (false, eval e X.env) :: starEach es X.env := by rfl) (hpl : (backTo pos (starEach es X.env)).any (·.1) = false := by rfl) :
    PEd X (.Call (.Name x p) (e :: es) [] pos) (tCall (spP X.K X.mg n mf) dvs E0 t) (mFn n mf ds0 mL) :=
  ⟨pg_call F hr hgd hg hm hk hb hd pass0 ha.1 hdb he hpl, ev_call ha.2 hdv⟩
theorem pd_fn0 (F : FnG X.prog X.w X.K X.mg X.base CX0 k f fd ps (spP X.K X.mg n mf)) (hr : Room k X.A) (hgd : X.A.guards = some []) (hg : Gl X x) (hm : X.mg x = some (.ref f)) (hk : PySem.W.keepIn X.K (.ref f) = true) (hb : Binds X.K fd ps ds) (hd : Vals dvs ds) (hdv : ∀ F, RepL X.K X.mg F ds0 dvs)
    (hdb : (x == ("__debug__" : Str)) = false := by decide) : PEd X (.Call (.Name x p) [] [] pos) (tCall (spP X.K X.mg n mf) dvs E0 tNil) (mFn n mf ds0 mNil) :=
  ⟨pg_call0 F hr hgd hg hm hk hb hd pass0 hdb, ev_call (pa_nild (X := X)).2 hdv⟩
theorem pd_fnI {y : Str} {py : Pos} (F : FnG X.prog X.w X.K X.mg X.base CX0 k f fd ps (spI X.K X.mg n mi)) (hr : Room k X.A) (hgd : X.A.guards = some []) (hg : Gl X x) (hm : X.mg x = some (.ref f)) (hk : PySem.W.keepIn X.K (.ref f) = true) (hb : Binds X.K fd ps ds) (hd : Vals dvs ds) (hdv : ∀ F, RepL X.K X.mg F ds0 dvs)
    (h0 : PE X (.Name y py) (tVar i)) (ha : PAd X es t mL) (hdb : (x == ("__debug__" : Str)) = false := by decide) (hs : starEach (.Name y py :: es) X.env = (false, eval (.Name y py) X.env) :: starEach es X.env := by rfl) (hpl : (backTo pos (starEach es X.env)).any (·.1) = false := by rfl) :
    PEd X (.Call (.Name x p) (.Name y py :: es) [] pos) (tCall (spI X.K X.mg n mi) dvs E0 (tCons (tVar i) t)) (mFnI n mi i ds0 mL) := by
  refine ⟨pg_call F hr hgd hg hm hk hb hd pass0 (pa_cons h0 ha.1 hs) hdb hs hpl, fun B F0 H σ sd d sd' S hm' Q q => ?_⟩
  obtain ⟨c0, sdA, hA, hm1⟩ := bnd_some hm'
  obtain ⟨hA1, rfl⟩ := mTake_some hA
  obtain ⟨es, sd1, h1, h2⟩ := bnd_some hm1
  by_cases hl : (es ++ ds0).length = n
  case neg =>
    rw [if_neg hl] at h2
    cases h2
  rw [if_pos hl] at h2
  obtain ⟨c, sdB, hB, h3⟩ := bnd_some h2
  obtain ⟨hB1, rfl⟩ := mTake_some hB
  obtain ⟨⟨d1, c'⟩, sdC, hC, h4⟩ := bnd_some h3
  obtain ⟨hC1, rfl⟩ := lft_some hC
  obtain ⟨⟨⟩, sdD, hD, h5⟩ := bnd_some h4
  cases hD
  obtain ⟨rfl, rfl⟩ := pur_some h5
  obtain ⟨o, g1, p0, u, rfl, g2, g3, g4, g5⟩ := S.slot i _ hA1
  refine ⟨.ref p0, g1, ?_⟩
  refine ha.2 B F0 H σ _ es _ S h1 _ fun vs F1 H1 S1 e1 r1 => ?_
  obtain ⟨o', k1, p1, u1, rfl, k2, k3, k4, k5⟩ := S1.slot i _ hB1
  rw [g1] at k1
  cases k1
  refine ⟨F1, p0, u1, vs ++ dvs, c, es ++ ds0, _, c', rfl, S1.fh, k4, k2, k3, r1.append (hdv F1), hl, hC1, fun v F2 H2 ws' ff fh oth new n' h' r' rv => ?_⟩
  exact q v F2 H2 (S1.chg hB1 g1 ff fh oth new n' h' r') (e1.trans ff) rv
theorem pd_make (Mk0 : Mk X.K C f) (F : FnG X.prog X.w X.K X.mg X.base CX0 k f fd ps (spI X.K X.mg n mi)) (hr : Room (k + 1) X.A) (hgd : X.A.guards = some []) (hg : Gl X x) (hm : X.mg x = some (.ref C)) (hb : Binds X.K fd ps ds) (hd : Vals dvs ds) (hdv : ∀ F, RepL X.K X.mg F ds0 dvs)
    (ha : PAd X (e :: es) t mL) (hdb : (x == ("__debug__" : Str)) = false := by decide) (he : starEach (e :: es) X.env = (false, eval e X.env) :: starEach es X.env := by rfl) (hpl : (backTo pos (starEach es X.env)).any (·.1) = false := by rfl) :
    PEd X (.Call (.Name x p) (e :: es) [] pos) (tMake C (spI X.K X.mg n mi) dvs E0 t) (mMake n mi x ds0 mL) := by
  refine ⟨pg_make Mk0 F hr hgd hg hm hb hd pass0 ha.1 hdb he hpl, fun B F0 H σ sd d sd' S hm' Q q => ?_⟩
  obtain ⟨es, sd1, h1, h2⟩ := bnd_some hm'
  by_cases hl : (es ++ ds0).length = n
  case neg =>
    rw [if_neg hl] at h2
    cases h2
  rw [if_pos hl] at h2
  cases hmf : mi (.ins x [] []) (es ++ ds0) with
  | none => rw [hmf] at h2; cases h2
  | some pr =>
    obtain ⟨d1, c'⟩ := pr
    rw [hmf] at h2
    cases d1 with
    | non =>
      obtain ⟨rfl, rfl⟩ := pur_some h2
      refine ha.2 B F0 H σ sd es _ S h1 _ fun vs F1 H1 S1 e1 r1 => fun a dx ha0 hdx hne => ?_
      have hF : F1 a = none := Evl.fresh_back S1.fh ha0
      have ex1 : Ex H1 (upd (upd H1 dx (.own a)) a (.ins C dx [])) := fun b u e => by
        rw [upd_ne (ne_of_none e ha0), upd_ne (ne_of_none e hdx)]
        exact e
      refine ⟨F1, a, .ins C dx [], vs ++ dvs, .ins x [] [], es ++ ds0, .non, c', rfl, S1.fh.trans ex1, hF, upd_same, ⟨C, dx, [], rfl, rfl, hm, RepL.nil⟩, r1.append (hdv F1), hl, hmf, fun v F2 H2 ws' ff fh oth new n' h' r' rv => ?_⟩
      unfold Rep at rv
      refine ⟨rv, ?_⟩
      -- what was made stays
      have e2 : Ex F2 (upd F2 a ws') := Evl.Ex.new n'
      have g : Grow F1 H1 (upd F2 a ws') H2 := by
        refine ⟨ff.trans e2, fun b u e => ?_, fun b u e => oth b u (ne_of_none e ha0) (ex1 b u e), fun b hb => ?_⟩
        · by_cases z : b = a
          · subst z
            rw [upd_same] at e
            cases e
            exact h'
          · rw [upd_ne z] at e
            exact fh b u e
        · by_cases z : b = a
          · subst z
            exact .inr ha0
          · rw [upd_ne z] at hb
            rcases new b hb with h | h
            · exact .inl h
            · exact .inr (Evl.fresh_back ex1 h)
      exact q _ _ H2 (S1.grow g) (e1.trans g.ff) ((r'.mono e2).rep upd_same)
    | _ => cases h2
theorem lookup_zip_none {m : Str} : ∀ {ns : List Str} {vs : List V}, m ∉ ns → (ns.zip vs).lookup m = none
  | [], _, _ => rfl
  | _ :: _, [], _ => rfl
  | n :: ns, v :: vs, h => by
    have h1 : m ≠ n := fun e => h (by simp [e])
    have h2 : (m == n) = false := by simpa using h1
    show List.lookup m ((n, v) :: ns.zip vs) = none
    simp only [List.lookup, h2]
    exact lookup_zip_none fun e => h (by simp [e])
theorem lookup_zip_rep {K : PySem.W.Frag} {mg : Str → Option Value} {F : Hp} {m : Str} {d : D} : ∀ {ns : List Str} {xs : List D} {vs : List V}, RepL K mg F xs vs → (ns.zip xs).lookup m = some d → ∃ v, (ns.zip vs).lookup m = some v ∧ Rep K mg F d v
  | [], _, _, _, h => by simp at h
  | n :: ns, [], vs, r, h => by simp at h
  | n :: ns, x :: xs, vs, r, h => by
    obtain ⟨v, vr, rfl, r1, r2⟩ := r.cons_inv
    rw [List.zip_cons_cons] at h ⊢
    by_cases z : (m == n) = true
    · simp only [List.lookup, z] at h ⊢
      cases h
      exact ⟨v, rfl, r1⟩
    · have z' : (m == n) = false := by simpa using z
      simp only [List.lookup, z'] at h ⊢
      exact lookup_zip_rep r2 h
theorem pd_fld (hc : Cls X.K C) (hn : NoAttr X.K C m) (hm : X.mg cls = some (.ref C)) (ho : PEd X o ta mo) (hb : attributeBase o m X.env (eval o X.env) = eval o X.env := by rfl) : PEd X (.Attribute o m pos) (tFld X.K ta m) (mFld cls m mo) := by
  refine ⟨pe_fld ho.1 hb, fun B F H σ sd d sd' S hm' Q q => ?_⟩
  obtain ⟨ob, sd1, h1, h2⟩ := bnd_some hm'
  obtain ⟨h3, rfl⟩ := lft_some h2
  refine ho.2 B F H σ sd ob _ S h1 _ fun v F1 H1 S1 e1 r1 => ?_
  cases ob with
  | ins c ns xs =>
    have h4 : (if c = cls then (ns.zip xs).lookup m else none) = some d := h3
    by_cases z : c = cls
    case neg =>
      rw [if_neg z] at h4
      cases h4
    rw [if_pos z] at h4
    subst z
    unfold Rep at r1
    obtain ⟨a, C', dx, vs, rfl, k1, k2, k3, k4⟩ := r1
    rw [hm] at k1
    cases k1
    obtain ⟨w, k5, k6⟩ := lookup_zip_rep k4 h4
    exact ⟨a, _, dx, _, w, rfl, S1.fh _ _ k2, hc, hn, k5, q w F1 H1 S1 e1 k6⟩
  | _ => cases h3
theorem pd_meth (hc : Cls X.K C) (hM : Meth X.K C m f) (F : FnG X.prog X.w X.K X.mg X.base CX0 k f fd ps (spP X.K X.mg n mf)) (hr : Room k X.A) (hgd : X.A.guards = some []) (hb : Binds X.K fd ps ds) (hd : Vals dvs ds) (hdv : ∀ F, RepL X.K X.mg F ds0 dvs) (hm : X.mg cls = some (.ref C))
    (ho : PEd X o ta mo) (ha : PAd X (e :: es) t mL) {pl : Sem Bool} (hst : starEach (e :: es) X.env = (false, eval e X.env) :: starEach es X.env := by rfl) (hpl : (backTo pos (starEach es X.env)).any (·.1) = false := by rfl)
    (ht : eval (.Call (.Attribute o m apos) (e :: es) [] pos) X.env = (do
      let obj ← eval o X.env
      standAt apos.atName
      let (fn, own) ← holding [obj] (getMethod obj m pl)
      callWith pos fn own (backTo pos (starEach (e :: es) X.env)) (backToKw pos (keywordEach [] X.env))) := by rfl) :
    PEd X (.Call (.Attribute o m apos) (e :: es) [] pos) (tMeth C m (spP X.K X.mg n mf) dvs E0 ta t) (mMeth n mf cls m ds0 mo mL) := by
  refine ⟨pg_meth ho.1 hc hM F hr hgd hb hd pass0 ha.1 hst hpl ht, fun B F0 H σ sd d sd' S hm' Q q => ?_⟩
  obtain ⟨ob, sd1, h1, h2⟩ := bnd_some hm'
  refine ho.2 B F0 H σ sd ob sd1 S h1 _ fun v F1 H1 S1 e1 r1 => ?_
  by_cases z : isC cls m ob = true
  case neg =>
    rw [if_neg z] at h2
    cases h2
  rw [if_pos z] at h2
  obtain ⟨ns, xs, rfl, hno⟩ := isC_some z
  obtain ⟨es2, sd2, h3, h4⟩ := bnd_some h2
  by_cases hl : (D.ins cls ns xs :: (es2 ++ ds0)).length = n
  case neg =>
    rw [if_neg hl] at h4
    cases h4
  rw [if_pos hl] at h4
  obtain ⟨h5, rfl⟩ := lft_some h4
  have r1' := r1
  unfold Rep at r1'
  obtain ⟨a, C', dx, vs, rfl, k1, k2, k3, k4⟩ := r1'
  rw [hm] at k1
  cases k1
  refine ⟨a, dx, _, rfl, S1.fh _ _ k2, lookup_zip_none hno, ?_⟩
  refine ha.2 B F1 H1 σ sd1 es2 _ S1 h3 _ fun vs2 F2 H2 S2 e2 r2 => ?_
  exact ⟨F2, _, d, S2.fh, RepL.cons (r1.mono e2) (r2.append (hdv F2)), hl, h5, fun v F3 H3 g r3 => q v F3 H3 (S2.grow g) ((e1.trans e2).trans g.ff) r3⟩
theorem pd_meth0 (hc : Cls X.K C) (hM : Meth X.K C m f) (F : FnG X.prog X.w X.K X.mg X.base CX0 k f fd ps (spP X.K X.mg n mf)) (hr : Room k X.A) (hgd : X.A.guards = some []) (hb : Binds X.K fd ps ds) (hd : Vals dvs ds) (hdv : ∀ F, RepL X.K X.mg F ds0 dvs) (hm : X.mg cls = some (.ref C))
    (ho : PEd X o ta mo) {pl : Sem Bool}
    (ht : eval (.Call (.Attribute o m apos) [] [] pos) X.env = (do
      let obj ← eval o X.env
      standAt apos.atName
      let (fn, own) ← holding [obj] (getMethod obj m pl)
      callWith pos fn own (backTo pos (starEach [] X.env)) (backToKw pos (keywordEach [] X.env))) := by rfl) :
    PEd X (.Call (.Attribute o m apos) [] [] pos) (tMeth C m (spP X.K X.mg n mf) dvs E0 ta tNil) (mMeth n mf cls m ds0 mo mNil) := by
  refine ⟨pg_meth0 ho.1 hc hM F hr hgd hb hd pass0 ht, fun B F0 H σ sd d sd' S hm' Q q => ?_⟩
  obtain ⟨ob, sd1, h1, h2⟩ := bnd_some hm'
  refine ho.2 B F0 H σ sd ob sd1 S h1 _ fun v F1 H1 S1 e1 r1 => ?_
  by_cases z : isC cls m ob = true
  case neg =>
    rw [if_neg z] at h2
    cases h2
  rw [if_pos z] at h2
  obtain ⟨ns, xs, rfl, hno⟩ := isC_some z
  obtain ⟨es2, sd2, h3, h4⟩ := bnd_some h2
  obtain ⟨rfl, rfl⟩ := pur_some h3
  by_cases hl : (D.ins cls ns xs :: ([] ++ ds0)).length = n
  case neg =>
    rw [if_neg hl] at h4
    cases h4
  rw [if_pos hl] at h4
  obtain ⟨h5, rfl⟩ := lft_some h4
  have r1' := r1
  unfold Rep at r1'
  obtain ⟨a, C', dx, vs, rfl, k1, k2, k3, k4⟩ := r1'
  rw [hm] at k1
  cases k1
  exact ⟨a, dx, _, rfl, S1.fh _ _ k2, lookup_zip_none hno, F1, _, d, S1.fh, RepL.cons r1 (RepL.nil.append (hdv F1)), hl, h5, fun v F3 H3 g r3 => q v F3 H3 (S1.grow g) (e1.trans g.ff) r3⟩
theorem pd_prop {pp g : Addr} (hc : Cls X.K C) (hP : PropOf X.K C m pp g) (F : FnG X.prog X.w X.K X.mg X.base CX0 k g fd ps (spP X.K X.mg 1 mf)) (hr : Room (k + 1) X.A) (hgd : X.A.guards = some []) (hb : Binds X.K fd ps []) (hm : X.mg cls = some (.ref C))
    (ho : PEd X o ta mo) (hab : attributeBase o m X.env (eval o X.env) = eval o X.env := by rfl) : PEd X (.Attribute o m pos) (tProp C (spP X.K X.mg 1 mf) [] E0 ta) (mProp mf cls mo) := by
  refine ⟨pg_prop ho.1 hc hP F hr hgd hb .nil pass0 hab, fun B F0 H σ sd d sd' S hm' Q q => ?_⟩
  obtain ⟨ob, sd1, h1, h2⟩ := bnd_some hm'
  refine ho.2 B F0 H σ sd ob sd1 S h1 _ fun v F1 H1 S1 e1 r1 => ?_
  by_cases z : isK cls ob = true
  case neg =>
    rw [if_neg z] at h2
    cases h2
  rw [if_pos z] at h2
  obtain ⟨ns, xs, rfl⟩ := isK_some z
  obtain ⟨h5, rfl⟩ := lft_some h2
  have r1' := r1
  unfold Rep at r1'
  obtain ⟨a, C', dx, vs, rfl, k1, k2, k3, k4⟩ := r1'
  rw [hm] at k1
  cases k1
  exact ⟨a, dx, _, rfl, S1.fh _ _ k2, F1, _, d, S1.fh, RepL.cons r1 RepL.nil, rfl, h5, fun v F3 H3 g r3 => q v F3 H3 (S1.grow g) (e1.trans g.ff) r3⟩
end
end Mir
set_option linter.all false
set_option maxRecDepth 100000
set_option maxHeartbeats 4000000
namespace Mir
open PySem PySem.Spec L2

/-! ### a list of one's own -/
def asL : Cell → Option (List D)
  | .lst xs => some xs
  | _ => none
theorem asL_some {c : Cell} {xs : List D} (h : asL c = some xs) : c = .lst xs := by
  cases c with
  | lst ys => cases h; rfl
  | ins _ _ _ => cases h
def mTakeL (i : Nat) : M (List D) := bnd (mTake i) fun c => lft (asL c)
theorem mTakeL_some {i : Nat} {sd sd' : SD} {xs : List D} (h : mTakeL i sd = some (xs, sd')) : sd[i]? = some (.own (.lst xs)) ∧ sd' = sd := by
  obtain ⟨c, sd1, h1, h2⟩ := bnd_some h
  obtain ⟨h3, rfl⟩ := mTake_some h1
  obtain ⟨h4, rfl⟩ := lft_some h2
  obtain rfl := asL_some h4
  exact ⟨h3, rfl⟩
theorem Sta.ownL {K : PySem.W.Frag} {mg : Str → Option Value} {B : Bs} {F H : Hp} {σ : St'} {sd : SD} (S : Sta K mg B F H σ sd) {i : Nat} {xs : List D} (h : sd[i]? = some (.own (.lst xs))) :
    ∃ p ws, σ[i]? = some (some (V.ref p)) ∧ H p = some (.lst ws) ∧ RepL K mg F xs ws ∧ F p = none := by
  obtain ⟨o, h1, p, u, rfl, h2, ⟨ws, rfl, h3⟩, h4, _⟩ := S.slot i _ h
  exact ⟨p, ws, h1, h2, h3, h4⟩
/-- x = [..], x to be changed later -/
def mOwn (i : Nat) (mL : M (List D)) : M Out := bnd mL fun ds => bnd (lft (lim ds.length (Cell.lst ds))) fun c => if i ≠ 0 then bnd (mPut i c) fun _ => pur .nx else fun _ => none
section
variable {X : Cx} {x : Str} {i : Nat} {pos pos' spos apos : Pos} {es : List Expr} {e k : Expr} {tL : TA} {te tk : TE} {mL : M (List D)} {me mk : M D}
theorem ps_own (hN : X.N.Nodup) (hi : X.N[i]? = some x) (hx : Loc X.env.scope x) (he : PAd X es tL mL) (hs : swapsWith (.List es pos) (some (.Name x pos')) spos.line X.env = pure false := by rfl) (hf : X.fn x = true ∨ X.env.scope.names.lookup x = some .local := by first | exact .inl rfl | exact .inr rfl | assumption) :
    PSd X (.Assign [.Name x pos'] (.List es pos) spos) (tAsg (tLst tL) (gName i)) (mOwn i mL) := by
  refine ⟨ps_set hN hi hx (pe_lst he.1) hs hf, fun B F H σ sd o sd' S hm E w => ?_⟩
  obtain ⟨ds, sd1, h1, h2⟩ := bnd_some hm
  obtain ⟨c, sd2, h3, h4⟩ := bnd_some h2
  obtain ⟨h5, rfl⟩ := lft_some h3
  obtain ⟨rfl, hl⟩ := lim_some h5
  by_cases z : i ≠ 0
  case neg =>
    rw [if_neg z] at h4
    cases h4
  rw [if_pos z] at h4
  obtain ⟨⟨⟩, sd3, h6, h7⟩ := bnd_some h4
  cases h6
  obtain ⟨rfl, rfl⟩ := pur_some h7
  refine he.2 B F H σ sd ds _ S h1 _ fun vs F1 H1 S1 e1 r1 => ⟨Evl.sz_of (by rw [← r1.len]; exact hl), fun p hp => ?_⟩
  exact w _ F1 _ (S1.newOwn hp ⟨vs, rfl, r1⟩ z) e1
/-- what a method without arguments, with one, does to a list -/
def Act0 (X : Cx) (r : V → List V → Hp → VK → Prop) (act : List D → Option (List D × D)) : Prop := ∀ (F H : Hp) (p : Addr) (ws : List V) (xs xs' : List D) (d' : D), Ex F H → H p = some (.lst ws) → RepL X.K X.mg F xs ws → act xs = some (xs', d') →
  ∀ Q : VK, (∀ ws' v', RepL X.K X.mg F xs' ws' → Rep X.K X.mg F d' v' → Q v' (upd H p (.lst ws'))) → r (.ref p) [] H Q
def Act1 (X : Cx) (r : V → List V → Hp → VK → Prop) (act : List D → D → Option (List D × D)) : Prop := ∀ (F H : Hp) (p : Addr) (ws : List V) (xs xs' : List D) (d d' : D) (v : V), Ex F H → H p = some (.lst ws) → RepL X.K X.mg F xs ws → Rep X.K X.mg F d v → act xs d = some (xs', d') →
  ∀ Q : VK, (∀ ws' v', RepL X.K X.mg F xs' ws' → Rep X.K X.mg F d' v' → Q v' (upd H p (.lst ws'))) → r (.ref p) [v] H Q
def mAct0 (i : Nat) (act : List D → Option (List D × D)) : M D := bnd (mTakeL i) fun xs => bnd (lft (act xs)) fun r => bnd (mPut i (.lst r.1)) fun _ => pur r.2
def mAct1 (i : Nat) (act : List D → D → Option (List D × D)) (me : M D) : M D := bnd (mTakeL i) fun _ => bnd me fun d => bnd (mTakeL i) fun xs => bnd (lft (act xs d)) fun r => bnd (mPut i (.lst r.1)) fun _ => pur r.2
theorem ev_act0 {r : V → List V → Hp → VK → Prop} {act : List D → Option (List D × D)} (ha : Act0 X r act) : EvD X.K X.mg (tBM0 X.K "list" r (tVar i)) (mAct0 i act) := fun B F H σ sd d sd' S hm Q q => by
  obtain ⟨xs, sd1, h1, h2⟩ := bnd_some hm
  obtain ⟨h3, rfl⟩ := mTakeL_some h1
  obtain ⟨⟨ys, d1⟩, sd2, h4, h5⟩ := bnd_some h2
  obtain ⟨h6, rfl⟩ := lft_some h4
  obtain ⟨⟨⟩, sd3, h7, h8⟩ := bnd_some h5
  cases h7
  obtain ⟨rfl, rfl⟩ := pur_some h8
  obtain ⟨p, ws, g1, g2, g3, g4⟩ := S.ownL h3
  refine ⟨.ref p, g1, .inl ⟨rfl, ws, SqL.of g2⟩, ?_⟩
  exact ha F H p ws xs ys _ S.fh g2 g3 h6 Q fun ws' v' r1 r2 => q v' F _ (S.chg' h3 g1 ⟨ws', rfl, r1⟩) (Evl.Ex.refl _) r2
theorem ev_act1 {r : V → List V → Hp → VK → Prop} {act : List D → D → Option (List D × D)} (ha : Act1 X r act) (he : EvD X.K X.mg te me) : EvD X.K X.mg (tBM X.K "list" r (tVar i) (tCons te tNil)) (mAct1 i act me) := fun B F H σ sd d sd' S hm Q q => by
  obtain ⟨xs0, sd0, h0, hm0⟩ := bnd_some hm
  obtain ⟨k0, rfl⟩ := mTakeL_some h0
  obtain ⟨d0, sdE, hE, hm1⟩ := bnd_some hm0
  obtain ⟨xs, sd1, h1, h2⟩ := bnd_some hm1
  obtain ⟨h3, rfl⟩ := mTakeL_some h1
  obtain ⟨⟨ys, d1⟩, sd2, h4, h5⟩ := bnd_some h2
  obtain ⟨h6, rfl⟩ := lft_some h4
  obtain ⟨⟨⟩, sd3, h7, h8⟩ := bnd_some h5
  cases h7
  obtain ⟨rfl, rfl⟩ := pur_some h8
  obtain ⟨p, ws0, g1, g2, g3, g4⟩ := S.ownL k0
  refine ⟨.ref p, g1, .inl ⟨rfl, ws0, SqL.of g2⟩, ?_⟩
  refine he B F H σ sd0 d0 _ S hE _ fun v F1 H1 S1 e1 r1 => ?_
  obtain ⟨p', ws, k1, k2, k3, k4⟩ := S1.ownL h3
  rw [g1] at k1
  cases k1
  exact ha F1 H1 p ws xs ys d0 _ v S1.fh k2 k3 r1 h6 Q fun ws' v' r2 r3 => q v' F1 _ (S1.chg' h3 g1 ⟨ws', rfl, r2⟩) e1 r3
def actAppend (xs : List D) (d : D) : Option (List D × D) := if xs.length < 100000 then some (xs ++ [d], .non) else none
theorem act_append : Act1 X rAppend actAppend := fun F H p ws xs xs' d d' v fh hp r rv ha Q q => by
  unfold actAppend at ha
  by_cases z : xs.length < 100000
  · rw [if_pos z] at ha
    cases ha
    exact ⟨p, ws, v, rfl, rfl, hp, Evl.sz_lt (by rw [← r.len]; exact z), q _ _ (r.append (RepL.cons rv RepL.nil)) (by unfold Rep; rfl)⟩
  · rw [if_neg z] at ha
    cases ha
def actExtend (xs : List D) : D → Option (List D × D)
  | .lst ys => if xs.length + ys.length ≤ 100000 then some (xs ++ ys, .non) else none
  | _ => none
theorem act_extend : Act1 X rExtend actExtend := fun F H p ws xs xs' d d' v fh hp r rv ha Q q => by
  cases d with
  | lst ys =>
    have ha' : (if xs.length + ys.length ≤ 100000 then some (xs ++ ys, D.non) else none) = some (xs', d') := ha
    by_cases z : xs.length + ys.length ≤ 100000
    · rw [if_pos z] at ha'
      cases ha'
      unfold Rep at rv
      obtain ⟨b, zs, rfl, h1, h2⟩ := rv
      exact ⟨p, b, ws, zs, rfl, rfl, hp, fh _ _ h1, Evl.sz_of (by rw [← r.len, ← h2.len]; exact z), q _ _ (r.append h2) (by unfold Rep; rfl)⟩
    · rw [if_neg z] at ha'
      cases ha'
  | _ => cases ha
def actPop (xs : List D) : Option (List D × D) := match xs[xs.length - 1]? with
  | some d => some (xs.dropLast, d)
  | none => none
theorem RepL.dropLast {K : PySem.W.Frag} {mg : Str → Option Value} {F : Hp} {ds : List D} {vs : List V} (r : RepL K mg F ds vs) : RepL K mg F ds.dropLast vs.dropLast := by
  rw [List.dropLast_eq_take, List.dropLast_eq_take, r.len]
  exact r.take _
theorem act_pop : Act0 X rPop actPop := fun F H p ws xs xs' d' fh hp r ha Q q => by
  unfold actPop at ha
  cases e : xs[xs.length - 1]? with
  | none => rw [e] at ha; cases ha
  | some d =>
    rw [e] at ha
    cases ha
    obtain ⟨v, h1, h2⟩ := r.get e
    exact ⟨p, ws, v, rfl, rfl, hp, by rw [← r.len]; exact h1, q _ _ r.dropLast h2⟩
def actReverse (xs : List D) : Option (List D × D) := some (xs.reverse, .non)
theorem act_reverse : Act0 X rReverse actReverse := fun F H p ws xs xs' d' fh hp r ha Q q => by
  cases ha
  exact ⟨p, ws, rfl, rfl, hp, q _ _ r.rev (by unfold Rep; rfl)⟩
def actClear (xs : List D) : Option (List D × D) := some ([], .non)
theorem act_clear : Act0 X rClear actClear := fun F H p ws xs xs' d' fh hp r ha Q q => by
  cases ha
  exact ⟨p, ws, rfl, rfl, hp, q _ _ RepL.nil (by unfold Rep; rfl)⟩
theorem pd_append (h0 : PE X (.Name x pos') (tVar i)) (he : PEd X e te me) (hbase : attributeBase (.Name x pos') "append" X.env (eval (.Name x pos') X.env) = eval (.Name x pos') X.env := by rfl)
    (hfew : ((backTo pos (starEach [e] X.env)).all (fun x => !x.1) && (backToKw pos (keywordEach [] X.env)).all (fun x => x.1.isSome) && decide ([e].length + ([] : List Keyword).length + (if ([] : List Keyword).isEmpty then 0 else 1) < 30)) = true := by rfl)
    (hline : (apos.endLine == pos.line) = true := by rfl) (hs : starEach [e] X.env = (false, eval e X.env) :: starEach [] X.env := by rfl) :
    PEd X (.Call (.Attribute (.Name x pos') "append" apos) [e] [] pos) (tBM X.K "list" rAppend (tVar i) (tCons te tNil)) (mAct1 i actAppend me) :=
  ⟨pe_bm PySem.F.plainAttrs_list PySem.F.slot_list_append PySem.F.type_list_append mt_append h0 (pa_cons he.1 pa_nil hs) hbase hfew hline hs, ev_act1 act_append he.2⟩
theorem pd_extend (h0 : PE X (.Name x pos') (tVar i)) (he : PEd X e te me) (hbase : attributeBase (.Name x pos') "extend" X.env (eval (.Name x pos') X.env) = eval (.Name x pos') X.env := by rfl)
    (hfew : ((backTo pos (starEach [e] X.env)).all (fun x => !x.1) && (backToKw pos (keywordEach [] X.env)).all (fun x => x.1.isSome) && decide ([e].length + ([] : List Keyword).length + (if ([] : List Keyword).isEmpty then 0 else 1) < 30)) = true := by rfl)
    (hline : (apos.endLine == pos.line) = true := by rfl) (hs : starEach [e] X.env = (false, eval e X.env) :: starEach [] X.env := by rfl) :
    PEd X (.Call (.Attribute (.Name x pos') "extend" apos) [e] [] pos) (tBM X.K "list" rExtend (tVar i) (tCons te tNil)) (mAct1 i actExtend me) :=
  ⟨pe_bm PySem.F.plainAttrs_list PySem.F.slot_list_extend PySem.F.type_list_extend mt_extend h0 (pa_cons he.1 pa_nil hs) hbase hfew hline hs, ev_act1 act_extend he.2⟩
theorem pd_pop (h0 : PE X (.Name x pos') (tVar i)) (hbase : attributeBase (.Name x pos') "pop" X.env (eval (.Name x pos') X.env) = eval (.Name x pos') X.env := by rfl) (hline : (apos.endLine == pos.line) = true := by rfl) :
    PEd X (.Call (.Attribute (.Name x pos') "pop" apos) [] [] pos) (tBM0 X.K "list" rPop (tVar i)) (mAct0 i actPop) :=
  ⟨pe_bm0 PySem.F.plainAttrs_list PySem.F.slot_list_pop PySem.F.type_list_pop mt_pop h0 hbase hline, ev_act0 act_pop⟩
theorem pd_reverse (h0 : PE X (.Name x pos') (tVar i)) (hbase : attributeBase (.Name x pos') "reverse" X.env (eval (.Name x pos') X.env) = eval (.Name x pos') X.env := by rfl) (hline : (apos.endLine == pos.line) = true := by rfl) :
    PEd X (.Call (.Attribute (.Name x pos') "reverse" apos) [] [] pos) (tBM0 X.K "list" rReverse (tVar i)) (mAct0 i actReverse) :=
  ⟨pe_bm0 PySem.F.plainAttrs_list PySem.F.slot_list_reverse PySem.F.type_list_reverse mt_reverse h0 hbase hline, ev_act0 act_reverse⟩
theorem pd_clear (h0 : PE X (.Name x pos') (tVar i)) (hbase : attributeBase (.Name x pos') "clear" X.env (eval (.Name x pos') X.env) = eval (.Name x pos') X.env := by rfl) (hline : (apos.endLine == pos.line) = true := by rfl) :
    PEd X (.Call (.Attribute (.Name x pos') "clear" apos) [] [] pos) (tBM0 X.K "list" rClear (tVar i)) (mAct0 i actClear) :=
  ⟨pe_bm0 PySem.F.plainAttrs_list PySem.F.slot_list_clear PySem.F.type_list_clear mt_clear h0 hbase hline, ev_act0 act_clear⟩
/-! an item read, an item set -/
def asI : D → Option Int
  | .int i => some i
  | _ => none
theorem asI_some {d : D} {i : Int} (h : asI d = some i) : d = .int i := by
  cases d <;> simp [asI] at h
  rw [h]
theorem atI_rep {K : PySem.W.Frag} {mg : Str → Option Value} {F : Hp} {ds : List D} {vs : List V} {j : Int} {d : D} (r : RepL K mg F ds vs) (h : atI ds j = some d) : ∃ v, atI vs j = some v ∧ Rep K mg F d v := by
  unfold atI at h ⊢
  rw [← r.len]
  cases e : ixN ds.length j with
  | none => rw [e] at h; cases h
  | some n =>
    rw [e] at h
    exact r.get h
def mItem (i : Nat) (mk : M D) : M D := bnd (mTakeL i) fun _ => bnd mk fun k => bnd (lft (asI k)) fun j => bnd (mTakeL i) fun xs => lft (atI xs j)
theorem pd_item (h0 : PE X (.Name x pos') (tVar i)) (hk : PEd X k tk mk) (hp : PlainIx k) : PEd X (.Subscript (.Name x pos') k pos) (tOp (rIxL X.K) (tVar i) tk) (mItem i mk) := by
  refine ⟨pe_ix ix_list h0 hk.1 hp, fun B F H σ sd d sd' S hm Q q => ?_⟩
  obtain ⟨xs0, sd0, h0, hm0⟩ := bnd_some hm
  obtain ⟨k0, rfl⟩ := mTakeL_some h0
  obtain ⟨dk, sdE, hE, hm1⟩ := bnd_some hm0
  obtain ⟨j, sdJ, hJ, hm2⟩ := bnd_some hm1
  obtain ⟨hJ1, rfl⟩ := lft_some hJ
  obtain rfl := asI_some hJ1
  obtain ⟨xs, sd1, h1, h2⟩ := bnd_some hm2
  obtain ⟨h3, rfl⟩ := mTakeL_some h1
  obtain ⟨h4, rfl⟩ := lft_some h2
  obtain ⟨p, ws0, g1, g2, g3, g4⟩ := S.ownL k0
  refine ⟨.ref p, g1, ?_⟩
  refine hk.2 B F H σ sd0 _ _ S hE _ fun v F1 H1 S1 e1 r1 => ?_
  unfold Rep at r1
  subst r1
  obtain ⟨p', ws, k1, k2, k3, k4⟩ := S1.ownL h3
  rw [g1] at k1
  cases k1
  obtain ⟨w, h5, h6⟩ := atI_rep k3 h4
  exact ⟨p, ws, j, w, rfl, rfl, SqL.of k2, h5, q w F1 H1 S1 e1 h6⟩
def mSub (i : Nat) (mk : M D) (d : D) : M Unit := bnd (mTakeL i) fun _ => bnd mk fun k => bnd (lft (asI k)) fun j => bnd (mTakeL i) fun xs => bnd (lft (ixN xs.length j)) fun n => mPut i (.lst (xs.set n d))
theorem pg_subd (h0 : PE X (.Name x pos') (tVar i)) (hk : PEd X k tk mk)
    (ha : ∀ v, assign (.Subscript (.Name x pos') k pos) X.env v = (do
      let obj ← holding [v] (eval (.Name x pos') X.env)
      let at_ ← holding [v, obj] (eval k X.env)
      standAt pos
      holding [v, obj, at_] (setItem obj at_ v)
      release [v, obj, at_] []) := by intro _; rfl) : PGd X (.Subscript (.Name x pos') k pos) (gSub (tVar i) tk rSetL) (mSub i mk) := by
  refine ⟨pg_sub h0 hk.1 set_list ha, fun B F H σ sd d v sd' S r hm Q q => ?_⟩
  obtain ⟨xs0, sd0, h0, hm0⟩ := bnd_some hm
  obtain ⟨k0, rfl⟩ := mTakeL_some h0
  obtain ⟨dk, sdE, hE, hm1⟩ := bnd_some hm0
  obtain ⟨j, sdJ, hJ, hm2⟩ := bnd_some hm1
  obtain ⟨hJ1, rfl⟩ := lft_some hJ
  obtain rfl := asI_some hJ1
  obtain ⟨xs, sd1, h1, h2⟩ := bnd_some hm2
  obtain ⟨h3, rfl⟩ := mTakeL_some h1
  obtain ⟨n, sd2, h4, h5⟩ := bnd_some h2
  obtain ⟨h6, rfl⟩ := lft_some h4
  cases h5
  obtain ⟨p, ws0, g1, g2, g3, g4⟩ := S.ownL k0
  refine ⟨.ref p, g1, ?_⟩
  refine hk.2 B F H σ sd0 _ _ S hE _ fun u F1 H1 S1 e1 r1 => ?_
  unfold Rep at r1
  subst r1
  obtain ⟨p', ws, k1, k2, k3, k4⟩ := S1.ownL h3
  rw [g1] at k1
  cases k1
  exact ⟨p, ws, j, n, rfl, rfl, k2, by rw [← k3.len]; exact h6, q σ F1 _ (S1.chg' h3 g1 ⟨_, rfl, k3.set n (r.mono e1)⟩) e1⟩
/-! ### an object that is being made -/
def asN (cls : Str) : Cell → Option (List Str × List D)
  | .ins c ns xs => if c = cls then some (ns, xs) else none
  | _ => none
theorem asN_some {cls : Str} {c : Cell} {r : List Str × List D} (h : asN cls c = some r) : c = .ins cls r.1 r.2 := by
  cases c with
  | lst _ => cases h
  | ins c ns xs =>
    have h' : (if c = cls then some (ns, xs) else none) = some r := h
    by_cases z : c = cls
    · rw [if_pos z] at h'
      cases h'
      rw [z]
    · rw [if_neg z] at h'
      cases h'
theorem putF_new {f : Str} {y : V} : ∀ {ns : List Str} {vs : List V}, f ∉ ns → ns.length = vs.length → putF f y (ns.zip vs) = (ns ++ [f]).zip (vs ++ [y])
  | [], [], _, _ => rfl
  | [], _ :: _, _, h => by cases h
  | _ :: _, [], _, h => by cases h
  | n :: ns, v :: vs, hf, h => by
    have h1 : ¬ n = f := fun e => hf (by simp [e])
    show (if n = f then _ else (n, v) :: putF f y (ns.zip vs)) = _
    rw [if_neg h1, putF_new (fun e => hf (by simp [e])) (by simpa using h)]
    rfl
def mFldSet (i : Nat) (cls f : Str) (me : M D) : M Out := bnd me fun d => bnd (mTake i) fun c => bnd (lft (asN cls c)) fun r => if f ∉ r.1 ∧ r.1.length < 900 then bnd (mPut i (.ins cls (r.1 ++ [f]) (r.2 ++ [d]))) fun _ => pur .nx else fun _ => none
def mFldOwn (i : Nat) (cls f : Str) : M D := bnd (mTake i) fun c => bnd (lft (asN cls c)) fun r => lft ((r.1.zip r.2).lookup f)
variable {C : Addr} {cls f : Str}
theorem ps_fldd (hc : Cls X.K C) (hn : NoAttr X.K C f) (hm : X.mg cls = some (.ref C)) (h0 : PE X (.Name x pos') (tVar i)) (he : PEd X e te me) (hs : swapsWith e (some (.Attribute (.Name x pos') f apos)) pos.line X.env = pure false := by rfl) :
    PSd X (.Assign [.Attribute (.Name x pos') f apos] e pos) (sFld X.K (tVar i) te f) (mFldSet i cls f me) := by
  refine ⟨ps_fld h0 he.1 hs, fun B F H σ sd o sd' S hm' E w => ?_⟩
  obtain ⟨d, sd1, h1, h2⟩ := bnd_some hm'
  obtain ⟨c, sd2, h3, h4⟩ := bnd_some h2
  obtain ⟨h5, rfl⟩ := mTake_some h3
  obtain ⟨⟨ns, xs⟩, sd3, h6, h7⟩ := bnd_some h4
  obtain ⟨h8, rfl⟩ := lft_some h6
  obtain rfl := asN_some h8
  by_cases z : f ∉ ns ∧ ns.length < 900
  case neg =>
    rw [if_neg z] at h7
    cases h7
  rw [if_pos z] at h7
  obtain ⟨⟨⟩, sd4, h9, h10⟩ := bnd_some h7
  cases h9
  obtain ⟨rfl, rfl⟩ := pur_some h10
  refine he.2 B F H σ sd d _ S h1 _ fun v F1 H1 S1 e1 r1 => ?_
  obtain ⟨o1, k1, p, u, rfl, k2, ⟨C', dx, vs, rfl, k3, k4, k5⟩, k6, k7⟩ := S1.slot i _ h5
  rw [hm] at k4
  cases k4
  refine ⟨.ref p, k1, p, _, dx, ns.zip vs, rfl, k2, hc, hn, by rw [List.length_zip]; omega, ?_⟩
  refine w σ F1 _ (S1.chg' h5 k1 ⟨_, dx, vs ++ [v], by rw [putF_new z.1 k3], by simp [k3], hm, k5.append (RepL.cons r1 RepL.nil)⟩) e1
theorem pd_fldOwn (hc : Cls X.K C) (hn : NoAttr X.K C f) (hm : X.mg cls = some (.ref C)) (h0 : PE X (.Name x pos') (tVar i)) (hb : attributeBase (.Name x pos') f X.env (eval (.Name x pos') X.env) = eval (.Name x pos') X.env := by rfl) : PEd X (.Attribute (.Name x pos') f pos) (tFld X.K (tVar i) f) (mFldOwn i cls f) := by
  refine ⟨pe_fld h0 hb, fun B F H σ sd d sd' S hm' Q q => ?_⟩
  obtain ⟨c, sd2, h3, h4⟩ := bnd_some hm'
  obtain ⟨h5, rfl⟩ := mTake_some h3
  obtain ⟨⟨ns, xs⟩, sd3, h6, h7⟩ := bnd_some h4
  obtain ⟨h8, rfl⟩ := lft_some h6
  obtain rfl := asN_some h8
  obtain ⟨h9, rfl⟩ := lft_some h7
  obtain ⟨o1, k1, p, u, rfl, k2, ⟨C', dx, vs, rfl, k3, k4, k5⟩, k6, k7⟩ := S.slot i _ h5
  rw [hm] at k4
  cases k4
  obtain ⟨w, g1, g2⟩ := lookup_zip_rep k5 h9
  exact ⟨.ref p, k1, p, _, dx, _, w, rfl, k2, hc, hn, g1, q w F H S (Evl.Ex.refl _) g2⟩
end

/-! ### a look at a thing of one's own that gives a plain value -/
def plain : D → Bool
  | .non => true
  | .bl _ => true
  | .int _ => true
  | .str _ => true
  | _ => false
def peekS (sd : SD) (i : Nat) (c : Cell) : SD := (sd.map fun s => match s with
  | .own _ => .no
  | s => s).set i (.val c.d)
def mPeek (i : Nat) (m : M D) : M D := bnd (mTake i) fun c sd => match m (peekS sd i c) with
  | some (d, _) => if plain d = true then some (d, sd) else none
  | none => none
def mPeekB (i : Nat) (m : M Bool) : M Bool := bnd (mTake i) fun c sd => match m (peekS sd i c) with
  | some (d, _) => some (d, sd)
  | none => none
section
variable {K : PySem.W.Frag} {mg : Str → Option Value} {B : Bs} {F F' H H' : Hp} {σ : St'} {sd : SD} {i : Nat} {c : Cell}
theorem plain_rep {d : D} {v : V} (hp : plain d = true) (h : Rep K mg F d v) : Rep K mg F' d v := by
  cases d <;> first | (cases hp; done) | (unfold Rep at h ⊢; exact h)
theorem Sta.peek (S : Sta K mg B F H σ sd) (h : sd[i]? = some (.own c)) : ∃ F1, Ex F F1 ∧ Sta K mg ⟨F1, H, [], none⟩ F1 H σ (peekS sd i c) := by
  obtain ⟨o, h1, p, u, rfl, h2, h3, h4, h5⟩ := S.slot i _ h
  have e1 : Ex F (upd F p u) := Evl.Ex.new h4
  have hz : ∀ (j : Nat) (s : Slot), (peekS sd i c)[j]? = some s → (j = i ∧ s = .val c.d) ∨ s = .no ∨ ∃ d, sd[j]? = some (.val d) ∧ s = .val d := fun j s hs => by
    unfold peekS at hs
    by_cases z : i = j
    · subst z
      rw [List.getElem?_set_self (by simpa using (List.getElem?_eq_some_iff.mp h).1)] at hs
      cases hs
      exact .inl ⟨rfl, rfl⟩
    · rw [List.getElem?_set_ne z, List.getElem?_map] at hs
      cases e : sd[j]? with
      | none => rw [e] at hs; cases hs
      | some s' =>
        rw [e] at hs
        cases s' with
        | no => cases hs; exact .inr (.inl rfl)
        | own _ => cases hs; exact .inr (.inl rfl)
        | val d => cases hs; exact .inr (.inr ⟨d, rfl, rfl⟩)
  refine ⟨_, e1, fun a w e => ?_, Evl.Ex.refl _, fun a o h _ => h, fun a h => .inl h, fun p hp => (nomatch hp), ?_, fun j s hs => ?_, fun j k xs ys q g1 _ _ _ => ?_, fun p hp => (nomatch hp)⟩
  · by_cases z : a = p
    · subst z
      rw [upd_same] at e
      cases e
      exact h2
    · rw [upd_ne z] at e
      exact S.fh a w e
  · unfold peekS
    simp [S.len]
  · rcases hz j s hs with ⟨rfl, rfl⟩ | rfl | ⟨d, h6, rfl⟩
    · exact ⟨_, h1, .ref p, rfl, (h3.mono e1).rep upd_same⟩
    · have hl : j < σ.length := by
        have := (List.getElem?_eq_some_iff.mp hs).1
        unfold peekS at this
        rw [← S.len]
        simpa using this
      exact ⟨_, List.getElem?_eq_getElem hl, True.intro⟩
    · obtain ⟨v, k1, k2⟩ := S.val h6
      exact ⟨some v, k1, v, rfl, k2.mono e1⟩
  · rcases hz j _ g1 with ⟨_, h6⟩ | h6 | ⟨_, _, h6⟩
    · cases h6
    · cases h6
    · cases h6
end
section
variable {X : Cx} {e : Expr} {te : TE} {tt : TT} {me : M D} {mB : M Bool}
theorem pd_peek (i : Nat) (h : PEd X e te me) : PEd X e te (mPeek i me) := by
  refine ⟨h.1, fun B F H σ sd d sd' S hm Q q => ?_⟩
  obtain ⟨c, sd1, h1, h2⟩ := bnd_some hm
  obtain ⟨h3, rfl⟩ := mTake_some h1
  cases e1 : me (peekS sd1 i c) with
  | none => rw [e1] at h2; cases h2
  | some pr =>
    obtain ⟨d1, sd2⟩ := pr
    rw [e1] at h2
    have h2' : (if plain d1 = true then some (d1, sd1) else none) = some (d, sd') := h2
    by_cases z : plain d1 = true
    case neg =>
      rw [if_neg z] at h2'
      cases h2'
    rw [if_pos z] at h2'
    cases h2'
    obtain ⟨F1, e2, S1⟩ := S.peek h3
    refine h.2 _ F1 H σ _ _ sd2 S1 e1 Q fun v F2 H2 S2 e3 r => ?_
    have hh : Ex H H2 := fun a o ho => S2.keep a o ho (fun z => nomatch z)
    exact q v F H2 (S.grow (Grow.heap S.fh hh)) (Evl.Ex.refl _) (plain_rep z r)
theorem pt_peek (i : Nat) (h : PTd X e tt mB) : PTd X e tt (mPeekB i mB) := by
  refine ⟨h.1, fun B F H σ sd d sd' S hm Q q => ?_⟩
  obtain ⟨c, sd1, h1, h2⟩ := bnd_some hm
  obtain ⟨h3, rfl⟩ := mTake_some h1
  cases e1 : mB (peekS sd1 i c) with
  | none => rw [e1] at h2; cases h2
  | some pr =>
    obtain ⟨d1, sd2⟩ := pr
    rw [e1] at h2
    cases h2
    obtain ⟨F1, e2, S1⟩ := S.peek h3
    refine h.2 _ F1 H σ _ _ sd2 S1 e1 Q fun F2 H2 S2 e3 => ?_
    have hh : Ex H H2 := fun a o ho => S2.keep a o ho (fun z => nomatch z)
    exact q F H2 (S.grow (Grow.heap S.fh hh)) (Evl.Ex.refl _)
end

/-! ### what is walked -/
section
variable {X : Cx} {tg l a b : Expr} {tl : TE} {ml : M D} {tL : TA} {mL : M (List D)} {p pos tpos : Pos} {elts : List Expr} {kk : Nat}
def iAny (K : PySem.W.Frag) (tl : TE) : TI := fun σ H R => tl σ H fun x H1 => ∃ a xs, x = .ref a ∧ ((SqL K H1 a xs ∧ R (Itl K a) H1) ∨ (SqT K H1 a xs ∧ R (Itt K a) H1))
theorem pi_any (hl : PE X l tl) : PI X tg l (iAny X.K tl) := by
  constructor
  intro pins s σ H R I h
  refine thn (hl.run pins s σ H _ I h) ?_
  rintro v s1 ⟨x, H1, I1, r1, a, xs, rfl, q⟩
  cases r1
  have fpo : ∀ b ∈ [s1.heap.objs.size], FpOk X pins H1 b := fun b hb => by
    obtain rfl : b = s1.heap.objs.size := by simpa using hb
    exact I1.fpOk (Nat.le_refl _) (I1.hok.fresh (Nat.le_refl _))
  rcases q with ⟨hq, q⟩ | ⟨hq, q⟩
  · obtain ⟨its, rv, pl, _⟩ := I1.list hq
    exact wpAny_pyIter_list pl.isList ⟨_, _, _, _, H1, rfl, I1.kept (t' := s1.toks) fun b o e => Heap.get?_push_of_some _ e, turn_list a _, ⟨_, Heap.get?_push_size _ rfl, rfl, rfl⟩, fpo, q⟩
  · obtain ⟨its, rv, pl, _⟩ := I1.tuple hq
    exact wpAny_pyIter_tuple (show s1.heap.IsTuple a its.toArray from pl) ⟨_, _, _, _, H1, rfl, I1.kept (t' := s1.toks) fun b o e => Heap.get?_push_of_some _ e, turn_tuple a _, ⟨_, Heap.get?_push_size _ rfl, rfl, rfl⟩, fpo, q⟩
def itemsD : D → Option (List D)
  | .lst xs => some xs
  | .tup xs => some xs
  | _ => none
def mIt (m : M D) : M (List D) := bnd m fun d => lft (itemsD d)
theorem walks_l {K : PySem.W.Frag} {mg : Str → Option Value} {F : Hp} {a : Addr} {xs : List D} {vs : List V} (h : SqL K F a vs) (r : RepL K mg F xs vs) : Walks K mg F (Itl K a) xs :=
  ⟨_, _, by rw [r.len]; exact walk_list (xs := vs), fun H e => Evl.ex_l e h, fun i F1 H1 x H2 d e1 e2 y hd => by
    obtain ⟨rfl, y⟩ := y
    obtain ⟨v, h1, h2⟩ := r.get hd
    rw [h1] at y
    cases y
    exact ⟨F1, Grow.refl e2, h2.mono e1⟩⟩
theorem walks_t {K : PySem.W.Frag} {mg : Str → Option Value} {F : Hp} {a : Addr} {xs : List D} {vs : List V} (h : SqT K F a vs) (r : RepL K mg F xs vs) : Walks K mg F (Itt K a) xs :=
  ⟨_, _, by rw [r.len]; exact walk_tup (xs := vs), fun H e => Evl.ex_t e h, fun i F1 H1 x H2 d e1 e2 y hd => by
    obtain ⟨rfl, y⟩ := y
    obtain ⟨v, h1, h2⟩ := r.get hd
    rw [h1] at y
    cases y
    exact ⟨F1, Grow.refl e2, h2.mono e1⟩⟩
theorem it_any (h : PEd X l tl ml) : PId X tg l (iAny X.K tl) (mIt ml) := by
  refine ⟨pi_any h.1, fun B F H σ sd ds sd' S hm R q => ?_⟩
  obtain ⟨d, sd1, h1, h2⟩ := bnd_some hm
  obtain ⟨h3, rfl⟩ := lft_some h2
  refine h.2 B F H σ sd d _ S h1 _ fun v F1 H1 S1 e1 r => ?_
  cases d with
  | lst xs =>
    cases h3
    unfold Rep at r
    obtain ⟨a, vs, rfl, k1, k2⟩ := r
    exact ⟨a, vs, rfl, .inl ⟨Evl.sq_of (S1.fh _ _ k1), q _ F1 H1 S1 e1 (walks_l (Evl.sq_of k1) k2)⟩⟩
  | tup xs =>
    cases h3
    unfold Rep at r
    obtain ⟨a, vs, rfl, k1, k2⟩ := r
    exact ⟨a, vs, rfl, .inr ⟨Evl.ex_t S1.fh k1, q _ F1 H1 S1 e1 (walks_t k1 k2)⟩⟩
  | _ => cases h3
def okR (j : Int) : Bool := decide (-(2 ^ 62) ≤ j) && decide (j < 2 ^ 62)
def rng1D : List D → Option (List D)
  | [.int j] => if okR j = true then some ((List.range j.toNat).map fun i : Nat => D.int (i : Int)) else none
  | _ => none
def rng2D : List D → Option (List D)
  | [.int i, .int j] => if okR i = true ∧ okR j = true then some ((List.range (j - i).toNat).map fun k : Nat => D.int (i + (k : Int))) else none
  | _ => none
theorem okR_some {j : Int} (h : okR j = true) : -(2 ^ 62) ≤ j ∧ j < 2 ^ 62 := by
  unfold okR at h
  rw [Bool.and_eq_true, decide_eq_true_eq, decide_eq_true_eq] at h
  exact h
theorem walks_r {K : PySem.W.Frag} {mg : Str → Option Value} {F : Hp} {lo : Int} {n : Nat} : Walks K mg F (Itr lo n) ((List.range n).map fun i : Nat => D.int (lo + (i : Int))) :=
  ⟨_, _, by rw [List.length_map, List.length_range]; exact walk_range, fun _ _ => True.intro, fun i F1 H1 x H2 d e1 e2 y hd => by
    obtain ⟨rfl, rfl⟩ := y
    refine ⟨F1, Grow.refl e2, ?_⟩
    rw [List.getElem?_map] at hd
    by_cases z : i < n
    · rw [List.getElem?_range z] at hd
      cases hd
      unfold Rep
      rfl
    · rw [List.getElem?_eq_none (by simpa using z)] at hd
      cases hd⟩
theorem it_range1 (hg : Gl X "range") (hm : X.mg "range" = none) (ha : PAd X [a] tL mL) (hs : starEach [a] X.env = [(false, eval a X.env)] := by rfl) : PId X tg (.Call (.Name "range" p) [a] [] pos) (iRng1 tL) (bnd mL fun ds => lft (rng1D ds)) := by
  refine ⟨pi_range1 hg hm ha.1 hs, fun B F H σ sd ds sd' S hm' R q => ?_⟩
  obtain ⟨as, sd1, h1, h2⟩ := bnd_some hm'
  obtain ⟨h3, rfl⟩ := lft_some h2
  refine ha.2 B F H σ sd as _ S h1 _ fun vs F1 H1 S1 e1 r => ?_
  match as, h3, r with
  | [.int j], h3, r =>
    have h4 : (if okR j = true then some ((List.range j.toNat).map fun i : Nat => D.int (i : Int)) else none) = some ds := h3
    by_cases z : okR j = true
    · rw [if_pos z] at h4
      cases h4
      obtain ⟨v, vr, rfl, r1, r2⟩ := r.cons_inv
      obtain rfl := r2.nil_inv
      unfold Rep at r1
      obtain ⟨z1, z2⟩ := okR_some z
      refine ⟨j, by rw [r1], z1, z2, q _ F1 H1 S1 e1 ?_⟩
      have := walks_r (K := X.K) (mg := X.mg) (F := F1) (lo := 0) (n := j.toNat)
      simpa using this
    · rw [if_neg z] at h4
      cases h4
theorem it_range2 (hg : Gl X "range") (hm : X.mg "range" = none) (ha : PAd X [a, b] tL mL) (hs : starEach [a, b] X.env = [(false, eval a X.env), (false, eval b X.env)] := by rfl) (hs2 : starEach [b] X.env = [(false, eval b X.env)] := by rfl) :
    PId X tg (.Call (.Name "range" p) [a, b] [] pos) (iRng2 tL) (bnd mL fun ds => lft (rng2D ds)) := by
  refine ⟨pi_range2 hg hm ha.1 hs hs2, fun B F H σ sd ds sd' S hm' R q => ?_⟩
  obtain ⟨as, sd1, h1, h2⟩ := bnd_some hm'
  obtain ⟨h3, rfl⟩ := lft_some h2
  refine ha.2 B F H σ sd as _ S h1 _ fun vs F1 H1 S1 e1 r => ?_
  match as, h3, r with
  | [.int i, .int j], h3, r =>
    have h4 : (if okR i = true ∧ okR j = true then some ((List.range (j - i).toNat).map fun k : Nat => D.int (i + (k : Int))) else none) = some ds := h3
    by_cases z : okR i = true ∧ okR j = true
    · rw [if_pos z] at h4
      cases h4
      obtain ⟨v, vr, rfl, r1, r2⟩ := r.cons_inv
      obtain ⟨v2, vr2, rfl, r3, r4⟩ := r2.cons_inv
      obtain rfl := r4.nil_inv
      unfold Rep at r1 r3
      obtain ⟨z1, z2⟩ := okR_some z.1
      obtain ⟨z3, z4⟩ := okR_some z.2
      exact ⟨i, j, by rw [r1, r3], ⟨z1, z2, z3, z4⟩, q _ F1 H1 S1 e1 walks_r⟩
    · rw [if_neg z] at h4
      cases h4
/-- enumerate(a list) -/
def enumD : List D → Option (List D)
  | [.lst xs] => some (xs.mapIdx fun i d => .tup [.int (i : Int), d])
  | _ => none
theorem it_enum (hg : Gl X "enumerate") (hm : X.mg "enumerate" = none) (ha : PAd X [a] tL mL) (hs : starEach [a] X.env = [(false, eval a X.env)] := by rfl) : PId X (.Tuple elts kk tpos) (.Call (.Name "enumerate" p) [a] [] pos) (iEnum X.K tL) (bnd mL fun ds => lft (enumD ds)) := by
  refine ⟨pi_enum hg hm ha.1 hs, fun B F H σ sd ds sd' S hm' R q => ?_⟩
  obtain ⟨as, sd1, h1, h2⟩ := bnd_some hm'
  obtain ⟨h3, rfl⟩ := lft_some h2
  refine ha.2 B F H σ sd as _ S h1 _ fun vs F1 H1 S1 e1 r => ?_
  match as, h3, r with
  | [.lst xs], h3, r =>
    cases h3
    obtain ⟨v, vr, rfl, r1, r2⟩ := r.cons_inv
    obtain rfl := r2.nil_inv
    unfold Rep at r1
    obtain ⟨al, ws, rfl, k1, k2⟩ := r1
    refine ⟨al, ws, rfl, Evl.sq_of (S1.fh _ _ k1), q _ F1 H1 S1 e1 ⟨fun H => SqL X.K H al ws, YPair (fun i => some (.int (i : Nat))) (fun i => ws[i]?), ?_, fun H e => Evl.ex_l e (Evl.sq_of k1), fun i F2 H2 x H3 d g1 g2 y hd => ?_⟩⟩
    · rw [List.length_mapIdx, k2.len]
      exact walk_enum (xs := ws)
    · obtain ⟨T, u1, u2, rfl, n1, rfl, y1, y2⟩ := y
      cases y1
      rw [List.getElem?_mapIdx] at hd
      cases e0 : xs[i]? with
      | none => rw [e0] at hd; cases hd
      | some d0 =>
        rw [e0] at hd
        cases hd
        obtain ⟨v, k3, k4⟩ := k2.get e0
        have y2' : ws[i]? = some u2 := y2
        rw [k3] at y2'
        have y3 := Option.some.inj y2'
        subst y3
        have g := Grow.laid (o := .tup [.int (i : Int), v]) g2 n1
        exact ⟨_, g, rep_tup upd_same (RepL.cons (by unfold Rep; rfl) (RepL.cons (k4.mono (g1.trans g.ff)) RepL.nil))⟩
/-- zip of two lists, of two tuples -/
def zipD : List D → Option (List D)
  | [.lst xs, .lst ys] => some ((xs.zip ys).map fun p => .tup [p.1, p.2])
  | [.tup xs, .tup ys] => some ((xs.zip ys).map fun p => .tup [p.1, p.2])
  | _ => none
theorem yields_pair {K : PySem.W.Frag} {mg : Str → Option Value} {F : Hp} {xs ys : List D} {us ws : List V} (r1 : RepL K mg F xs us) (r2 : RepL K mg F ys ws) (i : Nat) (F1 H1 : Hp) (x : V) (H2 : Hp) (d : D) (e1 : Ex F F1) (e2 : Ex F1 H1)
    (y : YPair (fun i => us[i]?) (fun i => ws[i]?) i H1 x H2) (hd : ((xs.zip ys).map fun p => D.tup [p.1, p.2])[i]? = some d) : ∃ F2, Grow F1 H1 F2 H2 ∧ Rep K mg F2 d x := by
  obtain ⟨T, u1, u2, rfl, n1, rfl, y1, y2⟩ := y
  rw [List.getElem?_map] at hd
  cases e0 : (xs.zip ys)[i]? with
  | none => rw [e0] at hd; cases hd
  | some d0 =>
    rw [e0] at hd
    cases hd
    obtain ⟨h1, h2⟩ := List.getElem?_zip_eq_some.mp e0
    obtain ⟨v1, k1, k2⟩ := r1.get h1
    obtain ⟨v2, k3, k4⟩ := r2.get h2
    have y1' : us[i]? = some u1 := y1
    have y2' : ws[i]? = some u2 := y2
    rw [k1] at y1'
    rw [k3] at y2'
    cases y1'
    cases y2'
    have g := Grow.laid (o := .tup [u1, u2]) e2 n1
    exact ⟨_, g, rep_tup upd_same (RepL.cons (k2.mono (e1.trans g.ff)) (RepL.cons (k4.mono (e1.trans g.ff)) RepL.nil))⟩
end
end Mir
set_option linter.all false
set_option maxRecDepth 100000
set_option maxHeartbeats 4000000
namespace Mir
open PySem PySem.Spec L2

section
variable {K : PySem.W.Frag} {mg : Str → Option Value} {F : Hp}
theorem Rep.int {i : Int} : Rep K mg F (.int i) (.int i) := by unfold Rep; rfl
theorem Rep.bl {i : Bool} : Rep K mg F (.bl i) (.bl i) := by unfold Rep; rfl
theorem Rep.str {i : Str} : Rep K mg F (.str i) (.str i) := by unfold Rep; rfl
theorem Rep.non : Rep K mg F .non .non := by unfold Rep; rfl
theorem Rep.int' {i : Int} {v : V} (h : Rep K mg F (.int i) v) : v = .int i := by unfold Rep at h; exact h
theorem Rep.bl' {i : Bool} {v : V} (h : Rep K mg F (.bl i) v) : v = .bl i := by unfold Rep at h; exact h
theorem Rep.str' {i : Str} {v : V} (h : Rep K mg F (.str i) v) : v = .str i := by unfold Rep at h; exact h
theorem Rep.non' {v : V} (h : Rep K mg F .non v) : v = .non := by unfold Rep at h; exact h
theorem Rep.lst' {xs : List D} {v : V} (h : Rep K mg F (.lst xs) v) : ∃ a vs, v = .ref a ∧ F a = some (.lst vs) ∧ RepL K mg F xs vs := by unfold Rep at h; exact h
theorem Rep.tup' {xs : List D} {v : V} (h : Rep K mg F (.tup xs) v) : ∃ a vs, v = .ref a ∧ SqT K F a vs ∧ RepL K mg F xs vs := by unfold Rep at h; exact h
theorem RepL.one {d : D} {vs : List V} (h : RepL K mg F [d] vs) : ∃ v, vs = [v] ∧ Rep K mg F d v := by
  obtain ⟨v, r, rfl, h1, h2⟩ := h.cons_inv
  obtain rfl := h2.nil_inv
  exact ⟨v, rfl, h1⟩
theorem RepL.two {d e : D} {vs : List V} (h : RepL K mg F [d, e] vs) : ∃ v w, vs = [v, w] ∧ Rep K mg F d v ∧ Rep K mg F e w := by
  obtain ⟨v, r, rfl, h1, h2⟩ := h.cons_inv
  obtain ⟨w, rfl, h3⟩ := h2.one
  exact ⟨v, w, rfl, h1, h3⟩
end
section
variable {X : Cx}
/-! ### arithmetic -/
theorem op_ints {f : Value → Value → Sem Value} {C : Int → Int → Prop} {g : Int → Int → V} {G : D → D → Option D} (h : OpR X f (rI C g))
    (hg : ∀ d1 d2 d, G d1 d2 = some d → ∃ i j, d1 = .int i ∧ d2 = .int j ∧ C i j ∧ ∀ F, Rep X.K X.mg F d (g i j)) : OpD X f (rI C g) G :=
  ⟨h, fun F H d1 d2 d v1 v2 fh r1 r2 hd Q q => by
    obtain ⟨i, j, rfl, rfl, hc, hr⟩ := hg d1 d2 d hd
    exact ⟨i, j, r1.int', r2.int', hc, q _ F H (Grow.refl fh) (hr F)⟩⟩
theorem op_ints0 {f : Value → Value → Sem Value} {g : Int → Int → V} {G : D → D → Option D} (h : OpR X f (rI0 g))
    (hg : ∀ d1 d2 d, G d1 d2 = some d → ∃ i j, d1 = .int i ∧ d2 = .int j ∧ ∀ F, Rep X.K X.mg F d (g i j)) : OpD X f (rI0 g) G :=
  ⟨h, fun F H d1 d2 d v1 v2 fh r1 r2 hd Q q => by
    obtain ⟨i, j, rfl, rfl, hr⟩ := hg d1 d2 d hd
    exact ⟨i, j, r1.int', r2.int', q _ F H (Grow.refl fh) (hr F)⟩⟩
def subD : D → D → Option D
  | .int i, .int j => some (.int (i - j))
  | _, _ => none
theorem o_sub : OpD X (binaryOp .Sub) (rI0 fun i j => .int (i - j)) subD := op_ints0 op_sub fun d1 d2 d h => by
  cases d1 <;> cases d2 <;> first | (cases h; done) | (cases h; exact ⟨_, _, rfl, rfl, fun F => Rep.int⟩)
/-- a product is told of factors below this -/
def big : Nat := 2 ^ 4000
def mulD : D → D → Option D
  | .int i, .int j => if i.natAbs < big ∧ j.natAbs < big then some (.int (i * j)) else none
  | .lst xs, .int k => if 0 ≤ k ∧ k < 1000 ∧ xs.length * k.toNat ≤ 100000 then some (.lst (List.replicate k.toNat xs).flatten) else none
  | _, _ => none
def rMulA : R2 := fun x y H Q => rI CMulW (fun i j => .int (i * j)) x y H Q ∨ rRep x y H Q
theorem RepL.repl {K : PySem.W.Frag} {mg : Str → Option Value} {F : Hp} {xs : List D} {vs : List V} (r : RepL K mg F xs vs) : ∀ n : Nat, RepL K mg F (List.replicate n xs).flatten (List.replicate n vs).flatten
  | 0 => RepL.nil
  | n + 1 => by
    rw [List.replicate_succ, List.replicate_succ, List.flatten_cons, List.flatten_cons]
    exact r.append (RepL.repl r n)
theorem o_mul : OpD X (binaryOp .Mult) rMulA mulD := ⟨OpR.or op_mulW op_rep, fun F H d1 d2 d v1 v2 fh r1 r2 hd Q q => by
  cases d1 with
  | int i =>
    cases d2 with
    | int j =>
      have h : (if i.natAbs < big ∧ j.natAbs < big then some (D.int (i * j)) else none) = some d := hd
      by_cases z : i.natAbs < big ∧ j.natAbs < big
      · rw [if_pos z] at h
        cases h
        exact .inl ⟨i, j, r1.int', r2.int', wide_mul (a := 4000) (b := 4000) z.1 z.2 (by decide) (by decide) (by decide), q _ F H (Grow.refl fh) Rep.int⟩
      · rw [if_neg z] at h
        cases h
    | _ => cases hd
  | lst xs =>
    cases d2 with
    | int k =>
      have h : (if 0 ≤ k ∧ k < 1000 ∧ xs.length * k.toNat ≤ 100000 then some (D.lst (List.replicate k.toNat xs).flatten) else none) = some d := hd
      by_cases z : 0 ≤ k ∧ k < 1000 ∧ xs.length * k.toNat ≤ 100000
      · rw [if_pos z] at h
        cases h
        obtain ⟨z0, z1, z2⟩ := z
        obtain ⟨a, vs, rfl, h1, h2⟩ := r1.lst'
        refine .inr ⟨a, k, vs, rfl, r2.int', fh _ _ h1, by omega, by omega, Evl.sz_of (by rw [← h2.len]; exact z2), fun p hp => ?_⟩
        have g := Grow.laid (o := .lst (List.replicate k.toNat vs).flatten) fh hp
        exact q _ _ _ g (rep_lst upd_same ((h2.repl _).mono g.ff))
      · rw [if_neg z] at h
        cases h
    | _ => cases hd
  | _ => cases d2 <;> cases hd⟩
def divD : D → D → Option D
  | .int i, .int j => if 0 < j ∧ j.natAbs < big then some (.int (i / j)) else none
  | _, _ => none
theorem o_div : OpD X (binaryOp .FloorDiv) (rI CDivW fun i j => .int (i / j)) divD := op_ints op_fdivW fun d1 d2 d h => by
  cases d1 with
  | int i =>
    cases d2 with
    | int j =>
      have h' : (if 0 < j ∧ j.natAbs < big then some (D.int (i / j)) else none) = some d := h
      by_cases z : 0 < j ∧ j.natAbs < big
      · rw [if_pos z] at h'
        cases h'
        exact ⟨i, j, rfl, rfl, wide_div (b := 4000) z.1 z.2 (by decide) (by decide), fun F => Rep.int⟩
      · rw [if_neg z] at h'
        cases h'
    | _ => cases h
  | _ => cases d2 <;> cases h
def modD : D → D → Option D
  | .int i, .int j => if 0 < j then some (.int (i % j)) else none
  | _, _ => none
theorem o_mod : OpD X (binaryOp .Mod) (rI (fun _ j => 0 < j) fun i j => .int (i % j)) modD := op_ints op_mod fun d1 d2 d h => by
  cases d1 with
  | int i =>
    cases d2 with
    | int j =>
      have h' : (if 0 < j then some (D.int (i % j)) else none) = some d := h
      by_cases z : 0 < j
      · rw [if_pos z] at h'
        cases h'
        exact ⟨i, j, rfl, rfl, z, fun F => Rep.int⟩
      · rw [if_neg z] at h'
        cases h'
    | _ => cases h
  | _ => cases d2 <;> cases h
def powD : D → D → Option D
  | .int i, .int j => if 0 ≤ j ∧ j ≤ 1000 ∧ i.natAbs < 2 ^ 64 then some (.int (i ^ j.toNat)) else none
  | _, _ => none
theorem o_pow : OpD X (binaryOp .Pow) (rI CPow fun i j => .int (i ^ j.toNat)) powD := op_ints op_pow fun d1 d2 d h => by
  cases d1 with
  | int i =>
    cases d2 with
    | int j =>
      have h' : (if 0 ≤ j ∧ j ≤ 1000 ∧ i.natAbs < 2 ^ 64 then some (D.int (i ^ j.toNat)) else none) = some d := h
      by_cases z : 0 ≤ j ∧ j ≤ 1000 ∧ i.natAbs < 2 ^ 64
      · rw [if_pos z] at h'
        cases h'
        exact ⟨i, j, rfl, rfl, ⟨z.1, by omega, z.2.2⟩, fun F => Rep.int⟩
      · rw [if_neg z] at h'
        cases h'
    | _ => cases h
  | _ => cases d2 <;> cases h
def negD : D → Option D
  | .int i => some (.int (-i))
  | _ => none
theorem o_neg : UnD X (unaryOp .USub) (rU fun i => .int (-i)) negD := ⟨un_neg, fun F H d1 d v1 fh r1 hd Q q => by
  cases d1 with
  | int i =>
    cases hd
    exact ⟨i, r1.int', q _ F H (Grow.refl fh) Rep.int⟩
  | _ => cases hd⟩
/-! + -/
def addD : D → D → Option D
  | .int i, .int j => some (.int (i + j))
  | .str x, .str y => lim (x.length + y.length) (.str (x ++ y))
  | .lst xs, .lst ys => lim (xs.length + ys.length) (.lst (xs ++ ys))
  | .tup xs, .tup ys => lim (xs.length + ys.length) (.tup (xs ++ ys))
  | _, _ => none
def rAddS' : R2 := fun x y H Q => ∃ i j, x = .str i ∧ y = .str j ∧ i.length + j.length ≤ sizeLine ∧ Q (.str (i ++ j)) H
def rAddA (K : PySem.W.Frag) : R2 := fun x y H Q => rI0 (fun i j => .int (i + j)) x y H Q ∨ (rAddS' x y H Q ∨ (rCat x y H Q ∨ rCatA K x y H Q))
theorem o_add : OpD X (binaryOp .Add) (rAddA X.K) addD := ⟨OpR.or op_add (OpR.or op_add_str (OpR.or op_cat op_catA)), fun F H d1 d2 d v1 v2 fh r1 r2 hd Q q => by
  cases d1 with
  | int i =>
    cases d2 with
    | int j =>
      cases hd
      exact .inl ⟨i, j, r1.int', r2.int', q _ F H (Grow.refl fh) Rep.int⟩
    | _ => cases hd
  | str x =>
    cases d2 with
    | str y =>
      obtain ⟨rfl, hl⟩ := lim_some (show lim (x.length + y.length) (D.str (x ++ y)) = some d from hd)
      exact .inr (.inl ⟨x, y, r1.str', r2.str', Evl.sz_of hl, q _ F H (Grow.refl fh) Rep.str⟩)
    | _ => cases hd
  | lst xs =>
    cases d2 with
    | lst ys =>
      obtain ⟨rfl, hl⟩ := lim_some (show lim (xs.length + ys.length) (D.lst (xs ++ ys)) = some d from hd)
      obtain ⟨a, vs, rfl, h1, h2⟩ := r1.lst'
      obtain ⟨b, ws, rfl, h3, h4⟩ := r2.lst'
      refine .inr (.inr (.inl ⟨a, b, vs, ws, rfl, rfl, fh _ _ h1, fh _ _ h3, Evl.sz_of (by rw [← h2.len, ← h4.len]; exact hl), fun p hp => ?_⟩))
      have g := Grow.laid (o := .lst (vs ++ ws)) fh hp
      exact q _ _ _ g (rep_lst upd_same ((h2.append h4).mono g.ff))
    | _ => cases hd
  | tup xs =>
    cases d2 with
    | tup ys =>
      obtain ⟨rfl, hl⟩ := lim_some (show lim (xs.length + ys.length) (D.tup (xs ++ ys)) = some d from hd)
      have r1' := r1
      have r2' := r2
      obtain ⟨a, vs, rfl, h1, h2⟩ := r1.tup'
      obtain ⟨b, ws, rfl, h3, h4⟩ := r2.tup'
      refine .inr (.inr (.inr ⟨a, b, vs, ws, rfl, rfl, Evl.ex_t fh h1, Evl.ex_t fh h3, Evl.sz_of (by rw [← h2.len, ← h4.len]; exact hl), fun e => ?_, fun _ e => ?_, fun _ _ p hp => ?_⟩))
      · have e' : xs = [] := by
          have := h2.len
          rw [e] at this
          exact List.length_eq_zero_iff.mp this
        subst e'
        exact q _ F H (Grow.refl fh) r2'
      · have e' : ys = [] := by
          have := h4.len
          rw [e] at this
          exact List.length_eq_zero_iff.mp this
        subst e'
        rw [List.append_nil] at q
        exact q _ F H (Grow.refl fh) r1'
      · have g := Grow.laid (o := .tup (vs ++ ws)) fh hp
        exact q _ _ _ g (rep_tup upd_same ((h2.append h4).mono g.ff))
    | _ => cases hd
  | _ => cases d2 <;> cases hd⟩
/-! ### comparisons -/
def ltD : D → D → Option D
  | .int i, .int j => some (.bl (decide (i < j)))
  | _, _ => none
def leD : D → D → Option D
  | .int i, .int j => some (.bl (decide (i ≤ j)))
  | _, _ => none
def gtD : D → D → Option D
  | .int i, .int j => some (.bl (decide (j < i)))
  | _, _ => none
def geD : D → D → Option D
  | .int i, .int j => some (.bl (decide (j ≤ i)))
  | _, _ => none
theorem o_lt : OpD X (compareOp .Lt) (rI0 fun i j => .bl (decide (i < j))) ltD := op_ints0 op_lt fun d1 d2 d h => by
  cases d1 <;> cases d2 <;> first | (cases h; done) | (cases h; exact ⟨_, _, rfl, rfl, fun F => Rep.bl⟩)
theorem o_le : OpD X (compareOp .LtE) (rI0 fun i j => .bl (decide (i ≤ j))) leD := op_ints0 op_le fun d1 d2 d h => by
  cases d1 <;> cases d2 <;> first | (cases h; done) | (cases h; exact ⟨_, _, rfl, rfl, fun F => Rep.bl⟩)
theorem o_gt : OpD X (compareOp .Gt) (rI0 fun i j => .bl (decide (j < i))) gtD := op_ints0 op_gt fun d1 d2 d h => by
  cases d1 <;> cases d2 <;> first | (cases h; done) | (cases h; exact ⟨_, _, rfl, rfl, fun F => Rep.bl⟩)
theorem o_ge : OpD X (compareOp .GtE) (rI0 fun i j => .bl (decide (j ≤ i))) geD := op_ints0 op_ge fun d1 d2 d h => by
  cases d1 <;> cases d2 <;> first | (cases h; done) | (cases h; exact ⟨_, _, rfl, rfl, fun F => Rep.bl⟩)
def isNoneD : D → D → Option D
  | .non, .non => some (.bl true)
  | .bl _, .non => some (.bl false)
  | .int _, .non => some (.bl false)
  | .str _, .non => some (.bl false)
  | .lst _, .non => some (.bl false)
  | .tup _, .non => some (.bl false)
  | .ins _ _ _, .non => some (.bl false)
  | .dct _ _, .non => some (.bl false)
  | _, _ => none
def notNoneD (x y : D) : Option D := match isNoneD x y with
  | some (.bl b) => some (.bl (!b))
  | _ => none
theorem isNone_rep {F : Hp} {d1 d2 d : D} {v1 v2 : V} (r1 : Rep X.K X.mg F d1 v1) (r2 : Rep X.K X.mg F d2 v2) (h : isNoneD d1 d2 = some d) : v2 = .non ∧ d = .bl (decide (v1 = .non)) := by
  cases d2 with
  | non =>
    refine ⟨r2.non', ?_⟩
    cases d1 with
    | non => cases h; rw [r1.non']; rfl
    | bl b => cases h; rw [r1.bl']; rfl
    | int b => cases h; rw [r1.int']; rfl
    | str b => cases h; rw [r1.str']; rfl
    | lst b => cases h; obtain ⟨a, vs, rfl, _⟩ := r1.lst'; rfl
    | tup b => cases h; obtain ⟨a, vs, rfl, _⟩ := r1.tup'; rfl
    | ins c ns xs => cases h; unfold Rep at r1; obtain ⟨a, C, dx, vs, rfl, _⟩ := r1; rfl
    | dct ks xs => cases h; unfold Rep at r1; obtain ⟨a, vs, rfl, _⟩ := r1; rfl
    | scr _ => cases h
    | ty _ => cases h
    | cls _ => cases h
    | exn _ _ _ => cases h
    | hot _ _ _ _ _ _ => cases h
  | _ => cases d1 <;> cases h
theorem o_isN : OpD X (compareOp .Is) (fun x y H Q => y = .non ∧ Q (.bl (decide (x = .non))) H) isNoneD := ⟨op_isN, fun F H d1 d2 d v1 v2 fh r1 r2 hd Q q => by
  obtain ⟨h1, rfl⟩ := isNone_rep r1 r2 hd
  exact ⟨h1, q _ F H (Grow.refl fh) Rep.bl⟩⟩
theorem o_notN : OpD X (compareOp .IsNot) (fun x y H Q => y = .non ∧ Q (.bl (!decide (x = .non))) H) notNoneD := ⟨op_notN, fun F H d1 d2 d v1 v2 fh r1 r2 hd Q q => by
  unfold notNoneD at hd
  cases e : isNoneD d1 d2 with
  | none => rw [e] at hd; cases hd
  | some b =>
    obtain ⟨h1, rfl⟩ := isNone_rep r1 r2 e
    rw [e] at hd
    cases hd
    exact ⟨h1, q _ F H (Grow.refl fh) Rep.bl⟩⟩
/-! data as a whole -/
mutual
def pyD : Nat → D → Option PyData
  | _, .non => some .none
  | _, .bl b => some (.bool b)
  | _, .int i => some (.int i)
  | _, .str x => if PyData.canLay0 (.str x) = true then some (.str x) else none
  | n + 1, .lst xs => (pyL n xs).map .list
  | n + 1, .tup xs => (pyL n xs).map .tuple
  | _, _ => none
def pyL : Nat → List D → Option (List PyData)
  | _, [] => some []
  | n, x :: xs => match pyD n x, pyL n xs with
    | some p, some ps => some (p :: ps)
    | _, _ => none
end
end
end Mir
set_option linter.all false
set_option maxRecDepth 100000
set_option maxHeartbeats 4000000
namespace Mir
open PySem PySem.Spec L2

section
variable {K : PySem.W.Frag} {mg : Str → Option Value}
mutual
theorem pyD_dp {F : Hp} : ∀ {n : Nat} {d : D} {p : PyData} {v : V}, pyD n d = some p → Rep K mg F d v → Dp K F v p
  | n, .non, p, v, h, r => by
    have h' : some PyData.none = some p := by cases n <;> simpa [pyD] using h
    cases h'
    rw [r.non']
    exact .non
  | n, .bl b, p, v, h, r => by
    have h' : some (PyData.bool b) = some p := by cases n <;> simpa [pyD] using h
    cases h'
    rw [r.bl']
    exact .bl b
  | n, .int i, p, v, h, r => by
    have h' : some (PyData.int i) = some p := by cases n <;> simpa [pyD] using h
    cases h'
    rw [r.int']
    exact .int i
  | n, .str x, p, v, h, r => by
    have h' : (if PyData.canLay0 (.str x) = true then some (PyData.str x) else none) = some p := by cases n <;> simpa [pyD] using h
    by_cases z : PyData.canLay0 (.str x) = true
    · rw [if_pos z] at h'
      cases h'
      rw [r.str']
      exact .str x
    · rw [if_neg z] at h'
      cases h'
  | n + 1, .lst xs, p, v, h, r => by
    have h' : (pyL n xs).map PyData.list = some p := by simpa [pyD] using h
    cases e : pyL n xs with
    | none => rw [e] at h'; cases h'
    | some ps =>
      rw [e] at h'
      cases h'
      obtain ⟨a, vs, rfl, h1, h2⟩ := r.lst'
      exact .lst (Evl.sq_of h1) (pyL_dp e h2)
  | n + 1, .tup xs, p, v, h, r => by
    have h' : (pyL n xs).map PyData.tuple = some p := by simpa [pyD] using h
    cases e : pyL n xs with
    | none => rw [e] at h'; cases h'
    | some ps =>
      rw [e] at h'
      cases h'
      obtain ⟨a, vs, rfl, h1, h2⟩ := r.tup'
      exact .tup h1 (pyL_dp e h2)
  | 0, .lst xs, p, v, h, r => by simp [pyD] at h
  | 0, .tup xs, p, v, h, r => by simp [pyD] at h
  | n, .ins _ _ _, p, v, h, r => by cases n <;> simp [pyD] at h
  | n, .dct _ _, p, v, h, r => by cases n <;> simp [pyD] at h
  | n, .scr _, p, v, h, r => by cases n <;> simp [pyD] at h
  | n, .ty _, p, v, h, r => by cases n <;> simp [pyD] at h
  | n, .cls _, p, v, h, r => by cases n <;> simp [pyD] at h
  | n, .exn _ _ _, p, v, h, r => by cases n <;> simp [pyD] at h
  | n, .hot _ _ _ _ _ _, p, v, h, r => by cases n <;> simp [pyD] at h
theorem pyL_dp {F : Hp} : ∀ {n : Nat} {ds : List D} {ps : List PyData} {vs : List V}, pyL n ds = some ps → RepL K mg F ds vs → DpAll K F vs ps
  | n, [], ps, vs, h, r => by
    have h' : some [] = some ps := by cases n <;> simpa [pyL] using h
    cases h'
    rw [r.nil_inv]
    exact .nil
  | n, x :: xs, ps, vs, h, r => by
    obtain ⟨v, vr, rfl, r1, r2⟩ := r.cons_inv
    cases e1 : pyD n x with
    | none => cases n <;> simp [pyL, e1] at h
    | some p =>
      cases e2 : pyL n xs with
      | none => cases n <;> simp [pyL, e1, e2] at h
      | some qs =>
        have h' : some (p :: qs) = some ps := by cases n <;> simpa [pyL, e1, e2] using h
        cases h'
        exact .cons (pyD_dp e1 r1) (pyL_dp e2 r2)
end
mutual
theorem pyD_ok : ∀ {n : Nat} {d : D} {p : PyData}, pyD n d = some p → PyData.canLay0 p = true ∧ p.depth ≤ n ∧ p.hasDict = false
  | n, .non, p, h => by
    have h' : some PyData.none = some p := by cases n <;> simpa [pyD] using h
    cases h'
    refine ⟨by simp [PyData.canLay0], by simp [PyData.depth], by simp [PyData.hasDict]⟩
  | n, .bl b, p, h => by
    have h' : some (PyData.bool b) = some p := by cases n <;> simpa [pyD] using h
    cases h'
    refine ⟨by simp [PyData.canLay0], by simp [PyData.depth], by simp [PyData.hasDict]⟩
  | n, .int i, p, h => by
    have h' : some (PyData.int i) = some p := by cases n <;> simpa [pyD] using h
    cases h'
    refine ⟨by simp [PyData.canLay0], by simp [PyData.depth], by simp [PyData.hasDict]⟩
  | n, .str x, p, h => by
    have h' : (if PyData.canLay0 (.str x) = true then some (PyData.str x) else none) = some p := by cases n <;> simpa [pyD] using h
    by_cases z : PyData.canLay0 (.str x) = true
    · rw [if_pos z] at h'
      cases h'
      exact ⟨z, by simp [PyData.depth], by simp [PyData.hasDict]⟩
    · rw [if_neg z] at h'
      cases h'
  | n + 1, .lst xs, p, h => by
    have h' : (pyL n xs).map PyData.list = some p := by simpa [pyD] using h
    cases e : pyL n xs with
    | none => rw [e] at h'; cases h'
    | some ps =>
      rw [e] at h'
      cases h'
      obtain ⟨h1, h2, h3⟩ := pyL_ok e
      exact ⟨by simpa [PyData.canLay0] using h1, by simpa [PyData.depth] using h2, by simpa [PyData.hasDict] using h3⟩
  | n + 1, .tup xs, p, h => by
    have h' : (pyL n xs).map PyData.tuple = some p := by simpa [pyD] using h
    cases e : pyL n xs with
    | none => rw [e] at h'; cases h'
    | some ps =>
      rw [e] at h'
      cases h'
      obtain ⟨h1, h2, h3⟩ := pyL_ok e
      exact ⟨by simpa [PyData.canLay0] using h1, by simpa [PyData.depth] using h2, by simpa [PyData.hasDict] using h3⟩
  | 0, .lst xs, p, h => by simp [pyD] at h
  | 0, .tup xs, p, h => by simp [pyD] at h
  | n, .ins _ _ _, p, h => by cases n <;> simp [pyD] at h
  | n, .dct _ _, p, h => by cases n <;> simp [pyD] at h
  | n, .scr _, p, h => by cases n <;> simp [pyD] at h
  | n, .ty _, p, h => by cases n <;> simp [pyD] at h
  | n, .cls _, p, h => by cases n <;> simp [pyD] at h
  | n, .exn _ _ _, p, h => by cases n <;> simp [pyD] at h
  | n, .hot _ _ _ _ _ _, p, h => by cases n <;> simp [pyD] at h
theorem pyL_ok : ∀ {n : Nat} {ds : List D} {ps : List PyData}, pyL n ds = some ps → PyData.canLayAll0 ps = true ∧ PyData.depthAll ps ≤ n ∧ PyData.hasDictAll ps = false
  | n, [], ps, h => by
    have h' : some [] = some ps := by cases n <;> simpa [pyL] using h
    cases h'
    refine ⟨by simp [PyData.canLayAll0], by simp [PyData.depthAll], by simp [PyData.hasDictAll]⟩
  | n, x :: xs, ps, h => by
    cases e1 : pyD n x with
    | none => cases n <;> simp [pyL, e1] at h
    | some p =>
      cases e2 : pyL n xs with
      | none => cases n <;> simp [pyL, e1, e2] at h
      | some qs =>
        have h' : some (p :: qs) = some ps := by cases n <;> simpa [pyL, e1, e2] using h
        cases h'
        obtain ⟨a1, a2, a3⟩ := pyD_ok e1
        obtain ⟨b1, b2, b3⟩ := pyL_ok e2
        refine ⟨by simp [PyData.canLayAll0, a1, b1], by simp only [PyData.depthAll]; omega, by simp [PyData.hasDictAll, a3, b3]⟩
end
theorem shaped_of {d : D} {p : PyData} (h : pyD 12 d = some p) : SeqAt.shaped p = true := by
  obtain ⟨h1, h2, _⟩ := pyD_ok h
  unfold SeqAt.shaped
  rw [h1, decide_eq_true (show p.depth ≤ 64 by omega)]
  rfl
end
theorem dp_mono {K : PySem.W.Frag} {F H : Hp} (e : Ex F H) : True := True.intro
section
variable {X : Cx}
def eqD (x y : D) : Option D := match pyD 12 x, pyD 12 y with
  | some p, some q => some (.bl (PyData.eqv p q))
  | _, _ => none
def neD (x y : D) : Option D := match pyD 12 x, pyD 12 y with
  | some p, some q => some (.bl (!PyData.eqv p q))
  | _, _ => none
theorem o_eq (hu : X.A.units + 64 < cLine) : OpD X (compareOp .Eq) (rEqD X.K) eqD := ⟨op_eqD hu, fun F H d1 d2 d v1 v2 fh r1 r2 hd Q q => by
  unfold eqD at hd
  cases e1 : pyD 12 d1 with
  | none => rw [e1] at hd; cases hd
  | some p1 =>
    cases e2 : pyD 12 d2 with
    | none => rw [e1, e2] at hd; cases hd
    | some p2 =>
      rw [e1, e2] at hd
      cases hd
      exact ⟨p1, p2, pyD_dp e1 (r1.mono fh), pyD_dp e2 (r2.mono fh), shaped_of e1, shaped_of e2, q _ F H (Grow.refl fh) Rep.bl⟩⟩
theorem o_ne (hu : X.A.units + 64 < cLine) : OpD X (compareOp .NotEq) (rNeD X.K) neD := ⟨op_neD hu, fun F H d1 d2 d v1 v2 fh r1 r2 hd Q q => by
  unfold neD at hd
  cases e1 : pyD 12 d1 with
  | none => rw [e1] at hd; cases hd
  | some p1 =>
    cases e2 : pyD 12 d2 with
    | none => rw [e1, e2] at hd; cases hd
    | some p2 =>
      rw [e1, e2] at hd
      cases hd
      exact ⟨p1, p2, pyD_dp e1 (r1.mono fh), pyD_dp e2 (r2.mono fh), shaped_of e1, shaped_of e2, q _ F H (Grow.refl fh) Rep.bl⟩⟩
/-! what is in a list, in a tuple -/
def flatD : D → Bool
  | .non => true
  | .bl _ => true
  | .int _ => true
  | .str _ => true
  | _ => false
def eqF : D → D → Bool
  | .non, .non => true
  | .bl a, .bl b => a == b
  | .bl a, .int b => (if a then 1 else 0) == b
  | .int a, .bl b => a == (if b then 1 else 0)
  | .int a, .int b => a == b
  | .str a, .str b => a == b
  | _, _ => false
def inD (neg : Bool) (x : D) (y : D) : Option D := match itemsD y with
  | some ys => if flatD x = true ∧ ys.all flatD = true then some (.bl (if neg then !(ys.any fun z => eqF z x) else ys.any fun z => eqF z x)) else none
  | none => none
theorem flat_rep {F : Hp} {d : D} {v : V} (r : Rep X.K X.mg F d v) (h : flatD d = true) : flatV v = true := by
  cases d <;> first | (cases h; done) | skip
  · rw [r.non']; rfl
  · rw [r.bl']; rfl
  · rw [r.int']; rfl
  · rw [r.str']; rfl
theorem eqF_rep {F : Hp} {d e : D} {v w : V} (r : Rep X.K X.mg F d v) (s : Rep X.K X.mg F e w) (h : flatD d = true) (k : flatD e = true) : eqV v w = eqF d e := by
  cases d <;> first | (cases h; done) | skip
  all_goals (cases e <;> first | (cases k; done) | skip)
  all_goals (first | rw [r.non'] | rw [r.bl'] | rw [r.int'] | rw [r.str'])
  all_goals (first | rw [s.non'] | rw [s.bl'] | rw [s.int'] | rw [s.str'])
  all_goals rfl
theorem all_rep {F : Hp} : ∀ {ds : List D} {vs : List V}, RepL X.K X.mg F ds vs → ds.all flatD = true → vs.all flatV = true
  | [], vs, r, _ => by rw [r.nil_inv]; rfl
  | d :: ds, vs, r, h => by
    obtain ⟨v, vr, rfl, r1, r2⟩ := r.cons_inv
    rw [List.all_cons, Bool.and_eq_true] at h ⊢
    exact ⟨flat_rep r1 h.1, all_rep r2 h.2⟩
theorem any_rep {F : Hp} {x : D} {v : V} (rx : Rep X.K X.mg F x v) (hx : flatD x = true) : ∀ {ds : List D} {vs : List V}, RepL X.K X.mg F ds vs → ds.all flatD = true → inV v vs = ds.any fun z => eqF z x
  | [], vs, r, _ => by rw [r.nil_inv]; rfl
  | d :: ds, vs, r, h => by
    obtain ⟨w, vr, rfl, r1, r2⟩ := r.cons_inv
    rw [List.all_cons, Bool.and_eq_true] at h
    have ih := any_rep rx hx r2 h.2
    unfold inV at ih ⊢
    rw [List.any_cons, List.any_cons, eqF_rep r1 rx h.1 hx, ih]
theorem in_run {neg : Bool} {F H : Hp} {d1 d2 d : D} {v1 v2 : V} (fh : Ex F H) (r1 : Rep X.K X.mg F d1 v1) (r2 : Rep X.K X.mg F d2 v2) (hd : inD neg d1 d2 = some d) (Q : VK) (q : ∀ v F' H', Grow F H F' H' → Rep X.K X.mg F' d v → Q v H') : rIn X.K neg v1 v2 H Q := by
  unfold inD at hd
  have fin : ∀ {ys : List D} {a : Addr} {ws : List V}, itemsD d2 = some ys → v2 = .ref a → (SqL X.K H a ws ∨ SqT X.K H a ws) → RepL X.K X.mg F ys ws → rIn X.K neg v1 v2 H Q := fun {ys a ws} e ev hs r => by
    rw [e] at hd
    have hd' : (if flatD d1 = true ∧ ys.all flatD = true then some (D.bl (if neg then !(ys.any fun z => eqF z d1) else ys.any fun z => eqF z d1)) else none) = some d := hd
    by_cases z : flatD d1 = true ∧ ys.all flatD = true
    · rw [if_pos z] at hd'
      cases hd'
      refine ⟨a, ws, ev, hs, flat_rep r1 z.1, all_rep r z.2, ?_⟩
      rw [any_rep r1 z.1 r z.2]
      exact q _ F H (Grow.refl fh) Rep.bl
    · rw [if_neg z] at hd'
      cases hd'
  cases d2 with
  | lst ys =>
    obtain ⟨a, ws, rfl, h1, h2⟩ := r2.lst'
    exact fin rfl rfl (.inl (Evl.sq_of (fh _ _ h1))) h2
  | tup ys =>
    obtain ⟨a, ws, rfl, h1, h2⟩ := r2.tup'
    exact fin rfl rfl (.inr (Evl.ex_t fh h1)) h2
  | _ => cases hd
theorem o_in : OpD X (compareOp .In) (rIn X.K false) (inD false) := ⟨op_in_seq, fun F H d1 d2 d v1 v2 fh r1 r2 hd Q q => in_run fh r1 r2 hd Q q⟩
theorem o_notIn : OpD X (compareOp .NotIn) (rIn X.K true) (inD true) := ⟨op_notIn_seq, fun F H d1 d2 d v1 v2 fh r1 r2 hd Q q => in_run fh r1 r2 hd Q q⟩
/-! ### items, slices -/
def ixD : D → D → Option D
  | .lst xs, .int i => atI xs i
  | .tup xs, .int i => atI xs i
  | .scr ns, .int i => (atI ns i).map .int
  | .str z, .int i => if z.length ≤ 100000 then (atI z.cps.toList i).map fun c => .str ⟨#[c]⟩ else none
  | _, _ => none
theorem IxR.or {r r' : R2} (h : IxR X r) (h' : IxR X r') : IxR X (fun x y H Q => r x y H Q ∨ r' x y H Q) := by
  intro value slice pins s σ H x y v u Q I rx ry q hs
  rcases q with q | q
  · exact h value slice pins s σ H x y v u Q I rx ry q hs
  · exact h' value slice pins s σ H x y v u Q I rx ry q hs
def rIxA (K : PySem.W.Frag) : R2 := fun x y H Q => rIxL K x y H Q ∨ (rIxT K x y H Q ∨ rIxS x y H Q)
theorem atI_map {α β : Type} {f : α → β} {xs : List α} {i : Int} {b : β} (h : (atI xs i).map f = some b) : atI (xs.map f) i = some b := by
  unfold atI at h ⊢
  rw [List.length_map]
  cases e : ixN xs.length i with
  | none => rw [e] at h; cases h
  | some j =>
    rw [e] at h
    show (xs.map f)[j]? = some b
    rw [List.getElem?_map]
    exact h
variable {a b k : Expr} {ta tb tk : TE} {ma mb mk : M D} {pos : Pos}
theorem pd_ix (ha : PEd X a ta ma) (hb : PEd X b tb mb) (hs : PlainIx b) : PEd X (.Subscript a b pos) (tOp (rIxA X.K) ta tb) (op2 ixD ma mb) := by
  refine ⟨pe_ix (IxR.or ix_list (IxR.or ix_tup ix_str)) ha.1 hb.1 hs, ev_op2 (fun F H d1 d2 d v1 v2 fh r1 r2 hd Q q => ?_) ha.2 hb.2⟩
  cases d2 with
  | int i =>
    obtain rfl := r2.int'
    cases d1 with
    | lst xs =>
      obtain ⟨p, ws, rfl, h1, h2⟩ := r1.lst'
      obtain ⟨v, h3, h4⟩ := atI_rep h2 (show atI xs i = some d from hd)
      exact .inl ⟨p, ws, i, v, rfl, rfl, Evl.sq_of (fh _ _ h1), h3, q _ F H (Grow.refl fh) h4⟩
    | tup xs =>
      obtain ⟨p, ws, rfl, h1, h2⟩ := r1.tup'
      obtain ⟨v, h3, h4⟩ := atI_rep h2 (show atI xs i = some d from hd)
      exact .inr (.inl ⟨p, ws, i, v, rfl, rfl, Evl.ex_t fh h1, h3, q _ F H (Grow.refl fh) h4⟩)
    | scr ns =>
      unfold Rep at r1
      obtain ⟨p, rfl, h1⟩ := r1
      have hd' : (atI ns i).map D.int = some d := hd
      cases e : atI ns i with
      | none => rw [e] at hd'; cases hd'
      | some z =>
        rw [e] at hd'
        cases hd'
        exact .inl ⟨p, _, i, .int z, rfl, rfl, Evl.ex_l fh h1, atI_map (by rw [e]; rfl), q _ F H (Grow.refl fh) Rep.int⟩
    | str z =>
      have hd' : (if z.length ≤ 100000 then (atI z.cps.toList i).map fun c => D.str ⟨#[c]⟩ else none) = some d := hd
      by_cases hz : z.length ≤ 100000
      · rw [if_pos hz] at hd'
        cases e : atI z.cps.toList i with
        | none => rw [e] at hd'; cases hd'
        | some c =>
          rw [e] at hd'
          cases hd'
          exact .inr (.inr ⟨z, i, c, r1.str', rfl, Evl.sz_of hz, e, q _ F H (Grow.refl fh) Rep.str⟩)
      · rw [if_neg hz] at hd'
        cases hd'
    | _ => cases hd
  | _ => cases d1 <;> cases hd
/-- a part of a slice -/
def PPd (X : Cx) (e : Option Expr) (t : TO) (m : M (Option Int)) : Prop := PO X e t ∧ ∀ (B : Bs) (F H : Hp) (σ : St') (sd : SD) (o : Option Int) (sd' : SD), Sta X.K X.mg B F H σ sd → m sd = some (o, sd') →
  ∀ Q : Option Int → Hp → Prop, (∀ F' H', Sta X.K X.mg B F' H' σ sd' → Ex F F' → Q o H') → t σ H Q
theorem pp_none : PPd X none tNoPart (pur none) := ⟨po_none, fun B F H σ sd o sd' S hm Q q => by
  obtain ⟨rfl, rfl⟩ := pur_some hm
  exact q F H S (Evl.Ex.refl _)⟩
theorem pp_some (h : PEd X a ta ma) : PPd X (some a) (tPart ta) (bnd ma fun d => bnd (lft (asI d)) fun i => pur (some i)) := ⟨po_some h.1, fun B F H σ sd o sd' S hm Q q => by
  obtain ⟨d, sd1, h1, h2⟩ := bnd_some hm
  obtain ⟨i, sd2, h3, h4⟩ := bnd_some h2
  obtain ⟨h5, rfl⟩ := lft_some h3
  obtain rfl := asI_some h5
  obtain ⟨rfl, rfl⟩ := pur_some h4
  exact h.2 B F H σ sd _ _ S h1 _ fun v F1 H1 S1 e1 r1 => ⟨i, r1.int', q F1 H1 S1 e1⟩⟩
def cutD (xs : List D) (lo hi : Option Int) : List D := (xs.drop (HT.sIx xs.length 0 lo)).take (HT.sIx xs.length xs.length hi - HT.sIx xs.length 0 lo)
theorem cut_rep {F : Hp} {xs : List D} {vs : List V} {lo hi : Option Int} (r : RepL X.K X.mg F xs vs) : RepL X.K X.mg F (cutD xs lo hi) (cutV vs lo hi) := by
  unfold cutD cutV
  rw [r.len]
  exact (r.drop _).take _
def sliceD (d : D) (lo hi : Option Int) : Option D := match d with
  | .lst xs => some (.lst (cutD xs lo hi))
  | .tup xs => some (.tup (cutD xs lo hi))
  | .str z => if z.length ≤ 100000 then some (.str (cutS z lo hi)) else none
  | _ => none
def mSlice (m : M D) (ml mh : M (Option Int)) : M D := bnd m fun d => bnd ml fun lo => bnd mh fun hi => lft (sliceD d lo hi)
def rSlS' : V → Option Int → Option Int → Hp → VK → Prop := fun x lo hi H Q => ∃ z, x = .str z ∧ z.length ≤ sizeLine ∧ Q (.str (cutS z lo hi)) H
def rSlAll (K : PySem.W.Frag) : V → Option Int → Option Int → Hp → VK → Prop := fun x lo hi H Q => rSlL K x lo hi H Q ∨ (rSlA K x lo hi H Q ∨ rSlS' x lo hi H Q)
theorem SlR.or {r r' : V → Option Int → Option Int → Hp → VK → Prop} (h : SlR X r) (h' : SlR X r') : SlR X (fun x lo hi H Q => r x lo hi H Q ∨ r' x lo hi H Q) := by
  intro pins s σ H x v vl vu lo hi sl Q I rx hs pl pu q
  rcases q with q | q
  · exact h pins s σ H x v vl vu lo hi sl Q I rx hs pl pu q
  · exact h' pins s σ H x v vl vu lo hi sl Q I rx hs pl pu q
theorem cutV_all {vs : List V} {lo hi : Option Int} (h : HT.sIx vs.length 0 lo = 0 ∧ HT.sIx vs.length vs.length hi = vs.length) : cutV vs lo hi = vs := by
  unfold cutV
  rw [h.1, h.2]
  simp
end
end Mir
set_option linter.all false
set_option maxRecDepth 100000
set_option maxHeartbeats 4000000
namespace Mir
open PySem PySem.Spec L2
section
variable {X : Cx} {a b k : Expr} {ta tb tk : TE} {ma mb mk : M D} {pos p2 : Pos}
/-! ### slices -/
theorem RepL.cut {K : PySem.W.Frag} {mg : Str → Option Value} {F : Hp} {ds : List D} {vs : List V} (r : RepL K mg F ds vs) (lo hi : Option Int) : RepL K mg F (cutD ds lo hi) (cutV vs lo hi) := by
  unfold cutD cutV
  rw [r.len]
  exact (r.drop _).take _
theorem pd_slice {lo hi : Option Expr} {tl th : TO} {ml mh : M (Option Int)} (he : PEd X a ta ma) (hl : PPd X lo tl ml) (hh : PPd X hi th mh) : PEd X (.Subscript a (.Slice lo hi none p2) pos) (tSl (rSlAll X.K) ta tl th) (mSlice ma ml mh) := by
  refine ⟨pe_slice (SlR.or sl_list (SlR.or sl_tupA sl_str)) he.1 hl.1 hh.1, fun B F H σ sd d sd' S hm Q q => ?_⟩
  obtain ⟨x, sd1, h1, h2⟩ := bnd_some hm
  obtain ⟨l, sd2, h3, h4⟩ := bnd_some h2
  obtain ⟨u, sd3, h5, h6⟩ := bnd_some h4
  obtain ⟨h7, rfl⟩ := lft_some h6
  refine he.2 B F H σ sd x sd1 S h1 _ fun v F1 H1 S1 e1 r1 => ?_
  refine hl.2 B F1 H1 σ sd1 l sd2 S1 h3 _ fun F2 H2 S2 e2 => ?_
  refine hh.2 B F2 H2 σ sd2 u _ S2 h5 _ fun F3 H3 S3 e3 => ?_
  have r3 := (r1.mono e2).mono e3
  have e0 := (e1.trans e2).trans e3
  cases x with
  | lst xs =>
    cases h7
    obtain ⟨p, vs, rfl, k1, k2⟩ := r3.lst'
    refine .inl ⟨p, vs, rfl, Evl.sq_of (S3.fh _ _ k1), fun p' hp => ?_⟩
    have g := Grow.laid (o := .lst (cutV vs l u)) S3.fh hp
    exact q _ _ _ (S3.grow g) (e0.trans g.ff) (rep_lst upd_same ((k2.cut l u).mono g.ff))
  | tup xs =>
    cases h7
    obtain ⟨p, vs, rfl, k1, k2⟩ := r3.tup'
    refine .inr (.inl ⟨p, vs, rfl, Evl.ex_t S3.fh k1, fun hw => ?_, fun _ p' hp => ?_⟩)
    · have e : cutD xs l u = xs := by
        unfold cutD
        rw [k2.len, hw.1, hw.2, ← k2.len]
        simp
      rw [e] at q
      exact q _ F3 H3 S3 e0 r3
    · have g := Grow.laid (o := .tup (cutV vs l u)) S3.fh hp
      exact q _ _ _ (S3.grow g) (e0.trans g.ff) (rep_tup upd_same ((k2.cut l u).mono g.ff))
  | str z =>
    have h7' : (if z.length ≤ 100000 then some (D.str (cutS z l u)) else none) = some d := h7
    by_cases hz : z.length ≤ 100000
    · rw [if_pos hz] at h7'
      cases h7'
      exact .inr (.inr ⟨z, r3.str', Evl.sz_of hz, q _ F3 H3 S3 e0 Rep.str⟩)
    · rw [if_neg hz] at h7'
      cases h7'
  | _ => cases h7
/-! ### built-in calls -/
/-- len -/
def lenD : List D → Option D
  | [.lst xs] => some (.int xs.length)
  | [.tup xs] => some (.int xs.length)
  | [.scr xs] => some (.int xs.length)
  | [.str z] => if z.length ≤ 100000 then some (.int z.length) else none
  | _ => none
def rLenA (K : PySem.W.Frag) : List V → Hp → VK → Prop := fun xs H Q => ∃ x n, xs = [x] ∧ LenV K x H n ∧ Q (.int n) H
theorem c_len : CallD X (.builtin "len") (rLenA X.K) lenD := ⟨call_len, fun F H ds d vs fh r hd Q q => by
  match ds, hd, r with
  | [.lst xs], hd, r =>
    cases hd
    obtain ⟨v, rfl, r1⟩ := r.one
    obtain ⟨p, ws, rfl, h1, h2⟩ := r1.lst'
    exact ⟨_, xs.length, rfl, .inl ⟨ws, Evl.sq_of (fh _ _ h1), h2.len⟩, q _ F H (Grow.refl fh) Rep.int⟩
  | [.tup xs], hd, r =>
    cases hd
    obtain ⟨v, rfl, r1⟩ := r.one
    obtain ⟨p, ws, rfl, h1, h2⟩ := r1.tup'
    exact ⟨_, xs.length, rfl, .inr ⟨ws, Evl.ex_t fh h1, h2.len⟩, q _ F H (Grow.refl fh) Rep.int⟩
  | [.scr xs], hd, r =>
    cases hd
    obtain ⟨v, rfl, r1⟩ := r.one
    unfold Rep at r1
    obtain ⟨p, rfl, h1⟩ := r1
    exact ⟨_, xs.length, rfl, .inl ⟨_, Evl.ex_l fh h1, by rw [List.length_map]⟩, q _ F H (Grow.refl fh) Rep.int⟩
  | [.str z], hd, r =>
    have hd' : (if z.length ≤ 100000 then some (D.int z.length) else none) = some d := hd
    by_cases hz : z.length ≤ 100000
    · rw [if_pos hz] at hd'
      cases hd'
      obtain ⟨v, rfl, r1⟩ := r.one
      obtain rfl := r1.str'
      exact ⟨_, z.length, rfl, ⟨Evl.sz_of hz, rfl⟩, q _ F H (Grow.refl fh) Rep.int⟩
    · rw [if_neg hz] at hd'
      cases hd'⟩
/-- abs, int, min and max of two -/
def absD : List D → Option D
  | [.int i] => some (.int (if i < 0 then -i else i))
  | _ => none
def rAbsA : List V → Hp → VK → Prop := fun xs H Q => ∃ i, xs = [.int i] ∧ Q (.int (if i < 0 then -i else i)) H
theorem c_abs : CallD X (.builtin "abs") rAbsA absD := ⟨call_abs, fun F H ds d vs fh r hd Q q => by
  match ds, hd, r with
  | [.int i], hd, r =>
    cases hd
    obtain ⟨v, rfl, r1⟩ := r.one
    exact ⟨i, by rw [r1.int'], q _ F H (Grow.refl fh) Rep.int⟩⟩
def intD : List D → Option D
  | [.int i] => some (.int i)
  | [.bl k] => some (.int (if k then 1 else 0))
  | _ => none
def rIntA : List V → Hp → VK → Prop := fun xs H Q => (∃ i, xs = [.int i] ∧ Q (.int i) H) ∨ ∃ k, xs = [.bl k] ∧ Q (.int (if k then 1 else 0)) H
theorem c_int : CallD X (.type "int") rIntA intD := ⟨call_int1, fun F H ds d vs fh r hd Q q => by
  match ds, hd, r with
  | [.int i], hd, r =>
    cases hd
    obtain ⟨v, rfl, r1⟩ := r.one
    exact .inl ⟨i, by rw [r1.int'], q _ F H (Grow.refl fh) Rep.int⟩
  | [.bl i], hd, r =>
    cases hd
    obtain ⟨v, rfl, r1⟩ := r.one
    exact .inr ⟨i, by rw [r1.bl'], q _ F H (Grow.refl fh) Rep.int⟩⟩
/-- the numbers of a list of numbers -/
def intsD : List D → Option (List Int)
  | [] => some []
  | .int i :: r => (intsD r).map (i :: ·)
  | _ => none
theorem ints_rep {K : PySem.W.Frag} {mg : Str → Option Value} {F : Hp} : ∀ {ds : List D} {ns : List Int} {vs : List V}, intsD ds = some ns → RepL K mg F ds vs → vs = ns.map V.int
  | [], ns, vs, h, r => by
    cases h
    rw [r.nil_inv]
    rfl
  | .int i :: ds, ns, vs, h, r => by
    have h' : (intsD ds).map (i :: ·) = some ns := h
    cases e : intsD ds with
    | none => rw [e] at h'; cases h'
    | some ms =>
      rw [e] at h'
      cases h'
      obtain ⟨v, vr, rfl, r1, r2⟩ := r.cons_inv
      rw [r1.int', ints_rep e r2]
      rfl
  | .non :: _, _, _, h, _ => by cases h
  | .bl _ :: _, _, _, h, _ => by cases h
  | .str _ :: _, _, _, h, _ => by cases h
  | .lst _ :: _, _, _, h, _ => by cases h
  | .tup _ :: _, _, _, h, _ => by cases h
  | .ins _ _ _ :: _, _, _, h, _ => by cases h
  | .dct _ _ :: _, _, _, h, _ => by cases h
  | .scr _ :: _, _, _, h, _ => by cases h
  | .ty _ :: _, _, _, h, _ => by cases h
  | .cls _ :: _, _, _, h, _ => by cases h
  | .exn _ _ _ :: _, _, _, h, _ => by cases h
  | .hot _ _ _ _ _ _ :: _, _, _, h, _ => by cases h
theorem repL_ints {K : PySem.W.Frag} {mg : Str → Option Value} {F : Hp} : ∀ ns : List Int, RepL K mg F (ns.map D.int) (ns.map V.int)
  | [] => RepL.nil
  | n :: ns => RepL.cons Rep.int (repL_ints ns)
def maxL : List Int → Option Int
  | [] => none
  | n :: ns => some (ns.foldl (fun a b => if b > a then b else a) n)
def minL : List Int → Option Int
  | [] => none
  | n :: ns => some (ns.foldl (fun a b => if b < a then b else a) n)
theorem foldmax : ∀ (ns : List Int) (n : Int), (ns.foldl (fun a b => if b > a then b else a) n = n ∨ ns.foldl (fun a b => if b > a then b else a) n ∈ ns) ∧ n ≤ ns.foldl (fun a b => if b > a then b else a) n ∧ ∀ y ∈ ns, y ≤ ns.foldl (fun a b => if b > a then b else a) n
  | [], n => by simp
  | m :: ns, n => by
    obtain ⟨h1, h2, h3⟩ := foldmax ns (if m > n then m else n)
    rw [List.foldl_cons]
    refine ⟨?_, ?_, fun y hy => ?_⟩
    · rcases h1 with h1 | h1
      · rw [h1]
        by_cases z : m > n
        · rw [if_pos z]; exact .inr List.mem_cons_self
        · rw [if_neg z]; exact .inl rfl
      · exact .inr (List.mem_cons_of_mem _ h1)
    · refine Int.le_trans ?_ h2
      by_cases z : m > n
      · rw [if_pos z]; omega
      · rw [if_neg z]; omega
    · rcases List.mem_cons.mp hy with rfl | hy
      · refine Int.le_trans ?_ h2
        by_cases z : y > n
        · rw [if_pos z]; omega
        · rw [if_neg z]; omega
      · exact h3 y hy
theorem foldmin : ∀ (ns : List Int) (n : Int), (ns.foldl (fun a b => if b < a then b else a) n = n ∨ ns.foldl (fun a b => if b < a then b else a) n ∈ ns) ∧ ns.foldl (fun a b => if b < a then b else a) n ≤ n ∧ ∀ y ∈ ns, ns.foldl (fun a b => if b < a then b else a) n ≤ y
  | [], n => by simp
  | m :: ns, n => by
    obtain ⟨h1, h2, h3⟩ := foldmin ns (if m < n then m else n)
    rw [List.foldl_cons]
    refine ⟨?_, ?_, fun y hy => ?_⟩
    · rcases h1 with h1 | h1
      · rw [h1]
        by_cases z : m < n
        · rw [if_pos z]; exact .inr List.mem_cons_self
        · rw [if_neg z]; exact .inl rfl
      · exact .inr (List.mem_cons_of_mem _ h1)
    · refine Int.le_trans h2 ?_
      by_cases z : m < n
      · rw [if_pos z]; omega
      · rw [if_neg z]; omega
    · rcases List.mem_cons.mp hy with rfl | hy
      · refine Int.le_trans h2 ?_
        by_cases z : y < n
        · rw [if_pos z]; omega
        · rw [if_neg z]; omega
      · exact h3 y hy
theorem maxL_is {ns : List Int} {m k : Int} (h : maxL ns = some k) (h1 : m ∈ ns) (h2 : ∀ y, y ∈ ns → y ≤ m) : m = k := by
  cases ns with
  | nil => cases h
  | cons n ns =>
    cases h
    obtain ⟨a, b, c⟩ := foldmax ns n
    refine Int.le_antisymm ?_ ?_
    · rcases List.mem_cons.mp h1 with rfl | h1
      · exact b
      · exact c m h1
    · rcases a with a | a
      · rw [a]; exact h2 n List.mem_cons_self
      · exact h2 _ (List.mem_cons_of_mem _ a)
theorem minL_is {ns : List Int} {m k : Int} (h : minL ns = some k) (h1 : m ∈ ns) (h2 : ∀ y, y ∈ ns → m ≤ y) : m = k := by
  cases ns with
  | nil => cases h
  | cons n ns =>
    cases h
    obtain ⟨a, b, c⟩ := foldmin ns n
    refine Int.le_antisymm ?_ ?_
    · rcases a with a | a
      · rw [a]; exact h2 n List.mem_cons_self
      · exact h2 _ (List.mem_cons_of_mem _ a)
    · rcases List.mem_cons.mp h1 with rfl | h1
      · exact b
      · exact c m h1
def maxD : List D → Option D
  | [.int i, .int j] => some (.int (if j > i then j else i))
  | [.lst xs] => match intsD xs with
    | some ns => (maxL ns).map .int
    | none => none
  | _ => none
def minD : List D → Option D
  | [.int i, .int j] => some (.int (if j < i then j else i))
  | [.lst xs] => match intsD xs with
    | some ns => (minL ns).map .int
    | none => none
  | _ => none
def rMaxA (K : PySem.W.Frag) : List V → Hp → VK → Prop := fun xs H Q => (∃ i j, xs = [.int i, .int j] ∧ Q (.int (if j > i then j else i)) H) ∨ rMax K xs H Q
def rMinA (K : PySem.W.Frag) : List V → Hp → VK → Prop := fun xs H Q => (∃ i j, xs = [.int i, .int j] ∧ Q (.int (if j < i then j else i)) H) ∨ rMin K xs H Q
theorem c_max (hc : X.calm = true) : CallD X (.builtin "max") (rMaxA X.K) maxD := ⟨CallR.or (call_max2 hc) (cr_max hc), fun F H ds d vs fh r hd Q q => by
  match ds, hd, r with
  | [.int i, .int j], hd, r =>
    cases hd
    obtain ⟨v, w, rfl, r1, r2⟩ := r.two
    exact .inl ⟨i, j, by rw [r1.int', r2.int'], q _ F H (Grow.refl fh) Rep.int⟩
  | [.lst xs], hd, r =>
    have hd' : (match intsD xs with
      | some ns => (maxL ns).map D.int
      | none => none) = some d := hd
    cases e : intsD xs with
    | none => rw [e] at hd'; cases hd'
    | some ns =>
      rw [e] at hd'
      have hd2 : (maxL ns).map D.int = some d := hd'
      cases e2 : maxL ns with
      | none => rw [e2] at hd2; cases hd2
      | some k =>
        rw [e2] at hd2
        cases hd2
        obtain ⟨v, rfl, r1⟩ := r.one
        obtain ⟨p, ws, rfl, h1, h2⟩ := r1.lst'
        obtain rfl := ints_rep e h2
        refine .inr ⟨p, ns, rfl, Evl.sq_of (fh _ _ h1), ?_, fun m h3 h4 => ?_⟩
        · cases ns with
          | nil => cases e2
          | cons => simp
        · rw [maxL_is e2 h3 h4]
          exact q _ F H (Grow.refl fh) Rep.int⟩
theorem c_min (hc : X.calm = true) : CallD X (.builtin "min") (rMinA X.K) minD := ⟨CallR.or (call_min2 hc) (cr_min hc), fun F H ds d vs fh r hd Q q => by
  match ds, hd, r with
  | [.int i, .int j], hd, r =>
    cases hd
    obtain ⟨v, w, rfl, r1, r2⟩ := r.two
    exact .inl ⟨i, j, by rw [r1.int', r2.int'], q _ F H (Grow.refl fh) Rep.int⟩
  | [.lst xs], hd, r =>
    have hd' : (match intsD xs with
      | some ns => (minL ns).map D.int
      | none => none) = some d := hd
    cases e : intsD xs with
    | none => rw [e] at hd'; cases hd'
    | some ns =>
      rw [e] at hd'
      have hd2 : (minL ns).map D.int = some d := hd'
      cases e2 : minL ns with
      | none => rw [e2] at hd2; cases hd2
      | some k =>
        rw [e2] at hd2
        cases hd2
        obtain ⟨v, rfl, r1⟩ := r.one
        obtain ⟨p, ws, rfl, h1, h2⟩ := r1.lst'
        obtain rfl := ints_rep e h2
        refine .inr ⟨p, ns, rfl, Evl.sq_of (fh _ _ h1), ?_, fun m h3 h4 => ?_⟩
        · cases ns with
          | nil => cases e2
          | cons => simp
        · rw [minL_is e2 h3 h4]
          exact q _ F H (Grow.refl fh) Rep.int⟩
def sumD : List D → Option D
  | [.lst xs] => (intsD xs).map fun ns => .int ns.sum
  | _ => none
theorem c_sum (hc : X.calm = true) : CallD X (.builtin "sum") (rSum X.K) sumD := ⟨cr_sum hc, fun F H ds d vs fh r hd Q q => by
  match ds, hd, r with
  | [.lst xs], hd, r =>
    have hd' : (intsD xs).map (fun ns => D.int ns.sum) = some d := hd
    cases e : intsD xs with
    | none => rw [e] at hd'; cases hd'
    | some ns =>
      rw [e] at hd'
      cases hd'
      obtain ⟨v, rfl, r1⟩ := r.one
      obtain ⟨p, ws, rfl, h1, h2⟩ := r1.lst'
      obtain rfl := ints_rep e h2
      exact ⟨p, ns, rfl, Evl.sq_of (fh _ _ h1), q _ F H (Grow.refl fh) Rep.int⟩⟩
/-- list(..), tuple(..) -/
def listD : List D → Option D
  | [.lst xs] => some (.lst xs)
  | [.tup xs] => some (.lst xs)
  | [.scr ns] => some (.lst (ns.map .int))
  | _ => none
def tupleD : List D → Option D
  | [.lst xs] => some (.tup xs)
  | [.tup xs] => some (.tup xs)
  | [.scr ns] => some (.tup (ns.map .int))
  | _ => none
def rListA (K : PySem.W.Frag) : List V → Hp → VK → Prop := fun xs H Q => ∃ p ys, xs = [.ref p] ∧ (SqL K H p ys ∨ SqT K H p ys) ∧ ∀ l, H l = none → Q (.ref l) (upd H l (.lst ys))
def rTupleA (K : PySem.W.Frag) : List V → Hp → VK → Prop := fun xs H Q => ∃ p ys, xs = [.ref p] ∧ ((SqL K H p ys ∧ ∀ l, H l = none → Q (.ref l) (upd H l (.tup ys))) ∨ (SqT K H p ys ∧ Q (.ref p) H))
theorem c_list : CallD X (.type "list") (rListA X.K) listD := ⟨call_list_of, fun F H ds d vs fh r hd Q q => by
  match ds, hd, r with
  | [.lst xs], hd, r =>
    cases hd
    obtain ⟨v, rfl, r1⟩ := r.one
    obtain ⟨p, ws, rfl, h1, h2⟩ := r1.lst'
    refine ⟨p, ws, rfl, .inl (Evl.sq_of (fh _ _ h1)), fun l hl => ?_⟩
    have g := Grow.laid (o := .lst ws) fh hl
    exact q _ _ _ g (rep_lst upd_same (h2.mono g.ff))
  | [.tup xs], hd, r =>
    cases hd
    obtain ⟨v, rfl, r1⟩ := r.one
    obtain ⟨p, ws, rfl, h1, h2⟩ := r1.tup'
    refine ⟨p, ws, rfl, .inr (Evl.ex_t fh h1), fun l hl => ?_⟩
    have g := Grow.laid (o := .lst ws) fh hl
    exact q _ _ _ g (rep_lst upd_same (h2.mono g.ff))
  | [.scr ns], hd, r =>
    cases hd
    obtain ⟨v, rfl, r1⟩ := r.one
    unfold Rep at r1
    obtain ⟨p, rfl, h1⟩ := r1
    refine ⟨p, _, rfl, .inl (Evl.ex_l fh h1), fun l hl => ?_⟩
    have g := Grow.laid (o := .lst (ns.map V.int)) fh hl
    exact q _ _ _ g (rep_lst upd_same (repL_ints ns))⟩
theorem c_tuple : CallD X (.type "tuple") (rTupleA X.K) tupleD := ⟨call_tuple_of, fun F H ds d vs fh r hd Q q => by
  match ds, hd, r with
  | [.lst xs], hd, r =>
    cases hd
    obtain ⟨v, rfl, r1⟩ := r.one
    obtain ⟨p, ws, rfl, h1, h2⟩ := r1.lst'
    refine ⟨p, ws, rfl, .inl ⟨Evl.sq_of (fh _ _ h1), fun l hl => ?_⟩⟩
    have g := Grow.laid (o := .tup ws) fh hl
    exact q _ _ _ g (rep_tup upd_same (h2.mono g.ff))
  | [.tup xs], hd, r =>
    cases hd
    obtain ⟨v, rfl, r1⟩ := r.one
    have r1' := r1
    obtain ⟨p, ws, rfl, h1, h2⟩ := r1.tup'
    exact ⟨p, ws, rfl, .inr ⟨Evl.ex_t fh h1, q _ F H (Grow.refl fh) r1'⟩⟩
  | [.scr ns], hd, r =>
    cases hd
    obtain ⟨v, rfl, r1⟩ := r.one
    unfold Rep at r1
    obtain ⟨p, rfl, h1⟩ := r1
    refine ⟨p, _, rfl, .inl ⟨Evl.ex_l fh h1, fun l hl => ?_⟩⟩
    have g := Grow.laid (o := .tup (ns.map V.int)) fh hl
    exact q _ _ _ g (rep_tup upd_same (repL_ints ns))⟩
/-- any, all of a list of bools -/
def blsD : List D → Option (List Bool)
  | [] => some []
  | .bl i :: r => (blsD r).map (i :: ·)
  | _ => none
theorem bls_rep {K : PySem.W.Frag} {mg : Str → Option Value} {F : Hp} : ∀ {ds : List D} {ns : List Bool} {vs : List V}, blsD ds = some ns → RepL K mg F ds vs → vs = ns.map V.bl
  | [], ns, vs, h, r => by
    cases h
    rw [r.nil_inv]
    rfl
  | .bl i :: ds, ns, vs, h, r => by
    have h' : (blsD ds).map (i :: ·) = some ns := h
    cases e : blsD ds with
    | none => rw [e] at h'; cases h'
    | some ms =>
      rw [e] at h'
      cases h'
      obtain ⟨v, vr, rfl, r1, r2⟩ := r.cons_inv
      rw [r1.bl', bls_rep e r2]
      rfl
  | .non :: _, _, _, h, _ => by cases h
  | .int _ :: _, _, _, h, _ => by cases h
  | .str _ :: _, _, _, h, _ => by cases h
  | .lst _ :: _, _, _, h, _ => by cases h
  | .tup _ :: _, _, _, h, _ => by cases h
  | .ins _ _ _ :: _, _, _, h, _ => by cases h
  | .dct _ _ :: _, _, _, h, _ => by cases h
  | .scr _ :: _, _, _, h, _ => by cases h
  | .ty _ :: _, _, _, h, _ => by cases h
  | .cls _ :: _, _, _, h, _ => by cases h
  | .exn _ _ _ :: _, _, _, h, _ => by cases h
  | .hot _ _ _ _ _ _ :: _, _, _, h, _ => by cases h
def anyD : List D → Option D
  | [.lst xs] => (blsD xs).map fun bs => .bl (bs.any id)
  | _ => none
def allD : List D → Option D
  | [.lst xs] => (blsD xs).map fun bs => .bl (bs.all id)
  | _ => none
theorem c_any (hc : X.calm = true) : CallD X (.builtin "any") (rAny X.K) anyD := ⟨cr_any hc, fun F H ds d vs fh r hd Q q => by
  match ds, hd, r with
  | [.lst xs], hd, r =>
    have hd' : (blsD xs).map (fun bs => D.bl (bs.any id)) = some d := hd
    cases e : blsD xs with
    | none => rw [e] at hd'; cases hd'
    | some ns =>
      rw [e] at hd'
      cases hd'
      obtain ⟨v, rfl, r1⟩ := r.one
      obtain ⟨p, ws, rfl, h1, h2⟩ := r1.lst'
      obtain rfl := bls_rep e h2
      exact ⟨p, ns, rfl, Evl.sq_of (fh _ _ h1), q _ F H (Grow.refl fh) Rep.bl⟩⟩
theorem c_all (hc : X.calm = true) : CallD X (.builtin "all") (rAll X.K) allD := ⟨cr_all hc, fun F H ds d vs fh r hd Q q => by
  match ds, hd, r with
  | [.lst xs], hd, r =>
    have hd' : (blsD xs).map (fun bs => D.bl (bs.all id)) = some d := hd
    cases e : blsD xs with
    | none => rw [e] at hd'; cases hd'
    | some ns =>
      rw [e] at hd'
      cases hd'
      obtain ⟨v, rfl, r1⟩ := r.one
      obtain ⟨p, ws, rfl, h1, h2⟩ := r1.lst'
      obtain rfl := bls_rep e h2
      exact ⟨p, ns, rfl, Evl.sq_of (fh _ _ h1), q _ F H (Grow.refl fh) Rep.bl⟩⟩
/-- divmod -/
def divmodD : List D → Option D
  | [.int i, .int j] => if 0 < j ∧ j < 1073741824 then some (.tup [.int (i / j), .int (i % j)]) else none
  | _ => none
def rDivmod : List V → Hp → VK → Prop := fun xs H Q => ∃ i j, xs = [.int i, .int j] ∧ CDiv i j ∧ ∀ p, H p = none → Q (.ref p) (upd H p (.tup [.int (i / j), .int (i % j)]))
theorem c_divmod : CallD X (.builtin "divmod") rDivmod divmodD := ⟨call_divmod, fun F H ds d vs fh r hd Q q => by
  match ds, hd, r with
  | [.int i, .int j], hd, r =>
    have hd' : (if 0 < j ∧ j < 1073741824 then some (D.tup [.int (i / j), .int (i % j)]) else none) = some d := hd
    by_cases z : 0 < j ∧ j < 1073741824
    · rw [if_pos z] at hd'
      cases hd'
      obtain ⟨v, w, rfl, r1, r2⟩ := r.two
      refine ⟨i, j, by rw [r1.int', r2.int'], z, fun p hp => ?_⟩
      have g := Grow.laid (o := .tup [.int (i / j), .int (i % j)]) fh hp
      exact q _ _ _ g (rep_tup upd_same (RepL.cons Rep.int (RepL.cons Rep.int RepL.nil)))
    · rw [if_neg z] at hd'
      cases hd'⟩
/-- repr of data -/
def rReprD (K : PySem.W.Frag) : List V → Hp → VK → Prop := fun xs H Q => ∃ x p, xs = [x] ∧ Dp K H x p ∧ p.showable = true ∧ p.hasDict = false ∧ p.depth ≤ 12 ∧ p.shown.length ≤ 100000 ∧ Q (.str p.shown) H
theorem call_reprD (hg : X.A.guards = some []) (hu : X.A.units + 64 < cLine) : CallR X (.builtin "repr") (rReprD X.K) := by
  intro pins s σ H xs us Q I r h
  obtain ⟨x, p, rfl, hd, hs, hdc, hdp, hl, q⟩ := h
  obtain ⟨u, rfl, rx⟩ := vals1 r
  have hz : p.shown.length ≤ sizeLine := Evl.sz_of hl
  obtain ⟨as, rd⟩ := Dp.reads I p x u hd rx
  have fin : ∀ {a : Addr}, u = .ref a → wpAny (model X.prog X.w) X.A (call (.builtin "repr") [u]) (EP X pins σ Q) X.xe s := fun {a} e => by
    subst e
    exact repr_of_reads' rd hs (PyData.noDict_hsm hdc) hg (by omega) (fun _ _ e => e) (fun h' u tk hk => ⟨.str p.shown, H, I.kept hk, ⟨_, rfl⟩, q⟩) hz
  cases hd with
  | non =>
    cases rx
    exact PySem.P.repr_of_none ⟨.str _, H, I.tok _, ⟨_, rfl⟩, q⟩
  | bl b =>
    cases rx
    refine PySem.P.repr_of_bool ⟨.str _, H, I.tok _, ⟨_, rfl⟩, ?_⟩
    cases b <;> exact q
  | int i =>
    obtain ⟨t, rfl⟩ := rx
    exact PySem.P.repr_of_int (by simpa [PyData.showable] using hs) ⟨.str _, H, I.tok _, ⟨_, rfl⟩, q⟩
  | str y =>
    obtain ⟨t, rfl⟩ := rx
    exact PySem.P.repr_of_str ⟨.str _, H, I.tok _, ⟨_, rfl⟩, q⟩ hz
  | lst _ _ =>
    cases rx
    exact fin rfl
  | tup _ _ =>
    cases rx
    exact fin rfl
def reprD : List D → Option D
  | [d] => match pyD 12 d with
    | some p => if p.showable = true ∧ p.shown.length ≤ 100000 then some (.str p.shown) else none
    | none => none
  | _ => none
theorem c_repr (hg : X.A.guards = some []) (hu : X.A.units + 64 < cLine) : CallD X (.builtin "repr") (rReprD X.K) reprD := ⟨call_reprD hg hu, fun F H ds d vs fh r hd Q q => by
  match ds, hd, r with
  | [x], hd, r =>
    have hd' : (match pyD 12 x with
      | some p => if p.showable = true ∧ p.shown.length ≤ 100000 then some (D.str p.shown) else none
      | none => none) = some d := hd
    cases e : pyD 12 x with
    | none => rw [e] at hd'; cases hd'
    | some p =>
      rw [e] at hd'
      have hd2 : (if p.showable = true ∧ p.shown.length ≤ 100000 then some (D.str p.shown) else none) = some d := hd'
      by_cases z : p.showable = true ∧ p.shown.length ≤ 100000
      · rw [if_pos z] at hd2
        cases hd2
        obtain ⟨v, rfl, r1⟩ := r.one
        obtain ⟨k1, k2, k3⟩ := pyD_ok e
        exact ⟨v, p, rfl, pyD_dp e (r1.mono fh), z.1, k3, k2, z.2, q _ F H (Grow.refl fh) Rep.str⟩
      · rw [if_neg z] at hd2
        cases hd2⟩
end
end Mir
set_option linter.all false
set_option maxRecDepth 100000
set_option maxHeartbeats 4000000
namespace Mir
open PySem PySem.Spec L2
/-! ### two readings of one operation -/
theorem OpD.or {X : Cx} {f : Value → Value → Sem Value} {r r' : R2} {g g' : D → D → Option D} (h : OpD X f r g) (h' : OpD X f r' g') : OpD X f (fun x y H Q => r x y H Q ∨ r' x y H Q) (fun x y => match g x y with
    | some d => some d
    | none => g' x y) := ⟨OpR.or h.1 h'.1, fun F H d1 d2 d v1 v2 fh r1 r2 hd Q q => by
  cases e : g d1 d2 with
  | some z =>
    have hd' : (match g d1 d2 with
      | some d => some d
      | none => g' d1 d2) = some d := hd
    rw [e] at hd'
    cases hd'
    exact .inl (h.2 F H d1 d2 _ v1 v2 fh r1 r2 e Q q)
  | none =>
    have hd' : (match g d1 d2 with
      | some d => some d
      | none => g' d1 d2) = some d := hd
    rw [e] at hd'
    exact .inr (h'.2 F H d1 d2 _ v1 v2 fh r1 r2 hd' Q q)⟩
/-! ### types -/
/-- a type: built in, of the text -/
inductive TyN where
  | b (n : String) | o (c : Str)
deriving DecidableEq
def tyN : D → Option TyN
  | .non => some (.b "NoneType")
  | .bl _ => some (.b "bool")
  | .int _ => some (.b "int")
  | .str _ => some (.b "str")
  | .lst _ => some (.b "list")
  | .scr _ => some (.b "list")
  | .tup _ => some (.b "tuple")
  | .dct _ _ => some (.b "dict")
  | .ins c _ _ => some (.o c)
  | .ty _ => none
  | .cls _ => none
  | .exn _ _ _ => none
  | .hot _ _ _ _ _ _ => none
/-- the type as it stands -/
def tyAt (mg : Str → Option Value) : TyN → Option Value
  | .b n => some (.type n)
  | .o c => mg c
/-- what is asked of an own class of which an instance meets isinstance -/
structure IsiC (K : PySem.W.Frag) (C : Addr) : Prop where
  cl : Cls K C
  ca : PySem.W.findIn K (.ref C) "__class__" = some (some (.builtin "object.__class__"))
  cn : PySem.W.specialIn K (.builtin "object.__class__") "__get__" = some (some (.builtin "getset_descriptor.__get__"))
  ct : PySem.W.takesIn K (.builtin "object.__class__") = some true
  cm : PySem.W.mroIn K C (.type "object") = some true
def OwnOk (K : PySem.W.Frag) (mg : Str → Option Value) : TyN → Prop
  | .b _ => True
  | .o c => ∃ C, mg c = some (.ref C) ∧ IsiC K C
theorem sqL_ty {K : PySem.W.Frag} {H : Hp} {a : Addr} {xs : List V} (h : SqL K H a xs) : TyX K H (.ref a) (.type "list") := by
  unfold SqL at h
  rcases h with (h | ⟨o, h⟩) | h
  · exact .base (.lst h)
  · exact .base (.frz h)
  · obtain ⟨o, n, its, h1, h2, h3, h4⟩ := h
    exact .kList h1 (by assumption)
theorem sqT_ty {K : PySem.W.Frag} {H : Hp} {a : Addr} {xs : List V} (h : SqT K H a xs) : TyX K H (.ref a) (.type "tuple") := by
  unfold SqT at h
  rcases h with (h | ⟨o, h⟩) | h
  · exact .base (.tup h)
  · exact .fTuple h
  · obtain ⟨o, n, its, h1, h2, h3, h4⟩ := h
    exact .kTuple h1 (by assumption)
theorem tyX_of {K : PySem.W.Frag} {mg : Str → Option Value} {F : Hp} {d : D} {v : V} {t : TyN} (r : Rep K mg F d v) (h : tyN d = some t) (ok : OwnOk K mg t) : ∃ u, tyAt mg t = some u ∧ TyX K F v u := by
  cases d with
  | non => cases h; rw [r.non']; exact ⟨_, rfl, .base .non⟩
  | bl b => cases h; rw [r.bl']; exact ⟨_, rfl, .base (.bl b)⟩
  | int b => cases h; rw [r.int']; exact ⟨_, rfl, .base (.int b)⟩
  | str b => cases h; rw [r.str']; exact ⟨_, rfl, .base (.str b)⟩
  | lst xs =>
    cases h
    obtain ⟨a, vs, rfl, h1, _⟩ := r.lst'
    exact ⟨_, rfl, .base (.lst h1)⟩
  | tup xs =>
    cases h
    obtain ⟨a, vs, rfl, h1, _⟩ := r.tup'
    exact ⟨_, rfl, sqT_ty h1⟩
  | scr ns =>
    cases h
    unfold Rep at r
    obtain ⟨a, rfl, h1⟩ := r
    exact ⟨_, rfl, sqL_ty h1⟩
  | dct ks xs =>
    cases h
    unfold Rep at r
    obtain ⟨a, vs, rfl, h1, _⟩ := r
    exact ⟨_, rfl, .base (.dK h1)⟩
  | ins c ns xs =>
    cases h
    unfold Rep at r
    obtain ⟨a, C, dx, vs, rfl, h1, h2, h3, h4⟩ := r
    obtain ⟨C', k1, k2⟩ := ok
    rw [h1] at k1
    cases k1
    exact ⟨_, h1, .base (.ins h2 k2.cl k2.ca k2.cn k2.ct k2.cm)⟩
  | ty _ => cases h
  | cls _ => cases h
  | exn _ _ _ => cases h
  | hot _ _ _ _ _ _ => cases h
/-- a table of types and answers -/
def TabOk (K : PySem.W.Frag) (mg : Str → Option Value) (u : Value) (tab : List (TyN × Bool)) : Prop := ∀ p ∈ tab, OwnOk K mg p.1 ∧ ∀ t, tyAt mg p.1 = some t → PySem.W.kitOne K t u = some p.2
def isiD (tab : List (TyN × Bool)) (d : D) : Option D := match tyN d with
  | some t => (tab.lookup t).map .bl
  | none => none
theorem mem_of_lookup {α β : Type} [DecidableEq α] {a : α} {b : β} : ∀ {l : List (α × β)}, l.lookup a = some b → (a, b) ∈ l
  | [], h => by cases h
  | (x, y) :: l, h => by
    by_cases z : a = x
    · subst z
      simp [List.lookup] at h
      subst h
      exact List.mem_cons_self
    · have z' : (a == x) = false := by simpa using z
      simp only [List.lookup, z'] at h
      exact List.mem_cons_of_mem _ (mem_of_lookup h)
theorem boot_isi : bootBuiltins "isinstance" = some (.builtin "isinstance") := by first | kernel_rfl | decide +kernel
section
variable {X : Cx} {a b : Expr} {ta tb : TE} {ma mb : M D} {pos p p1 : Pos}
def tIsi (K : PySem.W.Frag) (ta tb : TE) : TE := tCB (rIsi K) (tCons ta (tCons tb tNil))
/-- isinstance(e, C) -/
theorem pd_isi {v : V} {u : Value} {tab : List (TyN × Bool)} (hg : Gl X "isinstance") (hm : X.mg "isinstance" = none) (ha : PEd X a ta ma) (hc : PE X b (tC v)) (hv : ClsV v u) (ht : TabOk X.K X.mg u tab)
    (h1 : starEach [a, b] X.env = (false, eval a X.env) :: starEach [b] X.env := by rfl) (h2 : starEach [b] X.env = (false, eval b X.env) :: starEach [] X.env := by rfl) (hpl : (backTo pos (starEach [b] X.env)).any (·.1) = false := by rfl) :
    PEd X (.Call (.Name "isinstance" p) [a, b] [] pos) (tIsi X.K ta (tC v)) (op1 (isiD tab) ma) := by
  refine ⟨pe_callB call_isi hg hm boot_isi (pa_cons ha.1 (pa_cons hc pa_nil h2) h1) (by decide) (by decide) h1 hpl, fun B F H σ sd d sd' S hm' Q q => ?_⟩
  obtain ⟨x, sd1, k1, k2⟩ := bnd_some hm'
  obtain ⟨k3, rfl⟩ := lft_some k2
  refine ha.2 B F H σ sd x _ S k1 _ fun w F1 H1 S1 e1 r1 => ?_
  unfold isiD at k3
  cases e : tyN x with
  | none => rw [e] at k3; cases k3
  | some t =>
    rw [e] at k3
    have k4 : (tab.lookup t).map D.bl = some d := k3
    cases e2 : tab.lookup t with
    | none => rw [e2] at k4; cases k4
    | some z =>
      rw [e2] at k4
      cases k4
      obtain ⟨o1, o2⟩ := ht (t, z) (mem_of_lookup e2)
      obtain ⟨u', g1, g2⟩ := tyX_of (r1.mono S1.fh) e o1
      exact ⟨w, v, u', u, z, rfl, hv, g2, o2 u' g1, q _ F1 H1 S1 e1 Rep.bl⟩
/-- isinstance(e, (C, ..)) -/
def TabTOk (K : PySem.W.Frag) (mg : Str → Option Value) (us : List Value) (tab : List (TyN × Bool)) : Prop := ∀ p ∈ tab, OwnOk K mg p.1 ∧ ∀ t, tyAt mg p.1 = some t → PySem.W.kitAny K t us = some p.2
theorem pd_isiT {es : List Expr} {k : Nat} {tc : TA} {cs : List V} {us : List Value} {tab : List (TyN × Bool)} (hg : Gl X "isinstance") (hm : X.mg "isinstance" = none) (ha : PEd X a ta ma) (hc : PA X es tc) (hcs : ∀ σ H Q, Q cs H → tc σ H Q) (hl : cs.length ≤ 1000) (hv : Paired ClsV cs us) (ht : TabTOk X.K X.mg us tab)
    (h1 : starEach [a, .Tuple es k p1] X.env = (false, eval a X.env) :: starEach [.Tuple es k p1] X.env := by rfl) (h2 : starEach [.Tuple es k p1] X.env = (false, eval (.Tuple es k p1) X.env) :: starEach [] X.env := by rfl) (hpl : (backTo pos (starEach [.Tuple es k p1] X.env)).any (·.1) = false := by rfl) :
    PEd X (.Call (.Name "isinstance" p) [a, .Tuple es k p1] [] pos) (tCB (rIsiT X.K) (tCons ta (tCons (tTup tc) tNil))) (op1 (isiD tab) ma) := by
  refine ⟨pe_callB call_isiT hg hm boot_isi (pa_cons ha.1 (pa_cons (pe_tup hc) pa_nil h2) h1) (by decide) (by decide) h1 hpl, fun B F H σ sd d sd' S hm' Q q => ?_⟩
  obtain ⟨x, sd1, k1, k2⟩ := bnd_some hm'
  obtain ⟨k3, rfl⟩ := lft_some k2
  refine ha.2 B F H σ sd x _ S k1 _ fun w F1 H1 S1 e1 r1 => ?_
  refine hcs _ _ _ ⟨Evl.sz_of (by omega), fun tp htp => ?_⟩
  have g := Grow.heap S1.fh (Evl.Ex.new (o := .tup cs) htp)
  unfold isiD at k3
  cases e : tyN x with
  | none => rw [e] at k3; cases k3
  | some t =>
    rw [e] at k3
    have k4 : (tab.lookup t).map D.bl = some d := k3
    cases e2 : tab.lookup t with
    | none => rw [e2] at k4; cases k4
    | some z =>
      rw [e2] at k4
      cases k4
      obtain ⟨o1, o2⟩ := ht (t, z) (mem_of_lookup e2)
      obtain ⟨u', g1, g2⟩ := tyX_of (r1.mono g.fh) e o1
      exact ⟨w, tp, cs, u', us, z, rfl, upd_same, hv, g2, o2 u' g1, q _ F1 _ (S1.grow g) e1 Rep.bl⟩
/-! ### truth of a value -/
def truD : D → Option Bool
  | .non => some false
  | .bl b => some b
  | .int i => some (i != 0)
  | .str y => if y.length ≤ 100000 then some ((y.length : Int) != 0) else none
  | .lst xs => some (!xs.isEmpty)
  | .tup xs => some (!xs.isEmpty)
  | _ => none
theorem isEmpty_len {α β : Type} {xs : List α} {ys : List β} (h : xs.length = ys.length) : xs.isEmpty = ys.isEmpty := by
  cases xs <;> cases ys <;> simp_all
theorem tru_rep {K : PySem.W.Frag} {mg : Str → Option Value} {F : Hp} {d : D} {v : V} {b : Bool} (r : Rep K mg F d v) (h : truD d = some b) : TruV K v F b := by
  cases d with
  | non => cases h; rw [r.non']; rfl
  | bl b => cases h; rw [r.bl']; rfl
  | int b => cases h; rw [r.int']; rfl
  | str y =>
    have h' : (if y.length ≤ 100000 then some ((y.length : Int) != 0) else none) = some b := h
    by_cases z : y.length ≤ 100000
    · rw [if_pos z] at h'
      cases h'
      rw [r.str']
      exact ⟨Evl.sz_of z, rfl⟩
    · rw [if_neg z] at h'
      cases h'
  | lst xs =>
    cases h
    obtain ⟨a, vs, rfl, h1, h2⟩ := r.lst'
    exact .inl ⟨vs, Evl.sq_of h1, by rw [isEmpty_len h2.len]⟩
  | tup xs =>
    cases h
    obtain ⟨a, vs, rfl, h1, h2⟩ := r.tup'
    exact .inr (.inl ⟨vs, h1, by rw [isEmpty_len h2.len]⟩)
  | _ => cases h
def tTruA (K : PySem.W.Frag) (ta : TE) : TT := fun σ H Q => ta σ H fun x H' => ∃ k, TruV K x H' k ∧ Q k H'
theorem pt_tru (ha : PEd X a ta ma) (he : ∀ whole, isTrue a X.env whole = (do let v ← whole; standAt a.pos; holding [v] (truthy v)) := by intro _; rfl) : PTd X a (tTruA X.K ta) (bnd ma fun d => lft (truD d)) := by
  refine ⟨pt_truth ha.1 he, fun B F H σ sd b sd' S hm Q q => ?_⟩
  obtain ⟨x, sd1, k1, k2⟩ := bnd_some hm
  obtain ⟨k3, rfl⟩ := lft_some k2
  exact ha.2 B F H σ sd x _ S k1 _ fun w F1 H1 S1 e1 r1 => ⟨b, tru_rep (r1.mono S1.fh) k3, q F1 H1 S1 e1⟩
/-- .. of a list of one's own -/
theorem pt_truOwn {x : Str} {px : Pos} {i : Nat} (h0 : PE X (.Name x px) (tVar i)) (he : ∀ whole, isTrue (.Name x px) X.env whole = (do let v ← whole; standAt (Expr.Name x px).pos; holding [v] (truthy v)) := by intro _; rfl) :
    PTd X (.Name x px) (tTruA X.K (tVar i)) (bnd (mTakeL i) fun xs => pur (!xs.isEmpty)) := by
  refine ⟨pt_truth h0 he, fun B F H σ sd b sd' S hm Q q => ?_⟩
  obtain ⟨xs, sd1, k1, k2⟩ := bnd_some hm
  obtain ⟨k3, rfl⟩ := mTakeL_some k1
  obtain ⟨rfl, rfl⟩ := pur_some k2
  obtain ⟨p, ws, g1, g2, g3, g4⟩ := S.ownL k3
  exact ⟨.ref p, g1, _, .inl ⟨ws, SqL.of g2, by rw [isEmpty_len g3.len]⟩, q F H S (Evl.Ex.refl _)⟩
/-! ### xs[::-1] of a list -/
def revD : D → Option D
  | .lst xs => some (.lst xs.reverse)
  | _ => none
theorem pd_rev {j : Nat} {q1 q2 q3 : Pos} (ha : PEd X a ta ma) : PEd X (.Subscript a (.Slice none none (some (.UnaryOp .USub (.Constant (.int 1) j q1) q2)) q3) pos) (tRevL X.K ta) (op1 revD ma) := by
  refine ⟨pe_revL ha.1, fun B F H σ sd d sd' S hm Q q => ?_⟩
  obtain ⟨x, sd1, k1, k2⟩ := bnd_some hm
  obtain ⟨k3, rfl⟩ := lft_some k2
  refine ha.2 B F H σ sd x _ S k1 _ fun w F1 H1 S1 e1 r1 => ?_
  cases x with
  | lst xs =>
    cases k3
    obtain ⟨p, vs, rfl, h1, h2⟩ := r1.lst'
    refine ⟨p, vs, rfl, Evl.sq_of (S1.fh _ _ h1), fun p' hp => ?_⟩
    have g := Grow.laid (o := .lst vs.reverse) S1.fh hp
    exact q _ _ _ (S1.grow g) (e1.trans g.ff) (rep_lst upd_same (h2.rev.mono g.ff))
  | _ => cases k3
/-! ### a constant of a class -/
theorem pd_cconst {x f : Str} {C : Addr} {mc u : Value} {v : V} {d : D} {px : Pos} (hg : Gl X x) (hm : X.mg x = some (.ref C)) (hc : ClX.CRead X.K C mc) (hv : ClX.CVal X.K C mc f v u) (r : ∀ F, Rep X.K X.mg F d v) (hd : (x == ("__debug__" : Str)) = false := by decide)
    (hb : attributeBase (.Name x px) f X.env (eval (.Name x px) X.env) = eval (.Name x px) X.env := by rfl) : PEd X (.Attribute (.Name x px) f pos) (ClX.tCVal X.K (tC (.ref C)) f) (pur d) := by
  refine ⟨ClX.pe_cval (pe_glob hg hm rfl hd) hb, fun B F H σ sd d' sd' S hm' Q q => ?_⟩
  obtain ⟨rfl, rfl⟩ := pur_some hm'
  exact ⟨C, mc, v, u, rfl, hc, hv, q v F H S (Evl.Ex.refl _) (r F)⟩
end
end Mir
set_option linter.all false
set_option maxRecDepth 100000
set_option maxHeartbeats 4000000
namespace Mir
open PySem PySem.Spec L2
open PyProof.Rows (Fr)
/-! ### != by an own __eq__ -/
section
variable {prog : Program} {w : World} {A : Around} {E : Value → Shared → Prop} {s : Shared} {K : PySem.W.Frag} {x C f : Addr} {h₀ : Heap} {m : Str → Option Value} {ox : Obj} {od : Option Obj} {b tb : Value}
theorem entry_ne (X : K.In s.heap) (I : PySem.W.InstAt s.heap x ox C od) (hs : PySem.W.findIn K (.ref C) "__eq__" = some (some (.ref f))) (hf : PySem.W.isFn K (.ref f) = true) (hu : A.units < cLine) {Q : Fin → Shared → Prop}
    (hcall : wpAny (model prog w) A (call (.ref f) [.ref x, b]) (fun v s' => ∃ c, v = .bool c ∧ Q (.done (.ret (.bool (!c)))) s') E s) :
    wpAny (model prog w) A (Builtin.«object.__ne__» ⟨[.ref x, b], []⟩) Q E s := by
  unfold Builtin.«object.__ne__»
  repeat (first
    | with_reducible refine wpAny_cRoomFor hu ?_
    | (refine wpAny_bind (m := callSpecialIfBound? (.ref x) (Str.ofString "__eq__") [b])
        (PySem.W.ifBound_K X I hs hf (wpAny_mono hcall (fun r s' hr => by
          obtain ⟨c, rfl, hq⟩ := hr
          repeat (first | exact hq | exact wpAny_pure hq | exact wpAny_truthy_bool hq | (refine wpAny_bind (m := truthy (.bool _)) (wpAny_truthy_bool ?_)) | wp_step)) fun _ _ e => e)))
    | wp_step)
theorem ifBound_ne {M : Model} {args : List Value} {Q : Option Value → Shared → Prop} (X : K.In s.heap) (I : PySem.W.InstAt s.heap x ox C od) (hs : PySem.W.findIn K (.ref C) "__ne__" = some (some (.builtin "object.__ne__")))
    (h : wpAny M A (call (.builtin "object.__ne__") (.ref x :: args)) (fun v => Q (some v)) E s) : wpAny M A (callSpecialIfBound? (.ref x) "__ne__" args) Q E s := by
  simp only [callSpecialIfBound?, bindSpecialIfBound?]
  refine wpAny_holding (wpAny_bind (wpAny_bind (wpAny_bind (I.type.here ((PySem.W.looks_findIn X hs).here ?_)))))
  refine wpAny_bind (wpAny_askSetting (wpAny_ite ?_))
  have fin : wpAny M A (call (.builtin "object.__ne__") ([.ref x] ++ args) >>= fun v => pure (some v)) Q E s := wpAny_bind (wpAny_mono h (fun v s' h' => wpAny_pure h') fun _ _ h' => h')
  split
  · exact wpAny_bind (wpAny_of_eq (F.cmp_object.ne.bind _) (wpAny_pure (by exact fin)))
  · exact wpAny_tryCatch (wpAny_bind (wpAny_of_eq (F.cmp_object.ne.bind _) (wpAny_pure (by exact fin))))
theorem ne_own {L : Addr} {Q : Value → Shared → Prop} (hu : A.units + 1 < cLine) (hF : Fr h₀ L s.heap m) (X₀ : K.In h₀) (I : PySem.W.InstAt s.heap x ox C od) (hb : PySem.W.Looks (model prog w) s.heap (typeOf b) tb) (hn : PySem.W.notFirst K C tb = true)
    (hne : PySem.W.findIn K (.ref C) "__ne__" = some (some (.builtin "object.__ne__"))) (hm : PySem.W.mroIn K C (.type "object") = some true)
    (hs : PySem.W.findIn K (.ref C) "__eq__" = some (some (.ref f))) (hf : PySem.W.isFn K (.ref f) = true)
    (hcall : wpAny (model prog w) A.in1 (call (.ref f) [.ref x, b]) (fun v s' => ∃ c, v = .bool c ∧ Q (.bool (!c)) s') E s) : wpAny (model prog w) A (compareOp .NotEq (.ref x) b) Q E s := by
  have X := X₀.keeps hF.keep
  have one : wpAny (model prog w) A (tryCompare (.ref x) "__ne__" b) (fun r s' => ∃ v, r = some v ∧ Q v s') E s := by
    unfold tryCompare
    refine wpAny_bind (ifBound_ne X I hne (wpAny_call (codeAny_call_builtin F.cmp_object.ne.plain F.cmpEntry_ne
      (PySem.W.check_slot F.cmpKind_ne F.cmpSplit_ne (I.type.andThen (PySem.W.looks_mroIn X hm)) (F.cmpArgs_ne _ _) (entry_ne (A := A.in1) X I hs hf hu (wpAny_mono hcall (fun v s' hv => ?_) fun _ _ e => e))))))
    obtain ⟨c, rfl, hq⟩ := hv
    exact ⟨c, rfl, wpAny_pure ⟨_, rfl, hq⟩⟩
  unfold compareOp
  unfold richCompare
  simp only [oneThing_ref]
  refine wpAny_holding (wpAny_bind (wpAny_cRoomFor (by omega) ?_))
  rw [cmpInfo_NotEq]
  dsimp only
  refine wpAny_bind (I.type.here (wpAny_bind (hb.here ?_)))
  split
  · rename_i q
    have e : PySem.W.subIn K tb (.ref C) = some false := by
      rcases Bool.or_eq_true_iff.mp hn with e | e
      · rw [beq_iff_eq.mp e] at q; simp at q
      · exact beq_iff_eq.mp e
    refine wpAny_bind ((PySem.W.looks_subIn X e).here ?_)
    simp only [Bool.false_eq_true, if_false]
    refine wpAny_bind (wpAny_mono one (fun r s' z => ?_) fun _ _ e => e)
    obtain ⟨v, rfl, hq⟩ := z
    exact wpAny_pure hq
  · refine wpAny_bind (wpAny_pure ?_)
    simp only [Bool.false_eq_true, if_false]
    refine wpAny_bind (wpAny_mono one (fun r s' z => ?_) fun _ _ e => e)
    obtain ⟨v, rfl, hq⟩ := z
    exact wpAny_pure hq
end
/-! ### by values -/
section
variable {X : Cx} {k : Nat} {f C : Addr} {fd : FuncData} {ps : List Str} {sp : Sp} {E : XK}
theorem run_ga {CX : CXT} {A : Around} {pins : List (Addr × Obj)} {σ : L2.St} {H : Hp} {s : Shared} {Q : VK} {us : List Value} {vs : List V} (F : FnG X.prog X.w X.K X.mg X.base CX k f fd ps sp) (hr : Room k A) (hgd : A.guards = some [])
    (e0 : Env0 X.prog X.w X.K X.mg X.base A X.stack s H) (hb : Binds X.K fd ps []) (hx : Passes CX X E) (I : Inv X pins σ H s) (r : Vals vs us) (h : sp vs H Q E) : wpAny (model X.prog X.w) A (call (.ref f) us) (EP X pins σ Q) X.xe s := by
  have hb' := hb s us I.kIn (by rw [List.append_nil, ← r.length]; exact F.len _ _ _ _ h)
  rw [List.append_nil] at hb'
  refine wpAny_call (codeAny_mono (F.go A X.stack s H ⟨us, []⟩ us vs Q E hr hgd e0 hb' r h) ?_)
  intro r s' hq
  match r, hq with
  | .error e, hq => exact hx pins σ H s e s' I hq
  | .ok (.ret u), hq => exact I.after hq
  | .ok .next, hq => exact hq.elim
  | .ok .brk, hq => exact hq.elim
  | .ok .cont, hq => exact hq.elim
/-- x op y by the def at f of x's class C -/
def rOwnG (K : PySem.W.Frag) (C : Addr) (sp : Sp) (E : XK) : R2 := fun x y H Q => ∃ a dx fs tb, x = .ref a ∧ H a = some (.ins C dx fs) ∧ TyX K H y tb ∧ PySem.W.notFirst K C tb = true ∧ sp [x, y] H Q E
theorem op_eqOwn (hs : PySem.W.findIn X.K (.ref C) "__eq__" = some (some (.ref f))) (hf : PySem.W.isFn X.K (.ref f) = true) (F : FnG X.prog X.w X.K X.mg X.base CX0 k f fd ps sp) (hb : Binds X.K fd ps [])
    (hr : Room k X.A) (hgd : X.A.guards = some []) : OpR X (compareOp .Eq) (rOwnG X.K C sp E0) := by
  intro pins s σ H x y v u Q I rx ry h
  obtain ⟨a, dx, fs, tb, rfl, ha, hty, hn, q⟩ := h
  cases (show v = Value.ref a from rx)
  obtain ⟨mA, J, _⟩ := ins_get I.hok ha
  obtain ⟨od, J, _⟩ := J.look
  obtain ⟨m, hF⟩ := I.fr
  obtain ⟨P, Z, p, hx⟩ := kit_of I ry hty
  show wpAny _ _ (richCompare .Eq (.ref a) u) _ _ s
  refine PySem.W.cmp_K (op := .Eq) (tb := tb) hr.units0 hF I.ok.mod.kin J (Z.ty _ _ I.kIn p) hn hs hf ?_
  refine wpAny_mono (run_ga F hr hgd I.env0 hb pass0 I (us := [.ref a, u]) (vs := [.ref a, y]) (.cons rfl (.cons ry .nil)) q) (fun w s' z => ?_) fun _ _ x => x
  obtain ⟨z', H', I', rz, qz⟩ := z
  exact SlX.cmpback rz ⟨z', H', I', rz, qz⟩
def rOwnN (K : PySem.W.Frag) (C : Addr) (sp : Sp) (E : XK) : R2 := fun x y H Q => ∃ a dx fs tb, x = .ref a ∧ H a = some (.ins C dx fs) ∧ TyX K H y tb ∧ PySem.W.notFirst K C tb = true ∧ sp [x, y] H (fun z H' => ∃ c, z = .bl c ∧ Q (.bl (!c)) H') E
theorem op_neOwn (hs : PySem.W.findIn X.K (.ref C) "__eq__" = some (some (.ref f))) (hne : PySem.W.findIn X.K (.ref C) "__ne__" = some (some (.builtin "object.__ne__"))) (hm : PySem.W.mroIn X.K C (.type "object") = some true)
    (hf : PySem.W.isFn X.K (.ref f) = true) (F : FnG X.prog X.w X.K X.mg X.base CX0 k f fd ps sp) (hb : Binds X.K fd ps []) (hr : Room (k + 1) X.A) (hgd : X.A.guards = some []) : OpR X (compareOp .NotEq) (rOwnN X.K C sp E0) := by
  intro pins s σ H x y v u Q I rx ry h
  obtain ⟨a, dx, fs, tb, rfl, ha, hty, hn, q⟩ := h
  cases (show v = Value.ref a from rx)
  obtain ⟨mA, J, _⟩ := ins_get I.hok ha
  obtain ⟨od, J, _⟩ := J.look
  obtain ⟨m, hF⟩ := I.fr
  obtain ⟨P, Z, p, hx⟩ := kit_of I ry hty
  refine ne_own (tb := tb) (by have := hr.un; omega) hF I.ok.mod.kin J (Z.ty _ _ I.kIn p) hn hne hm hs hf ?_
  refine wpAny_mono (run_ga (A := X.A.in1) F hr.in1 hgd I.env0.in1 hb pass0 I (us := [.ref a, u]) (vs := [.ref a, y]) (.cons rfl (.cons ry .nil)) q) (fun w s' z => ?_) fun _ _ x => x
  obtain ⟨z', H', I', rz, c, rfl, qz⟩ := z
  cases rz
  exact ⟨c, rfl, .bl _, H', I', rfl, qz⟩
/-- y in x by the def at f of x's class -/
def rOwnIn (C : Addr) (sp : Sp) (E : XK) (neg : Bool) : R2 := fun y x H Q => ∃ a dx fs, x = .ref a ∧ H a = some (.ins C dx fs) ∧ sp [x, y] H (fun z H' => ∃ c, z = .bl c ∧ Q (.bl (if neg then !c else c)) H') E
theorem op_inOwn (hs : PySem.W.findIn X.K (.ref C) "__contains__" = some (some (.ref f))) (hf : PySem.W.isFn X.K (.ref f) = true) (F : FnG X.prog X.w X.K X.mg X.base CX0 k f fd ps sp) (hb : Binds X.K fd ps [])
    (hr : Room k X.A) (hgd : X.A.guards = some []) : OpR X (compareOp .In) (rOwnIn C sp E0 false) := by
  intro pins s σ H y x u v Q I ry rx h
  obtain ⟨a, dx, fs, rfl, ha, q⟩ := h
  cases (show v = Value.ref a from rx)
  obtain ⟨mA, J, _⟩ := ins_get I.hok ha
  obtain ⟨od, J, _⟩ := J.look
  obtain ⟨m, hF⟩ := I.fr
  refine PySem.W.in_K hF I.ok.mod.kin J hs hf ?_
  refine wpAny_mono (run_ga F hr hgd I.env0 hb pass0 I (us := [.ref a, u]) (vs := [.ref a, y]) (.cons rfl (.cons ry .nil)) q) (fun w s' z => ?_) fun _ _ x => x
  obtain ⟨z', H', I', rz, c, rfl, qz⟩ := z
  cases rz
  exact wpAny_truthy_bool ⟨.bl _, H', I', rfl, qz⟩
theorem op_notInOwn (hs : PySem.W.findIn X.K (.ref C) "__contains__" = some (some (.ref f))) (hf : PySem.W.isFn X.K (.ref f) = true) (F : FnG X.prog X.w X.K X.mg X.base CX0 k f fd ps sp) (hb : Binds X.K fd ps [])
    (hr : Room k X.A) (hgd : X.A.guards = some []) : OpR X (compareOp .NotIn) (rOwnIn C sp E0 true) := by
  intro pins s σ H y x u v Q I ry rx h
  obtain ⟨a, dx, fs, rfl, ha, q⟩ := h
  cases (show v = Value.ref a from rx)
  obtain ⟨mA, J, _⟩ := ins_get I.hok ha
  obtain ⟨od, J, _⟩ := J.look
  obtain ⟨m, hF⟩ := I.fr
  refine PySem.W.notIn_K hF I.ok.mod.kin J hs hf ?_
  refine wpAny_mono (run_ga F hr hgd I.env0 hb pass0 I (us := [.ref a, u]) (vs := [.ref a, y]) (.cons rfl (.cons ry .nil)) q) (fun w s' z => ?_) fun _ _ x => x
  obtain ⟨z', H', I', rz, c, rfl, qz⟩ := z
  cases rz
  exact wpAny_truthy_bool ⟨.bl _, H', I', rfl, qz⟩
/-! ### .. by data -/
variable {mf : List D → Option D} {cls : Str} {tab : List TyN}
/-- no class of the other side comes first -/
def FirstOk (K : PySem.W.Frag) (mg : Str → Option Value) (C : Addr) (tab : List TyN) : Prop := ∀ t ∈ tab, OwnOk K mg t ∧ ∀ u, tyAt mg t = some u → PySem.W.notFirst K C u = true
def besideD (cls : Str) (tab : List TyN) (x y : D) : Bool := isK cls x && (match tyN y with
  | some t => decide (t ∈ tab)
  | none => false)
theorem beside_of {K : PySem.W.Frag} {mg : Str → Option Value} {F : Hp} {d1 d2 : D} {v1 v2 : V} {C : Addr} (hm : mg cls = some (.ref C)) (h : besideD cls tab d1 d2 = true) (ok : FirstOk K mg C tab) (r1 : Rep K mg F d1 v1) (r2 : Rep K mg F d2 v2) :
    ∃ a dx fs tb, v1 = .ref a ∧ F a = some (.ins C dx fs) ∧ TyX K F v2 tb ∧ PySem.W.notFirst K C tb = true := by
  unfold besideD at h
  rw [Bool.and_eq_true] at h
  obtain ⟨ns, xs, rfl⟩ := isK_some h.1
  cases e : tyN d2 with
  | none => rw [e] at h; cases h.2
  | some t =>
    rw [e] at h
    have ht : t ∈ tab := by simpa using h.2
    obtain ⟨u, g1, g2⟩ := tyX_of r2 e (ok t ht).1
    unfold Rep at r1
    obtain ⟨a, C', dx, vs, rfl, k1, k2, k3, k4⟩ := r1
    rw [hm] at k1
    cases k1
    exact ⟨a, dx, _, u, rfl, k2, g2, (ok t ht).2 u g1⟩
def eqOwnD (mf : List D → Option D) (cls : Str) (tab : List TyN) (x y : D) : Option D := if besideD cls tab x y = true then mf [x, y] else none
def neOwnD (mf : List D → Option D) (cls : Str) (tab : List TyN) (x y : D) : Option D := if besideD cls tab x y = true then match mf [x, y] with
  | some (.bl c) => some (.bl (!c))
  | _ => none else none
def inOwnD (mf : List D → Option D) (cls : Str) (neg : Bool) (y x : D) : Option D := if isK cls x = true then match mf [x, y] with
  | some (.bl c) => some (.bl (if neg then !c else c))
  | _ => none else none
theorem o_eqOwn (hm : X.mg cls = some (.ref C)) (hs : PySem.W.findIn X.K (.ref C) "__eq__" = some (some (.ref f))) (hf : PySem.W.isFn X.K (.ref f) = true) (F : FnG X.prog X.w X.K X.mg X.base CX0 k f fd ps (spP X.K X.mg 2 mf)) (hb : Binds X.K fd ps [])
    (hr : Room k X.A) (hgd : X.A.guards = some []) (ok : FirstOk X.K X.mg C tab) : OpD X (compareOp .Eq) (rOwnG X.K C (spP X.K X.mg 2 mf) E0) (eqOwnD mf cls tab) := ⟨op_eqOwn hs hf F hb hr hgd, fun F0 H d1 d2 d v1 v2 fh r1 r2 hd Q q => by
  unfold eqOwnD at hd
  by_cases z : besideD cls tab d1 d2 = true
  case neg =>
    rw [if_neg z] at hd
    cases hd
  rw [if_pos z] at hd
  obtain ⟨a, dx, fs, tb, e1, e2, e3, e4⟩ := beside_of hm z ok (r1.mono fh) (r2.mono fh)
  exact ⟨a, dx, fs, tb, e1, e2, e3, e4, F0, [d1, d2], d, fh, RepL.cons r1 (RepL.cons r2 RepL.nil), rfl, hd, q⟩⟩
theorem o_neOwn (hm : X.mg cls = some (.ref C)) (hs : PySem.W.findIn X.K (.ref C) "__eq__" = some (some (.ref f))) (hne : PySem.W.findIn X.K (.ref C) "__ne__" = some (some (.builtin "object.__ne__"))) (hmo : PySem.W.mroIn X.K C (.type "object") = some true)
    (hf : PySem.W.isFn X.K (.ref f) = true) (F : FnG X.prog X.w X.K X.mg X.base CX0 k f fd ps (spP X.K X.mg 2 mf)) (hb : Binds X.K fd ps [])
    (hr : Room (k + 1) X.A) (hgd : X.A.guards = some []) (ok : FirstOk X.K X.mg C tab) : OpD X (compareOp .NotEq) (rOwnN X.K C (spP X.K X.mg 2 mf) E0) (neOwnD mf cls tab) := ⟨op_neOwn hs hne hmo hf F hb hr hgd, fun F0 H d1 d2 d v1 v2 fh r1 r2 hd Q q => by
  unfold neOwnD at hd
  by_cases z : besideD cls tab d1 d2 = true
  case neg =>
    rw [if_neg z] at hd
    cases hd
  rw [if_pos z] at hd
  obtain ⟨a, dx, fs, tb, e1, e2, e3, e4⟩ := beside_of hm z ok (r1.mono fh) (r2.mono fh)
  cases e : mf [d1, d2] with
  | none => rw [e] at hd; cases hd
  | some y =>
    rw [e] at hd
    cases y with
    | bl c =>
      cases hd
      exact ⟨a, dx, fs, tb, e1, e2, e3, e4, F0, [d1, d2], .bl c, fh, RepL.cons r1 (RepL.cons r2 RepL.nil), rfl, e, fun v F' H' g r => ⟨c, r.bl', q _ F' H' g Rep.bl⟩⟩
    | _ => cases hd⟩
theorem in_own_run {F0 H : Hp} {d1 d2 d : D} {v1 v2 : V} {neg : Bool} (hm : X.mg cls = some (.ref C)) (fh : Ex F0 H) (r1 : Rep X.K X.mg F0 d1 v1) (r2 : Rep X.K X.mg F0 d2 v2) (hd : inOwnD mf cls neg d1 d2 = some d) (Q : VK)
    (q : ∀ v F' H', Grow F0 H F' H' → Rep X.K X.mg F' d v → Q v H') : rOwnIn C (spP X.K X.mg 2 mf) E0 neg v1 v2 H Q := by
  unfold inOwnD at hd
  by_cases z : isK cls d2 = true
  case neg =>
    rw [if_neg z] at hd
    cases hd
  rw [if_pos z] at hd
  have r2' := r2.mono fh
  obtain ⟨ns, xs, e0⟩ := isK_some z
  rw [e0] at r2'
  unfold Rep at r2'
  obtain ⟨a, C', dx, vs, rfl, k1, k2, k3, k4⟩ := r2'
  rw [hm] at k1
  cases k1
  cases e : mf [d2, d1] with
  | none => rw [e] at hd; cases hd
  | some y =>
    rw [e] at hd
    cases y with
    | bl c =>
      cases hd
      exact ⟨a, dx, _, rfl, k2, F0, [d2, d1], .bl c, fh, RepL.cons r2 (RepL.cons r1 RepL.nil), rfl, e, fun v F' H' g r => ⟨c, r.bl', q _ F' H' g Rep.bl⟩⟩
    | _ => cases hd
theorem o_inOwn (hm : X.mg cls = some (.ref C)) (hs : PySem.W.findIn X.K (.ref C) "__contains__" = some (some (.ref f))) (hf : PySem.W.isFn X.K (.ref f) = true) (F : FnG X.prog X.w X.K X.mg X.base CX0 k f fd ps (spP X.K X.mg 2 mf)) (hb : Binds X.K fd ps [])
    (hr : Room k X.A) (hgd : X.A.guards = some []) : OpD X (compareOp .In) (rOwnIn C (spP X.K X.mg 2 mf) E0 false) (inOwnD mf cls false) := ⟨op_inOwn hs hf F hb hr hgd, fun F0 H d1 d2 d v1 v2 fh r1 r2 hd Q q => in_own_run hm fh r1 r2 hd Q q⟩
theorem o_notInOwn (hm : X.mg cls = some (.ref C)) (hs : PySem.W.findIn X.K (.ref C) "__contains__" = some (some (.ref f))) (hf : PySem.W.isFn X.K (.ref f) = true) (F : FnG X.prog X.w X.K X.mg X.base CX0 k f fd ps (spP X.K X.mg 2 mf)) (hb : Binds X.K fd ps [])
    (hr : Room k X.A) (hgd : X.A.guards = some []) : OpD X (compareOp .NotIn) (rOwnIn C (spP X.K X.mg 2 mf) E0 true) (inOwnD mf cls true) := ⟨op_notInOwn hs hf F hb hr hgd, fun F0 H d1 d2 d v1 v2 fh r1 r2 hd Q q => in_own_run hm fh r1 r2 hd Q q⟩
end
end Mir
set_option linter.all false
set_option maxRecDepth 100000
set_option maxHeartbeats 4000000
namespace Mir
open PySem PySem.Spec L2
open PyProof.Rows (envOfC)
section
variable {K : PySem.W.Frag} {mg : Str → Option Value} {B : Bs} {F F' H H' : Hp} {σ : St'} {sd : SD}
/-- a thing that was made and that nobody has yet is given to a name -/
theorem Sta.adopt (S : Sta K mg B F H σ sd) {i : Nat} {c : Cell} {p : Addr} {o : HO} (hp : H p = some o) (nO : ¬ Owns sd σ p) (nF : F p = none) (h0 : B.H0 p = none) (r : CellOk K mg F o c) (hf : i ≠ 0) : Sta K mg B F H (σ.set i (some (.ref p))) (sd.set i (.own c)) := by
  refine ⟨S.fh, S.f0, S.keep, S.fresh, S.io, by simpa using S.len, fun j s hs => ?_, fun j k xs ys q g1 g2 g3 g4 => ?_, fun q hq => ?_⟩
  · by_cases z : i = j
    · subst z
      by_cases hl : i < sd.length
      · rw [List.getElem?_set_self hl] at hs
        cases hs
        exact ⟨_, List.getElem?_set_self (by rw [← S.len]; exact hl), p, o, rfl, hp, r, nF, .inl h0⟩
      · rw [List.getElem?_eq_none (by simpa using hl)] at hs
        cases hs
    · rw [List.getElem?_set_ne z] at hs
      obtain ⟨o1, k1, k2⟩ := S.slot j s hs
      exact ⟨o1, by rw [List.getElem?_set_ne z]; exact k1, k2⟩
  · have key : ∀ {j : Nat} {x : Cell} {q : Addr}, (sd.set i (.own c))[j]? = some (.own x) → (σ.set i (some (V.ref p)))[j]? = some (some (V.ref q)) → (j = i ∧ q = p) ∨ (j ≠ i ∧ q ≠ p ∧ sd[j]? = some (.own x) ∧ σ[j]? = some (some (V.ref q))) := fun {j x q} hj hq => by
      by_cases z : i = j
      · subst z
        by_cases hl : i < σ.length
        · rw [List.getElem?_set_self hl] at hq
          cases hq
          exact .inl ⟨rfl, rfl⟩
        · rw [List.getElem?_eq_none (by simpa using hl)] at hq
          cases hq
      · rw [List.getElem?_set_ne z] at hj hq
        refine .inr ⟨fun e => z e.symm, fun e => ?_, hj, hq⟩
        subst e
        exact nO ⟨j, x, hj, hq⟩
    rcases key g1 g3 with ⟨e1, e2⟩ | ⟨e1, e2, e3, e4⟩
    · rcases key g2 g4 with ⟨e5, e6⟩ | ⟨e5, e6, _⟩
      · rw [e1, e5]
      · exact absurd e2 e6
    · rcases key g2 g4 with ⟨e5, e6⟩ | ⟨e5, e6, e7, e8⟩
      · exact absurd e6 e2
      · exact S.inj j k xs ys q e3 e7 e4 e8
  · obtain ⟨k1, ys, k2⟩ := S.par q hq
    exact ⟨by rw [List.getElem?_set_ne hf]; exact k1, ys, by rw [List.getElem?_set_ne hf]; exact k2⟩
end
/-! ### a, b = [..], e with a to be changed later -/
section
variable {X : Cx} {e b : Expr} {es : List Expr} {tL : TA} {tb : TE} {mL : M (List D)} {mb : M D} {pos p : Pos}
def mParO (i j : Nat) (mL : M (List D)) (mb : M D) : M Out := bnd mL fun ds => bnd (lft (lim ds.length (Cell.lst ds))) fun c => bnd mb fun d => if i ≠ 0 then bnd (mPut i c) fun _ => bnd (mSet j d) fun _ => pur .nx else fun _ => none
theorem ps_parO {i j : Nat} {x y : Str} {px py pt pl : Pos} {kt k2 pt2} (hc : X.calm = true) (hN : X.N.Nodup) (hi : X.N[i]? = some x) (hj : X.N[j]? = some y) (hij : i ≠ j)
    (hx : X.env.scope.names.lookup x = some .local) (hy : X.env.scope.names.lookup y = some .local) (ha : PAd X es tL mL) (hb : PEd X b tb mb)
    (hw : swappedStores [.Tuple [.Name x px, .Name y py] kt pt] (.Tuple [.List es pl, b] k2 pt2) X.env = pure (some [x, y]))
    (hs : swapsWithSole [.Tuple [.Name x px, .Name y py] kt pt] (.Tuple [.List es pl, b] k2 pt2) pos.line X.env = pure false := by rfl)
    (h1 : starEach [.List es pl, b] X.env = (false, eval (.List es pl) X.env) :: starEach [b] X.env := by rfl) (h2 : starEach [b] X.env = (false, eval b X.env) :: starEach [] X.env := by rfl) :
    PSd X (.Assign [.Tuple [.Name x px, .Name y py] kt pt] (.Tuple [.List es pl, b] k2 pt2) pos) (tPar i j (tCons (tLst tL) (tCons tb tNil))) (mParO i j mL mb) := by
  refine ⟨ps_par hc hN hi hj hij hx hy (pa_cons (pe_lst ha.1) (pa_cons hb.1 pa_nil h2) h1) hw hs, fun B F H σ sd o sd' S hm E w => ?_⟩
  obtain ⟨ds, sd1, k1, k2⟩ := bnd_some hm
  obtain ⟨c, sd2, k3, k4⟩ := bnd_some k2
  obtain ⟨k5, rfl⟩ := lft_some k3
  obtain ⟨rfl, hl⟩ := lim_some k5
  obtain ⟨d, sd3, k6, k7⟩ := bnd_some k4
  by_cases z : i ≠ 0
  case neg =>
    rw [if_neg z] at k7
    cases k7
  rw [if_pos z] at k7
  obtain ⟨⟨⟩, sd4, k8, k9⟩ := bnd_some k7
  cases k8
  obtain ⟨⟨⟩, sd5, k10, k11⟩ := bnd_some k9
  obtain ⟨f0, rfl⟩ := mSet_some k10
  obtain ⟨rfl, rfl⟩ := pur_some k11
  refine ha.2 B F H σ sd ds _ S k1 _ fun vs F1 H1 S1 e1 r1 => ⟨Evl.sz_of (by rw [← r1.len]; exact hl), fun q hq => ?_⟩
  obtain ⟨S2, nO, nF⟩ := S1.beside (o := .lst vs) hq
  refine hb.2.kept S2 k6 _ fun v F3 H3 S3 e3 r3 kp => ?_
  obtain ⟨g1, g2⟩ := kp.val q _ upd_same nO
  have g3 := kp.off q _ upd_same nO nF
  refine ⟨.ref q, v, rfl, ?_⟩
  have S4 := S3.adopt (i := i) (c := .lst ds) g1 g2 g3 (S1.h0 hq) ⟨vs, rfl, r1.mono e3⟩ z
  exact w _ F3 H3 (S4.set j r3 f0) (e1.trans e3)
end
/-! ### a def that returns a new thing -/
section
variable (K : PySem.W.Frag) (mg : Str → Option Value)
def spO (n : Nat) (mf : List D → Option Cell) : Sp := fun vs H Q _ => ∃ (F : Hp) (ds : List D) (c : Cell), Ex F H ∧ RepL K mg F ds vs ∧ ds.length = n ∧ mf ds = some c ∧
  ∀ p F' H' o, Grow F H F' H' → F' p = none → H p = none → H' p = some o → CellOk K mg F' o c → Q (.ref p) H'
end
/-- s; return [..] -/
def runO (N : List Str) (m : M Out) (mL : M (List D)) : List D → Option Cell := fun ds => match m (startS N ds) with
  | some (.nx, sd1) => match mL sd1 with
    | some (es, _) => lim es.length (Cell.lst es)
    | none => none
  | _ => none
section
variable {P : Program} {w : World} {K : PySem.W.Frag} {mg : Str → Option Value} {base : Heap} {k : Nat} {f : Addr} {fd : FuncData} {ps N : List Str} {x qual : Str} {scope : Scope} {st : Stmt} {es : List Expr} {pl pr : Pos} {m : M Out} {mL : M (List D)}
theorem fn_o {params : Arguments} {dvs : List V} {kws : List (Str × V)} {body : List Stmt} (F : L2.FunD K x qual params body scope dvs kws f fd) (S : FnScope N ps scope) (hbody : body = [st, .Return (some (.List es pl)) pr])
    (hb : ∀ (cdv : Value) (A : Around) (outer : List Env) (s : Shared) (H : Hp) (E : XK), Room k (A.deeper (envOfC qual scope s.heap.objs.size f cdv)) → A.guards = some [] →
      ∃ t tL, PSd (cxOf CX0 P w K mg base N qual scope f cdv A outer s H E).nox st t m ∧ PAd (cxOf CX0 P w K mg base N qual scope f cdv A outer s H E).nox es tL mL) : FnG P w K mg base CX0 (k + 1) f fd ps (spO K mg ps.length (runO N m mL)) := by
  refine FunD.mk F S _ (fun vs H Q E h => ?_) (fun cdv A outer s H vs Q E hr hgd hsp => ?_)
  · obtain ⟨F0, ds, c, _, r, hl, _⟩ := h
    rw [← r.len, hl]
  · obtain ⟨F0, ds, c, hF, r, hl, hm, q⟩ := hsp
    obtain ⟨t, tL, h1, h2⟩ := hb cdv A outer s H E hr hgd
    rw [hbody]
    refine ⟨_, PSs.nox (pss_cons h1.1 (pss_one (ps_ret (pe_lst h2.1)))), ?_⟩
    have S0 : Sta K mg ⟨F0, H, [], none⟩ F0 H (start N vs) (startS N ds) := sta_start hF r
    unfold runO at hm
    cases e : m (startS N ds) with
    | none => rw [e] at hm; cases hm
    | some pr =>
      obtain ⟨o, sd1⟩ := pr
      rw [e] at hm
      cases o with
      | nx =>
        have hm1 : (match mL sd1 with
          | some (es, _) => lim es.length (Cell.lst es)
          | none => none) = some c := hm
        cases e2 : mL sd1 with
        | none => rw [e2] at hm1; cases hm1
        | some pr2 =>
          obtain ⟨es2, sd2⟩ := pr2
          rw [e2] at hm1
          obtain ⟨rfl, hlim⟩ := lim_some (show lim es2.length (Cell.lst es2) = some c from hm1)
          refine h1.2 _ F0 H _ _ .nx sd1 S0 e _ (fun σ1 F1 H1 S1 e1 => ?_)
          refine h2.2 _ F1 H1 σ1 sd1 es2 sd2 S1 e2 _ fun us F2 H2 S2 e2' r2 => ⟨Evl.sz_of (by rw [← r2.len]; exact hlim), fun p hp => ?_⟩
          have nF := Evl.fresh_back S2.fh hp
          have hH : H p = none := S2.h0 hp
          refine q p F2 _ _ ⟨S2.f0, S2.fh.trans (Evl.Ex.new hp), fun a u h => ?_, fun a h => ?_⟩ nF hH upd_same ⟨us, rfl, r2⟩
          · have h3 := S2.keep a u h (fun z => nomatch z)
            rw [upd_ne (ne_of_none h3 hp)]
            exact h3
          · rcases S2.fresh a h with h4 | h4 | h4
            · exact .inl h4
            · exact .inr h4
            · exact nomatch h4
      | rt _ => cases hm
      | bk => cases hm
      | ct => cases hm
end
section
variable {X : Cx} {k : Nat} {f C : Addr} {fd : FuncData} {ps : List Str} {x y m cls : Str} {p pos pos' spos apos : Pos} {e o : Expr} {es : List Expr} {ta : TE} {t : TA} {n i : Nat} {mf : List D → Option Cell} {mL : M (List D)} {mo : M D}
/-- x = f(..), x to be changed later -/
def mOwnC (n : Nat) (mf : List D → Option Cell) (i : Nat) (mL : M (List D)) : M Out := bnd mL fun ds => if ds.length = n ∧ i ≠ 0 then bnd (lft (mf ds)) fun c => bnd (mPut i c) fun _ => pur .nx else fun _ => none
theorem ps_ownC (F : FnG X.prog X.w X.K X.mg X.base CX0 k f fd ps (spO X.K X.mg n mf)) (hr : Room k X.A) (hgd : X.A.guards = some []) (hg : Gl X x) (hm : X.mg x = some (.ref f)) (hk : PySem.W.keepIn X.K (.ref f) = true) (hb : Binds X.K fd ps [])
    (ha : PAd X (e :: es) t mL) (hN : X.N.Nodup) (hi : X.N[i]? = some y) (hx : Loc X.env.scope y) (hs : swapsWith (.Call (.Name x p) (e :: es) [] pos) (some (.Name y pos')) spos.line X.env = pure false := by rfl)
    (hf : X.fn y = true ∨ X.env.scope.names.lookup y = some .local := by first | exact .inl rfl | exact .inr rfl | assumption) (hdb : (x == ("__debug__" : Str)) = false := by decide)
    (he : starEach (e :: es) X.env = (false, eval e X.env) :: starEach es X.env := by rfl) (hpl : (backTo pos (starEach es X.env)).any (·.1) = false := by rfl) :
    PSd X (.Assign [.Name y pos'] (.Call (.Name x p) (e :: es) [] pos) spos) (tAsg (tCall (spO X.K X.mg n mf) [] E0 t) (gName i)) (mOwnC n mf i mL) := by
  refine ⟨ps_set hN hi hx (pg_call F hr hgd hg hm hk hb .nil pass0 ha.1 hdb he hpl) hs hf, fun B F0 H σ sd o sd' S hm' E w => ?_⟩
  obtain ⟨ds, sd1, k1, k2⟩ := bnd_some hm'
  by_cases hl : ds.length = n ∧ i ≠ 0
  case neg =>
    rw [if_neg hl] at k2
    cases k2
  rw [if_pos hl] at k2
  obtain ⟨c, sd2, k3, k4⟩ := bnd_some k2
  obtain ⟨k5, rfl⟩ := lft_some k3
  obtain ⟨⟨⟩, sd3, k6, k7⟩ := bnd_some k4
  cases k6
  obtain ⟨rfl, rfl⟩ := pur_some k7
  refine ha.2 B F0 H σ sd ds _ S k1 _ fun vs F1 H1 S1 e1 r1 => ?_
  refine ⟨F1, ds, c, S1.fh, by rw [List.append_nil]; exact r1, hl.1, k5, fun q F2 H2 o g nF hq ho rc => ?_⟩
  have S2 := S1.grow g
  have nO : ¬ Owns sd2 σ q := fun hO => by
    obtain ⟨vs', g1, _⟩ := S1.own_at hO
    rw [hq] at g1
    cases g1
  exact w _ F2 H2 (S2.adopt ho nO nF (S1.h0 hq) rc hl.2) (e1.trans g.ff)
end
/-! ### o.m(k = v, ..) -/
section
variable {X : Cx} {k : Nat} {f C : Addr} {fd : FuncData} {ps ks : List Str} {m cls : Str} {pos apos : Pos} {o e : Expr} {kws : List Keyword} {nm : Option Str} {kpos : Pos} {ta te : TE} {t tk : TA} {n : Nat} {mf : List D → Option D} {mo me : M D} {mK : M (List D)} {g : List Value → List Value → List Value} {gV : List V → List V → List V} {gD : List D → List D → List D} {sp : Sp} {E : XK}
def PKd (X : Cx) (kws : List Keyword) (t : TA) (m : M (List D)) : Prop := PK X kws t ∧ EvL X.K X.mg t m
theorem pk_nild : PKd X [] tNil mNil := ⟨pk_nil, (pa_nild (X := X)).2⟩
theorem ev_cons {K : PySem.W.Frag} {mg : Str → Option Value} {tL : TA} {mL : M (List D)} {ma : M D} {ta : TE} (ev : EvD K mg ta ma) (ev' : EvL K mg tL mL) : EvL K mg (tCons ta tL) (mCons ma mL) := fun B F H σ sd d sd' S hm Q q => by
  obtain ⟨x, sd1, h1, h2⟩ := bnd_some hm
  obtain ⟨ds, sd2, h3, h4⟩ := bnd_some h2
  obtain ⟨rfl, rfl⟩ := pur_some h4
  refine ev B F H σ sd x sd1 S h1 _ fun v F1 H1 S1 e1 r1 => ?_
  exact ev' B F1 H1 σ sd1 ds _ S1 h3 _ fun vs F2 H2 S2 e2 r2 => q (v :: vs) F2 H2 S2 (e1.trans e2) (RepL.cons (r1.mono e2) r2)
theorem pk_consd (ha : PEd X e te me) (hr : PKd X kws tk mK) : PKd X (⟨nm, e, kpos⟩ :: kws) (tCons te tk) (mCons me mK) := ⟨pk_cons ha.1 hr.1, ev_cons ha.2 hr.2⟩
def tMethK (C : Addr) (m : Str) (nk : Nat) (sp : Sp) (gV : List V → List V → List V) (E : XK) (ta : TE) (tk : TA) : TE := fun σ H Q => ta σ H fun x H1 => ∃ a dx fs, x = .ref a ∧ H1 a = some (.ins C dx fs) ∧ fs.lookup m = none ∧ tk σ H1 fun zs H2 => zs.length = nk ∧ sp (gV [.ref a] zs) H2 Q E
theorem run_gk {pins : List (Addr × Obj)} {σ : L2.St} {H : Hp} {s : Shared} {Q : VK} {us ws : List Value} {vs zs : List V} (F : FnG X.prog X.w X.K X.mg X.base CX0 k f fd ps sp) (hr : Room k X.A) (hgd : X.A.guards = some []) (hb : KBn X.K fd ps n ks g gV) (hx : Passes CX0 X E)
    (I : Inv X pins σ H s) (r : Vals vs us) (rz : Vals zs ws) (l1 : vs.length = n) (l2 : zs.length = ks.length) (h : sp (gV vs zs) H Q E) : wpAny (model X.prog X.w) X.A (call (.ref f) us (ks.zip ws)) (EP X pins σ Q) X.xe s := by
  have r2 := hb.rel r rz
  refine wpAny_call (codeAny_mono (F.go X.A X.stack s H ⟨us, ks.zip ws⟩ (g us ws) (gV vs zs) Q E hr hgd I.env0 (hb.to s us ws I.kIn (by rw [← r.length]; exact l1) (by rw [← rz.length]; exact l2)) r2 h) ?_)
  intro r s' hq
  match r, hq with
  | .error e, hq => exact hx pins σ H s e s' I hq
  | .ok (.ret u), hq => exact I.after hq
  | .ok .next, hq => exact hq.elim
  | .ok .brk, hq => exact hq.elim
  | .ok .cont, hq => exact hq.elim
theorem pg_methK {pl : Sem Bool} (he : PE X o ta) (c : Cls X.K C) (hm : Meth X.K C m f) (F : FnG X.prog X.w X.K X.mg X.base CX0 k f fd ps sp) (hr : Room k X.A) (hgd : X.A.guards = some []) (hb : KBn X.K fd ps 1 ks g gV) (hx : Passes CX0 X E) (hkw : PK X kws tk)
    (hall : (backToKw pos (keywordEach kws X.env)).all (·.1.isSome) = true := by rfl) (hks : (backToKw pos (keywordEach kws X.env)).filterMap (·.1) = ks := by rfl)
    (hpl : ((backTo pos (starEach [] X.env)).any (·.1) || (backToKw pos (keywordEach kws X.env)).any (·.1.isNone)) = false := by rfl)
    (ht : eval (.Call (.Attribute o m apos) [] kws pos) X.env = (do
      let obj ← eval o X.env
      standAt apos.atName
      let (fn, own) ← holding [obj] (getMethod obj m pl)
      callWith pos fn own (backTo pos (starEach [] X.env)) (backToKw pos (keywordEach kws X.env))) := by rfl) :
    PE X (.Call (.Attribute o m apos) [] kws pos) (tMethK C m ks.length sp gV E ta tk) := by
  constructor
  intro pins s σ H Q I h
  refine PySem.W.methodCall_KW (pl := pl) (thn (he.run pins s σ H _ I h) ?_) ht
  rintro u s1 ⟨x, H1, I1, rx, a, dx, fs, rfl, ea, l, q⟩
  obtain rfl : u = Value.ref a := rx
  refine getmeth_ok I1 ea c hm l (PySem.W.callWith_KW0 (first := [.ref a]) (h₀ := X.base) I1.ok.mod.kin hm.kp hall (thn (hkw.run pos pins s1 σ H1 _ I1 q) ?_) hpl)
  rintro ws s2 ⟨zs, H2, I2, rz, l2, q2⟩
  refine ⟨I2.kIn, ?_⟩
  rw [hks]
  exact run_gk (us := [.ref a]) (vs := [.ref a]) F hr hgd hb hx I2 (.cons rfl .nil) rz rfl l2 q2
def mMethK (n nk : Nat) (mf : List D → Option D) (cls m : Str) (gD : List D → List D → List D) (mo : M D) (mK : M (List D)) : M D := bnd mo fun o => if isC cls m o = true then bnd mK fun es => if es.length = nk ∧ (gD [o] es).length = n then lft (mf (gD [o] es)) else fun _ => none else fun _ => none
theorem pd_methK {pl : Sem Bool} (c : Cls X.K C) (hM : Meth X.K C m f) (F : FnG X.prog X.w X.K X.mg X.base CX0 k f fd ps (spP X.K X.mg n mf)) (hr : Room k X.A) (hgd : X.A.guards = some []) (hb : KBn X.K fd ps 1 ks g gV) (hmg : X.mg cls = some (.ref C))
    (hgV : ∀ F ds vs es zs, RepL X.K X.mg F ds vs → RepL X.K X.mg F es zs → RepL X.K X.mg F (gD ds es) (gV vs zs)) (ho : PEd X o ta mo) (hkw : PKd X kws tk mK)
    (hall : (backToKw pos (keywordEach kws X.env)).all (·.1.isSome) = true := by rfl) (hks : (backToKw pos (keywordEach kws X.env)).filterMap (·.1) = ks := by rfl)
    (hpl : ((backTo pos (starEach [] X.env)).any (·.1) || (backToKw pos (keywordEach kws X.env)).any (·.1.isNone)) = false := by rfl)
    (ht : eval (.Call (.Attribute o m apos) [] kws pos) X.env = (do
      let obj ← eval o X.env
      standAt apos.atName
      let (fn, own) ← holding [obj] (getMethod obj m pl)
      callWith pos fn own (backTo pos (starEach [] X.env)) (backToKw pos (keywordEach kws X.env))) := by rfl) :
    PEd X (.Call (.Attribute o m apos) [] kws pos) (tMethK C m ks.length (spP X.K X.mg n mf) gV E0 ta tk) (mMethK n ks.length mf cls m gD mo mK) := by
  refine ⟨pg_methK ho.1 c hM F hr hgd hb pass0 hkw.1 hall hks hpl ht, fun B F0 H σ sd d sd' S hm' Q q => ?_⟩
  obtain ⟨ob, sd1, h1, h2⟩ := bnd_some hm'
  refine ho.2 B F0 H σ sd ob sd1 S h1 _ fun v F1 H1 S1 e1 r1 => ?_
  by_cases z : isC cls m ob = true
  case neg =>
    rw [if_neg z] at h2
    cases h2
  rw [if_pos z] at h2
  obtain ⟨ns, xs, rfl, hno⟩ := isC_some z
  obtain ⟨es2, sd2, h3, h4⟩ := bnd_some h2
  by_cases hl : es2.length = ks.length ∧ (gD [D.ins cls ns xs] es2).length = n
  case neg =>
    rw [if_neg hl] at h4
    cases h4
  rw [if_pos hl] at h4
  obtain ⟨h5, rfl⟩ := lft_some h4
  have r1' := r1
  unfold Rep at r1'
  obtain ⟨a, C', dx, vs, rfl, k1, k2, k3, k4⟩ := r1'
  rw [hmg] at k1
  cases k1
  refine ⟨a, dx, _, rfl, S1.fh _ _ k2, lookup_zip_none hno, ?_⟩
  refine hkw.2 B F1 H1 σ sd1 es2 _ S1 h3 _ fun vs2 F2 H2 S2 e2 r2 => ?_
  refine ⟨by rw [← r2.len]; exact hl.1, F2, _, d, S2.fh, hgV F2 _ _ _ _ (RepL.cons (r1.mono e2) RepL.nil) r2, hl.2, h5, fun v F3 H3 g r3 => q v F3 H3 (S2.grow g) ((e1.trans e2).trans g.ff) r3⟩
end
end Mir
set_option linter.all false
set_option maxRecDepth 100000
set_option maxHeartbeats 4000001
namespace Mir
open PySem PySem.Spec L2
/-! ### enumerate of a tuple -/
/-- the record of a count over the iterator that is laid next -/
abbrev countOf (it : Addr) : Obj := { cls := .type "enumerate", data := .fields #[.none, .bool false, .ref it, rawInt 0, .none, .none] }
/-- enumerate(x), by how x begins -/
theorem enum_made {x : Value} {first : Obj} {stands : Heap → Prop} (begins : Begins x first stands) :
    Meets (Builtin.«enumerate.__new__» ⟨[.type "enumerate", x], []⟩) fun _ R t => stands t.heap ∧ R (.ok (.ret (.ref (t.heap.push first).objs.size))) { t with heap := (t.heap.push first).push (countOf t.heap.objs.size) } := by
  refine .of_wp fun P W Ar R t both => ?_
  obtain ⟨hp0, gs, dr, tok, os0⟩ := t
  obtain ⟨there, goal⟩ := both
  have sub_ := sub_enumerate
  have iter_ : ∀ {Ar2 : Around} {X2 : Value → Shared → Prop} {Q2 : Value → Shared → Prop}, Q2 (.ref hp0.objs.size) ⟨hp0.push first, gs, dr, tok, os0⟩ → wpAny (model P W) Ar2 (pyIter x) Q2 X2 ⟨hp0, gs, dr, tok, os0⟩ := fun z => begins.iter P W _ _ _ _ there z
  wp_walk using iter_
  refine wpAny_stack_any fun frames => ?_
  refine wpAny_pure ?_
  split
  next kind _ _ _ _ _ =>
    cases (kind == Value.type "enumerate") <;> (wp_walk using iter_; exact ⟨_, rfl, goal⟩)
  next =>
    wp_walk using iter_
    exact ⟨_, rfl, goal⟩
theorem count_at (h0 : Heap) (first : Obj) : IsEnum ((h0.push first).push (countOf h0.objs.size)) (h0.objs.size + 1) h0.objs.size 0 .none := by
  have size1 : (h0.push first).objs.size = h0.objs.size + 1 := Heap.size_push ..
  have top := Heap.get?_push_size (h0.push first) (o := countOf h0.objs.size) rfl
  rw [size1] at top
  exact top
theorem enum_call {P : Program} {W : World} {Ar : Around} {Ex : Value → Shared → Prop} {t : Shared} {x : Value} {first : Obj} {stands : Heap → Prop} {Q : Value → Shared → Prop} (begins : Begins x first stands) (there : stands t.heap)
    (goal : ∀ h2, IsEnum h2 (t.heap.objs.size + 1) t.heap.objs.size 0 .none → h2.get? t.heap.objs.size = some first → (∀ b ob, t.heap.get? b = some ob → h2.get? b = some ob) → Q (.ref (t.heap.objs.size + 1)) { t with heap := h2 }) :
    wpAny (model P W) Ar (call (.type "enumerate") [x]) Q Ex t := by
  have size1 : (t.heap.push first).objs.size = t.heap.objs.size + 1 := Heap.size_push ..
  refine callType_new F.called_enumerate (by decide) (F.typeCall_enumerate_1 _) (F.newCall_enumerate_1 _) (fun made => F.args_object_init_2 made _) F.entry_enumerate_new (enum_made begins) ⟨there, ?_⟩
  show _ ∧ _
  rw [size1]
  refine ⟨⟨_, count_at _ _, rfl⟩, goal _ (count_at _ _) (Heap.get?_push_of_some _ (Heap.get?_push_size _ begins.free)) ?_⟩
  intro b ob stood
  exact Heap.get?_push_of_some _ (Heap.get?_push_of_some _ stood)
/-- the tuple at a, each item in a new pair -/
def Iet (K : PySem.W.Frag) (a : Addr) : It where
  go i H := ∃ (vs : List V) (v : V), SqT K H a vs ∧ vs[i]? = some v
  yld i H out H2 := ∃ T v, out = .ref T ∧ H T = none ∧ H2 = upd H T (.tup [.int (i : Nat), v]) ∧ ∀ vs, SqT K H a vs → vs[i]? = some v
  stop i H := ∃ vs : List V, SqT K H a vs ∧ vs.length = i
/-- how the count and its iterator stand at the i-th turn -/
def Counts (a cnt it : Addr) (i : Nat) (h : Heap) : Prop := (∃ last, IsEnum h cnt it ((i : Nat) : Int) last) ∧ h.IsTupleIter it a i ∧ cnt ≠ it
theorem two_of {b cnt it : Addr} (m : b ∈ [cnt, it]) : b = cnt ∨ b = it := by
  rcases List.mem_cons.mp m with m | m
  · exact .inl m
  · exact .inr (by simpa using m)
theorem iter_off {h : Heap} {a it : Addr} {i : Nat} {its : Array Value} (tupled : h.IsTuple a its) (walks : h.IsTupleIter it a i) : a ≠ it := by
  intro same
  obtain ⟨o1, at1, cls1, _⟩ := tupled
  obtain ⟨o2, at2, cls2, _⟩ := walks
  rw [same, at2] at at1
  cases at1
  rw [cls1] at cls2
  exact absurd (show ("tuple" : String) = "tuple_iterator" from Value.type.inj cls2) (by decide)
theorem count_off {h : Heap} {a cnt it : Addr} {c : Int} {last : Value} {its : Array Value} (tupled : h.IsTuple a its) (counts : IsEnum h cnt it c last) : cnt ≠ a := by
  intro same
  obtain ⟨o1, at1, cls1, _⟩ := tupled
  have at2 : h.get? cnt = some _ := counts
  rw [same, at1] at at2
  cases at2
  exact absurd (show ("enumerate" : String) = "tuple" from Value.type.inj cls1) (by decide)
theorem turn_enumT {P : Program} {w : World} {K : PySem.W.Frag} {elts : List Expr} {kk : Nat} {tpos : Pos} (a cnt it : Addr) : Turn P w K (.Tuple elts kk tpos) (Iet K a) [cnt, it] cnt (Counts a cnt it) where
  mem := List.mem_cons_self
  obj := by
    rintro i h ⟨⟨last, counts⟩, ⟨o, at_, _, fields⟩, _⟩ b m
    rcases two_of m with rfl | rfl
    · exact ⟨_, counts, fun v z => nomatch z⟩
    · refine ⟨o, at_, fun v z => ?_⟩
      rw [fields] at z
      cases z
  keep := by
    rintro i h h2 ⟨⟨last, counts⟩, walks, apart⟩ same
    exact ⟨⟨last, same cnt List.mem_cons_self _ counts⟩, walks.at fun o z => same it (by simp) o z, apart⟩
  item := by
    rintro X rfl rfl rfl calm i pins t σ H Ex I fps ⟨⟨last, counts⟩, walks, apart⟩ ⟨vs, v, seq, hv⟩
    obtain ⟨its, rel, tupled, _⟩ := I.tuple seq
    obtain ⟨u, at_u, ru⟩ := rel.get hv
    have low1 : cnt < t.heap.objs.size := Heap.lt_size counts
    have low2 : it < t.heap.objs.size := by
      obtain ⟨_, z, _⟩ := walks
      exact Heap.lt_size z
    have draws := Draws.tuple (prog := X.prog) (w := X.w) (A := X.A.in1) (I.ok.hd calm) it a (iter_off tupled walks) its.toArray
    have lt : i < its.toArray.size := by simpa using (List.getElem?_eq_some_iff.mp at_u).1
    refine wpAny_pyNext_enum_itemC draws counts ⟨walks, tupled⟩ lt apart (by simp [apart, count_off tupled counts]) ?_
    intro y h1 tk drawn out next pair _ old
    obtain rfl : y = u := Option.some.inj ((show its[i]? = some y by simpa using drawn).symm.trans at_u)
    refine ⟨_, rfl, wpAny_letOwnedTupleGo_enum (s := { t with heap := h1, toks := tk + 1 }) out fun h2 back same => ?_⟩
    have pair2 := (same.2 _ (Nat.ne_of_gt low1)).trans pair
    have laid : ObjOk X.prog X.w (upd H t.heap.objs.size (.tup [.int (i : Nat), v])) h2 t.heap.objs.size (.tup [.int (i : Nat), v]) := by
      refine ⟨?_, [.int i tk, y], .cons ⟨_, rfl⟩ (.cons ru .nil), ⟨_, pair2, rfl, _, rfl⟩⟩
      show 2 ≤ sizeLine
      decide
    have I2 : Inv X pins σ (upd H t.heap.objs.size (.tup [.int (i : Nat), v])) { t with heap := h2, toks := tk + 1 } := by
      refine I.turnedNew (ch := [cnt, it]) (fun b ob off z => ?_) fps (Nat.le_refl _) laid
      have off1 : b ≠ cnt := fun e => off (by simp [e])
      have off2 : b ≠ it := fun e => off (by simp [e])
      exact (same.2 b off1).trans (old b ob off1 off2 z)
    refine ⟨.ref t.heap.objs.size, _, I2, rfl, ⟨_, v, rfl, I.hok.fresh (Nat.le_refl _), rfl, fun ys seq2 => ?_⟩, ⟨⟨y, ?_⟩, next.1.at fun o z => (same.2 it (Ne.symm apart)).trans z, apart⟩, fun b m => ?_⟩
    · rw [I.tuple_inj seq2 seq]
      exact hv
    · have step : ((i + 1 : Nat) : Int) = ((i : Nat) : Int) + 1 := by omega
      rw [step]
      exact back
    · have low : b < t.heap.objs.size := by
        rcases two_of m with rfl | rfl
        · exact low1
        · exact low2
      rw [upd_ne (Nat.ne_of_lt low)]
      exact (fps b m).1
  done := by
    rintro X rfl rfl rfl calm i pins t σ H Ex I fps ⟨⟨last, counts⟩, walks, apart⟩ ⟨vs, seq, len⟩
    obtain ⟨its, rel, tupled, _⟩ := I.tuple seq
    obtain ⟨q0, q1, q2, q3, q4, q5⟩ := fps it (by simp)
    have draws := Draws.tuple (prog := X.prog) (w := X.w) (A := X.A.in1) (I.ok.hd calm) it a (iter_off tupled walks) its.toArray
    obtain rfl : its.toArray.size = i := by
      rw [List.size_toArray, ← rel.length]
      exact len
    refine wpAny_pyNext_enum_endD draws counts ⟨walks, tupled⟩ fun h2 but => ⟨rfl, ?_⟩
    exact I.turned (t' := t.toks) (fun b ob off z => but b ob off z) q0 q1 q3 q4 q5
  self := by
    rintro Ar i t Q Ex ⟨⟨last, counts⟩, _⟩ goal
    exact wpAny_pyIter_enum counts goal
def iEnumA (K : PySem.W.Frag) (ta : TA) : TI := fun σ H R => ta σ H fun ws H1 => ∃ a vs, ws = [.ref a] ∧ ((SqL K H1 a vs ∧ R (Ite K a) H1) ∨ (SqT K H1 a vs ∧ R (Iet K a) H1))
theorem pi_enumA {X : Cx} {e : Expr} {ta : TA} {p pos tpos : Pos} {elts : List Expr} {kk : Nat} (hg : Gl X "enumerate") (hm : X.mg "enumerate" = none) (ha : PA X [e] ta) (hs : starEach [e] X.env = [(false, eval e X.env)] := by rfl) :
    PI X (.Tuple elts kk tpos) (.Call (.Name "enumerate" p) [e] [] pos) (iEnumA X.K ta) := by
  constructor
  intro pins t σ H R I goal
  refine PyProof.Rows.Call_ (ld_blt I hg hm PyProof.Rows.boot_enumerate (PyProof.Rows.callWith_type1 (thn (ha.run pos pins t σ H _ I goal) ?_) hs rfl))
  rintro us t1 ⟨ws, H1, I1, rel, a, vs, rfl, which⟩
  have news : ∀ b ∈ [t1.heap.objs.size + 1, t1.heap.objs.size], FpOk X pins H1 b := by
    intro b m
    have high : t1.heap.objs.size ≤ b := by
      rcases two_of m with rfl | rfl
      · exact Nat.le_succ _
      · exact Nat.le_refl _
    exact I1.fpOk high (I1.hok.fresh high)
  obtain ⟨u, rfl, ru⟩ := rel.one
  cases (show u = Value.ref a from ru)
  rcases which with ⟨seq, next⟩ | ⟨seq, next⟩
  · obtain ⟨its, _, listed, _⟩ := I1.list seq
    refine call_enumerate_list listed.isList ?_
    intro h2 counts walks _ old
    refine wpAny_pyIter_enum counts ?_
    exact ⟨t1.heap.objs.size + 1, [t1.heap.objs.size + 1, t1.heap.objs.size], _, _, H1, rfl, I1.kept (t' := t1.toks) old, turn_enum a (t1.heap.objs.size + 1) t1.heap.objs.size, ⟨⟨.none, counts⟩, walks, Nat.succ_ne_self _⟩, news, next⟩
  · obtain ⟨its, _, tupled, _⟩ := I1.tuple seq
    refine enum_call (begins_tuple a its.toArray) tupled ?_
    intro h2 counts first old
    refine wpAny_pyIter_enum counts ?_
    exact ⟨t1.heap.objs.size + 1, [t1.heap.objs.size + 1, t1.heap.objs.size], _, _, H1, rfl, I1.kept (t' := t1.toks) old, turn_enumT a (t1.heap.objs.size + 1) t1.heap.objs.size, ⟨⟨.none, counts⟩, ⟨_, first, rfl, rfl⟩, Nat.succ_ne_self _⟩, news, next⟩
section
variable {X : Cx} {a : Expr} {p pos tpos : Pos} {elts : List Expr} {kk : Nat} {tL : TA} {mL : M (List D)}
/-- enumerate of a list or of a tuple -/
def enumA : List D → Option (List D)
  | [.lst xs] => some (xs.mapIdx fun i d => .tup [.int (i : Int), d])
  | [.tup xs] => some (xs.mapIdx fun i d => .tup [.int (i : Int), d])
  | _ => none
theorem walk_enumT {K : PySem.W.Frag} {a : Addr} {vs : List V} : Walk (Iet K a) vs.length (fun H => SqT K H a vs) (YPair (fun i => some (.int (i : Nat))) (fun i => vs[i]?)) := by
  refine ⟨fun i _ lt seq => ⟨vs, vs[i], seq, by simp [lt]⟩, fun _ seq => ⟨vs, seq, rfl⟩, ?_⟩
  rintro i H out H2 _ seq ⟨T, v, k1, k2, k3, k4⟩
  exact ⟨T, .int (i : Nat), v, k1, k2, k3, rfl, k4 vs seq⟩
theorem yields_enum {K : PySem.W.Frag} {mg : Str → Option Value} {F : Hp} {xs : List D} {ws : List V} (k2 : RepL K mg F xs ws) (i : Nat) (F2 H2 : Hp) (x : V) (H3 : Hp) (d : D) (g1 : Ex F F2) (g2 : Ex F2 H2) (y : YPair (fun i => some (.int (i : Nat))) (fun i => ws[i]?) i H2 x H3)
    (hd : (xs.mapIdx fun i d => D.tup [.int (i : Int), d])[i]? = some d) : ∃ F3, Grow F2 H2 F3 H3 ∧ Rep K mg F3 d x := by
  obtain ⟨T, u1, u2, rfl, n1, rfl, y1, y2⟩ := y
  cases y1
  rw [List.getElem?_mapIdx] at hd
  cases e0 : xs[i]? with
  | none => rw [e0] at hd; cases hd
  | some d0 =>
    rw [e0] at hd
    cases hd
    obtain ⟨v, k3, k4⟩ := k2.get e0
    have y2' : ws[i]? = some u2 := y2
    rw [k3] at y2'
    have y3 := Option.some.inj y2'
    subst y3
    have g := Grow.laid (o := .tup [.int (i : Int), v]) g2 n1
    exact ⟨_, g, rep_tup upd_same (RepL.cons (by unfold Rep; rfl) (RepL.cons (k4.mono (g1.trans g.ff)) RepL.nil))⟩
theorem it_enumA (hg : Gl X "enumerate") (hm : X.mg "enumerate" = none) (ha : PAd X [a] tL mL) (hs : starEach [a] X.env = [(false, eval a X.env)] := by rfl) : PId X (.Tuple elts kk tpos) (.Call (.Name "enumerate" p) [a] [] pos) (iEnumA X.K tL) (bnd mL fun ds => lft (enumA ds)) := by
  refine ⟨pi_enumA hg hm ha.1 hs, fun B F H σ sd ds sd' S hm' R q => ?_⟩
  obtain ⟨as, sd1, h1, h2⟩ := bnd_some hm'
  obtain ⟨h3, rfl⟩ := lft_some h2
  refine ha.2 B F H σ sd as _ S h1 _ fun vs F1 H1 S1 e1 r => ?_
  match as, h3, r with
  | [.lst xs], h3, r =>
    cases h3
    obtain ⟨v, rfl, r1⟩ := r.one
    obtain ⟨al, ws, rfl, k1, k2⟩ := r1.lst'
    refine ⟨al, ws, rfl, .inl ⟨Evl.sq_of (S1.fh _ _ k1), q _ F1 H1 S1 e1 ⟨fun H => SqL X.K H al ws, YPair (fun i => some (.int (i : Nat))) (fun i => ws[i]?), ?_, fun H e => Evl.ex_l e (Evl.sq_of k1), fun i F2 H2 x H3 d g1 g2 y hd => yields_enum k2 i F2 H2 x H3 d g1 g2 y hd⟩⟩⟩
    rw [List.length_mapIdx, k2.len]
    exact walk_enum (xs := ws)
  | [.tup xs], h3, r =>
    cases h3
    obtain ⟨v, rfl, r1⟩ := r.one
    obtain ⟨al, ws, rfl, k1, k2⟩ := r1.tup'
    refine ⟨al, ws, rfl, .inr ⟨Evl.ex_t S1.fh k1, q _ F1 H1 S1 e1 ⟨fun H => SqT X.K H al ws, YPair (fun i => some (.int (i : Nat))) (fun i => ws[i]?), ?_, fun H e => Evl.ex_t e k1, fun i F2 H2 x H3 d g1 g2 y hd => yields_enum k2 i F2 H2 x H3 d g1 g2 y hd⟩⟩⟩
    rw [List.length_mapIdx, k2.len]
    exact walk_enumT (vs := ws)
end
end Mir
set_option linter.all false
set_option maxRecDepth 100000
set_option maxHeartbeats 4000000
namespace Mir
open PySem PySem.Spec L2
open PyProof.Rows (AllBare)
open PyProof.Rows (IntsAre)
/-! ### the law's call, where nothing is being shown -/
section
variable {P : Program} {w : World} {K : PySem.W.Frag} {mg mb : Str → Option Value} {k : Nat} {fa a : Addr} {fd : FuncData} {x : Str} {sp : Sp} {t0 : Shared} {us : List Value} {ns : List Int}
/-- what the end of the law asks -/
def EndsTrue (t0 : Shared) (r : Result) (t : Shared) : Prop := r = .ok (.ret (.bool true)) ∧ OldK t0.heap t.heap ∧ t.os = t0.os ∧ AllBare t.gens
theorem ends_of {H : Hp} {u : Value} {t : Shared} (only : Only H) (good : HOk P w H t0.heap) (h : CE [] P w H t0 (fun v _ => v = .bl true) u t) : EndsTrue t0 (.ok (.ret u)) t := by
  obtain ⟨v, H2, h1, h2, h3, h4, h5, h6⟩ := h
  have h7 : v = .bl true := h6
  subst h7
  have h8 : u = Value.bool true := h5
  subst h8
  refine ⟨rfl, OldK.of_keep ?_, h1, h2⟩
  intro b o hb
  rcases only b with z | ⟨ob, xs, z⟩
  · exact h3.keep b o hb z (fun y => absurd (show b ∈ ([] : List Addr) from y) (by simp)) (by simp)
  · have q1 := (good b _ z).1
    have q2 := (h4 b _ (h3.frzs b ob _ z)).1
    rw [hb] at q1
    cases q1
    exact q2
theorem env_law {H : Hp} (KX : K.In t0.heap) (hns : t0.heap.Ns mainGlobals mg) (hb : t0.heap.Ns builtinsNs mb) (hbb : ∀ x : Str, x ≠ "__name__" → mb x = bootBuiltins x) (hlim : t0.heap.NoLimit) (hg : t0.gens = #[])
    (ha : t0.heap.get? a = some { cls := .type "list", data := .seq us.toArray }) (good : HOk P w H t0.heap) (hA : ∀ b, H b ≠ none → b = a) (hK : H a ≠ none → K.lookup a = none) :
    K.In (hidT t0.heap H) ∧ (hidT t0.heap H).Ns mainGlobals mg ∧ Env0 P w K mg (hidT t0.heap H) callerA [] t0 H := by
  have dicts : ∀ {b : Addr} {m : Str → Option Value}, t0.heap.Ns b m → (hidT t0.heap H).Ns b m := by
    rintro b m ⟨o, es, ep, e, d, r⟩
    refine ⟨o, es, ep, hidT_get e ?_, d, r⟩
    cases q : H b with
    | none => rfl
    | some v =>
      obtain rfl := hA b (fun y => by rw [q] at y; cases y)
      rw [ha] at e
      cases e
      exact absurd (show Data.seq us.toArray _ = Data.dict es ep from d) (fun y => nomatch y)
  have parts : K.In (hidT t0.heap H) := by
    intro b o e
    refine hidT_get (KX b o e) ?_
    cases q : H b with
    | none => rfl
    | some v =>
      have ne : H b ≠ none := fun y => by rw [q] at y; cases y
      obtain rfl := hA b ne
      rw [hK ne] at e
      cases e
  obtain ⟨mc, l1, l2⟩ := hlim
  refine ⟨parts, dicts hns, ⟨rfl, ⟨parts, dicts hns, ⟨mb, dicts hb, hbb⟩, ⟨mc, dicts l1, l2⟩⟩, ?_, Nat.le_of_eq (hidT_size _ _), True.intro, ?_, good, AllBare.of_eq hg⟩⟩
  · exact fun b o e => of_hidT e
  · intro b y
    exact absurd (show b ∈ ([] : List Addr) from y) (by simp)
theorem law_g (KX : K.In t0.heap) (hns : t0.heap.Ns mainGlobals mg) (hb : t0.heap.Ns builtinsNs mb) (hbb : ∀ x : Str, x ≠ "__name__" → mb x = bootBuiltins x) (hlim : t0.heap.NoLimit) (hg : t0.gens = #[])
    (ha : t0.heap.get? a = some { cls := .type "list", data := .seq us.toArray }) (hi : IntsAre us ns) (hl : ns.length ≤ sizeLine) (room : Room k callerA)
    (Fn : ∀ base : Heap, K.In base → base.Ns mainGlobals mg → FnG P w K mg base CX0 k fa fd [x] sp) (bind : ∀ (s : Shared) (u : Value), BindsTo s fd ⟨[u], []⟩ [(x, u)])
    (want : ∀ H : Hp, Only H → SqL K H a (ns.map V.int) → sp [.ref a] H (fun v _ => v = .bl true) fun _ _ _ => False) :
    codeAny (model P w) callerA (.call (.ref fa) ⟨[.ref a], []⟩) (EndsTrue t0) t0 := by
  have rv := vals_ints hi
  have from_ : ∀ H : Hp, Only H → SqL K H a (ns.map V.int) → HOk P w H t0.heap → (∀ b, H b ≠ none → b = a) → (H a ≠ none → K.lookup a = none) → codeAny (model P w) callerA (.call (.ref fa) ⟨[.ref a], []⟩) (EndsTrue t0) t0 := by
    intro H only seen good hA hK
    obtain ⟨k1, k2, k3⟩ := env_law KX hns hb hbb hlim hg ha good hA hK
    refine codeAny_mono ((Fn _ k1 k2).go callerA [] t0 H ⟨[.ref a], []⟩ [.ref a] [.ref a] _ _ room rfl k3 (bind t0 (.ref a)) (.cons rfl .nil) (want H only seen)) ?_
    intro r t h
    match r, h with
    | .error e, h => exact h.elim
    | .ok (.ret u), h => exact ends_of only good h
    | .ok .next, h => exact h.elim
    | .ok .brk, h => exact h.elim
    | .ok .cont, h => exact h.elim
  cases own : K.lookup a with
  | some o =>
    have same := KX a o own
    rw [ha] at same
    cases same
    refine from_ (fun _ => none) (fun _ => .inl rfl) (.inr ⟨_, us.toArray, _, own, rfl, rfl, rfl, ?_, by simpa using rv⟩) (fun b u z => nomatch z) (fun b z => absurd rfl z) (fun z => absurd rfl z)
    rw [List.size_toArray, hi.length]
    exact hl
  | none =>
    let F : Hp := fun b => if b = a then some (.frz { cls := .type "list", data := .seq us.toArray } (.lst (ns.map V.int))) else none
    have at_ : F a = some (.frz { cls := .type "list", data := .seq us.toArray } (.lst (ns.map V.int))) := if_pos rfl
    have off : ∀ {b : Addr}, b ≠ a → F b = none := fun h => if_neg h
    refine from_ F (fun b => ?_) (.inl (.inr ⟨_, at_⟩)) (fun b u z => ?_) (fun b z => ?_) (fun _ => own)
    · by_cases e : b = a
      · subst e
        exact .inr ⟨_, _, at_⟩
      · exact .inl (off e)
    · by_cases e : b = a
      · subst e
        rw [at_] at z
        cases z
        exact ⟨ha, by rw [List.length_map]; exact hl, us, _, rv, ha⟩
      · rw [off e] at z
        cases z
    · by_cases e : b = a
      · exact e
      · exact absurd (off e) z
end
theorem walk_g {l : PySem.W.OpenLaw} {n k : Nat} {q : Program} {loose : List Str} {XP : (Str → Option Value) → Heap → Prop} {YP : World → Heap → Prop} {d : DefRec} {x : Str} (hn : l.most = some n) (hn2 : n ≤ sizeLine) (hdf : d.params.defaults = []) (room : Room k callerA)
    (F : ∀ (w : World) (mg : Str → Option Value) (fa : Addr) (h : Heap), YP w h → h.Ns mainGlobals mg → mg d.name = some (.ref fa) →
      ∃ (K : PySem.W.Frag) (fd : FuncData) (sp : Sp), K.In h ∧ (∀ (s : Shared) (u : Value), BindsTo s fd ⟨[u], []⟩ [(x, u)]) ∧
        (∀ (H : Hp) (a : Addr) (ns : List Int), ns.length ≤ n → SqL K H a (ns.map V.int) → sp [.ref a] H (fun v _ => v = .bl true) fun _ _ _ => False) ∧
        ∀ base : Heap, K.In base → base.Ns mainGlobals mg → FnG l.prog w K mg base CX0 k fa fd [x] sp) :
    PySem.W.WalkO q loose XP YP l.row.toRowW d [] (fun f vs => PySem.call f vs) := by
  refine Att.attach_call hn hdf ?_
  intro w t0 t1 mg mb fa o pm cd doc a us ns G Y ho hd hcd hmg hobj hints hlen hg
  obtain ⟨K, fd, sp, KX, hb, hsp, hF⟩ := F w mg fa _ Y G.T.g hmg
  exact law_g KX G.T.g G.T.b G.T.builtins G.T.nolimit hg hobj hints (Nat.le_trans hlen hn2) room hF hb (fun H _ hS => hsp H a ns hlen hS)
/-- the law's promise: its mirror says True of every script -/
theorem law_sp {K : PySem.W.Frag} {mg : Str → Option Value} {mf : List D → Option D} {H : Hp} {a : Addr} {ns : List Int} (hm : mf [.scr ns] = some (.bl true)) (hS : SqL K H a (ns.map V.int)) : spP K mg 1 mf [.ref a] H (fun v _ => v = .bl true) fun _ _ _ => False :=
  ⟨H, [.scr ns], .bl true, Evl.Ex.refl _, RepL.cons (by unfold Rep; exact ⟨a, rfl, hS⟩) RepL.nil, rfl, hm, fun v F' H' _ r => r.bl'⟩
end Mir
set_option linter.all false
set_option maxRecDepth 100000
set_option maxHeartbeats 4000000
namespace Mir
open PySem PySem.Spec L2
/-! ### texts -/
/-- the texts of a list of texts -/
def strsD : List D → Option (List Str)
  | [] => some []
  | .str x :: r => (strsD r).map (x :: ·)
  | _ => none
theorem strs_rep {K : PySem.W.Frag} {mg : Str → Option Value} {F : Hp} : ∀ {ds : List D} {zs : List Str} {vs : List V}, strsD ds = some zs → RepL K mg F ds vs → vs = zs.map V.str
  | [], zs, vs, h, r => by
    cases h
    rw [r.nil_inv]
    rfl
  | .str x :: ds, zs, vs, h, r => by
    have h' : (strsD ds).map (x :: ·) = some zs := h
    cases e : strsD ds with
    | none => rw [e] at h'; cases h'
    | some ms =>
      rw [e] at h'
      cases h'
      obtain ⟨v, vr, rfl, r1, r2⟩ := r.cons_inv
      rw [r1.str', strs_rep e r2]
      rfl
  | .non :: _, _, _, h, _ => by cases h
  | .bl _ :: _, _, _, h, _ => by cases h
  | .int _ :: _, _, _, h, _ => by cases h
  | .lst _ :: _, _, _, h, _ => by cases h
  | .tup _ :: _, _, _, h, _ => by cases h
  | .ins _ _ _ :: _, _, _, h, _ => by cases h
  | .dct _ _ :: _, _, _, h, _ => by cases h
  | .scr _ :: _, _, _, h, _ => by cases h
  | .ty _ :: _, _, _, h, _ => by cases h
  | .cls _ :: _, _, _, h, _ => by cases h
  | .exn _ _ _ :: _, _, _, h, _ => by cases h
  | .hot _ _ _ _ _ _ :: _, _, _, h, _ => by cases h
section
variable {X : Cx} {o e a b : Expr} {to te tb : TE} {mo me mb : M D} {pos apos p : Pos}
def joinD (x y : D) : Option D := match x with
  | .str s => (match itemsD y with
    | some ds => (match strsD ds with
      | some zs => if (zs.map (·.length)).sum + zs.length * s.length ≤ 100000 then some (.str (Txt.join s zs)) else none
      | none => none)
    | none => none)
  | _ => none
theorem joinD_some {x y d : D} (h : joinD x y = some d) : ∃ s ds zs, x = .str s ∧ itemsD y = some ds ∧ strsD ds = some zs ∧ (zs.map (·.length)).sum + zs.length * s.length ≤ 100000 ∧ d = .str (Txt.join s zs) := by
  cases x with
  | str s =>
    unfold joinD at h
    cases e1 : itemsD y with
    | none => simp [e1] at h
    | some ds =>
      cases e2 : strsD ds with
      | none => simp [e1, e2] at h
      | some zs =>
        by_cases z : (zs.map (·.length)).sum + zs.length * s.length ≤ 100000
        · simp [e1, e2, z] at h
          exact ⟨s, ds, zs, rfl, rfl, e2, z, h.symm⟩
        · simp [e1, e2, z] at h
  | _ => cases h
def rJoin (K : PySem.W.Frag) : V → List V → Hp → VK → Prop := fun x xs H Q => ∃ a p, ∃ ys : List Str, x = .str a ∧ xs = [.ref p] ∧ (SqL K H p (ys.map V.str) ∨ SqT K H p (ys.map V.str)) ∧ (ys.map (·.length)).sum + ys.length * a.length ≤ 16777216 ∧ Q (.str (Txt.join a ys)) H
def mJoin (mo me : M D) : M D := bnd mo fun x => bnd (lft (match x with
  | .str _ => some ()
  | _ => none)) fun _ => bnd me fun y => lft (joinD x y)
theorem pd_join (ho : PEd X o to mo) (he : PEd X e te me) (hs : starEach [e] X.env = [(false, eval e X.env)] := by rfl) (hbase : attributeBase o "join" X.env (eval o X.env) = eval o X.env := by rfl) (hline : (apos.endLine == pos.line) = true := by rfl) :
    PEd X (.Call (.Attribute o "join" apos) [e] [] pos) (tM1 (rJoin X.K) to te) (mJoin mo me) := by
  refine ⟨pe_join ho.1 he.1 hs hbase hline, fun B F H σ sd d sd' S hm Q q => ?_⟩
  obtain ⟨x, sd1, h1, h2⟩ := bnd_some hm
  obtain ⟨u, sd2, h3, h4⟩ := bnd_some h2
  obtain ⟨h5, rfl⟩ := lft_some h3
  obtain ⟨y, sd3, h6, h7⟩ := bnd_some h4
  obtain ⟨h8, rfl⟩ := lft_some h7
  obtain ⟨s, ds, zs, rfl, e1, e2, hz, rfl⟩ := joinD_some h8
  refine ho.2 B F H σ sd _ _ S h1 _ fun v F1 H1 S1 ex1 r1 => ⟨⟨s, r1.str'⟩, ?_⟩
  refine he.2 B F1 H1 σ _ y _ S1 h6 _ fun w F2 H2 S2 ex2 r2 => ?_
  cases y with
  | lst xs =>
    cases e1
    obtain ⟨p, ws, rfl, k1, k2⟩ := r2.lst'
    obtain rfl := strs_rep e2 k2
    exact ⟨s, p, zs, r1.str', rfl, .inl (Evl.sq_of (S2.fh _ _ k1)), Nat.le_trans hz (by decide), q _ F2 H2 S2 (ex1.trans ex2) Rep.str⟩
  | tup xs =>
    cases e1
    obtain ⟨p, ws, rfl, k1, k2⟩ := r2.tup'
    obtain rfl := strs_rep e2 k2
    exact ⟨s, p, zs, r1.str', rfl, .inr (Evl.ex_t S2.fh k1), Nat.le_trans hz (by decide), q _ F2 H2 S2 (ex1.trans ex2) Rep.str⟩
  | _ => cases e1
/-- a text, sign by sign -/
def charsD : D → Option (List D)
  | .str x => some (x.cps.toList.map fun c => .str ⟨#[c]⟩)
  | _ => none
theorem it_str {tg : Expr} (h : PEd X e te me) : PId X tg e (iStr te) (bnd me fun d => lft (charsD d)) := by
  refine ⟨pi_str h.1, fun B F H σ sd ds sd' S hm R q => ?_⟩
  obtain ⟨d, sd1, h1, h2⟩ := bnd_some hm
  obtain ⟨h3, rfl⟩ := lft_some h2
  refine h.2 B F H σ sd d _ S h1 _ fun v F1 H1 S1 e1 r => ?_
  cases d with
  | str x =>
    cases h3
    refine ⟨x, r.str', q _ F1 H1 S1 e1 ⟨_, _, by rw [List.length_map, Array.length_toList]; exact walk_str, fun _ _ => True.intro, fun i F2 H2 y H3 dd g1 g2 yy hd => ?_⟩⟩
    obtain ⟨rfl, c, hc, rfl⟩ := yy
    rw [List.getElem?_map] at hd
    have hc' : x.cps.toList[i]? = some c := by simpa using hc
    rw [hc'] at hd
    cases hd
    exact ⟨F2, Grow.refl g2, Rep.str⟩
  | _ => cases h3
theorem pts_oned {c : Expr} {t : TT} {m : M Bool} (h : PTd X c t m) : PTsd X [c] t m := ⟨pts_one h.1, h.2⟩
/-- a, b = e, [..] with b to be changed later -/
def mParO2 (i j : Nat) (mb : M D) (mL : M (List D)) : M Out := bnd mb fun d => bnd mL fun ds => bnd (lft (lim ds.length (Cell.lst ds))) fun c => if j ≠ 0 then bnd (mSet i d) fun _ => bnd (mPut j c) fun _ => pur .nx else fun _ => none
theorem ps_parO2 {i j : Nat} {x y : Str} {px py pt pl : Pos} {kt k2 pt2} {es : List Expr} {tL : TA} {mL : M (List D)} (hc : X.calm = true) (hN : X.N.Nodup) (hi : X.N[i]? = some x) (hj : X.N[j]? = some y) (hij : i ≠ j)
    (hx : X.env.scope.names.lookup x = some .local) (hy : X.env.scope.names.lookup y = some .local) (hb : PEd X b tb mb) (ha : PAd X es tL mL)
    (hw : swappedStores [.Tuple [.Name x px, .Name y py] kt pt] (.Tuple [b, .List es pl] k2 pt2) X.env = pure (some [x, y]))
    (hs : swapsWithSole [.Tuple [.Name x px, .Name y py] kt pt] (.Tuple [b, .List es pl] k2 pt2) pos.line X.env = pure false := by rfl)
    (h1 : starEach [b, .List es pl] X.env = (false, eval b X.env) :: starEach [.List es pl] X.env := by rfl) (h2 : starEach [.List es pl] X.env = (false, eval (.List es pl) X.env) :: starEach [] X.env := by rfl) :
    PSd X (.Assign [.Tuple [.Name x px, .Name y py] kt pt] (.Tuple [b, .List es pl] k2 pt2) pos) (tPar i j (tCons tb (tCons (tLst tL) tNil))) (mParO2 i j mb mL) := by
  refine ⟨ps_par hc hN hi hj hij hx hy (pa_cons hb.1 (pa_cons (pe_lst ha.1) pa_nil h2) h1) hw hs, fun B F H σ sd o sd' S hm E w => ?_⟩
  obtain ⟨d, sd1, k1, k2'⟩ := bnd_some hm
  obtain ⟨ds, sd2, k3, k4⟩ := bnd_some k2'
  obtain ⟨c, sd3, k5, k6⟩ := bnd_some k4
  obtain ⟨k7, rfl⟩ := lft_some k5
  obtain ⟨rfl, hl⟩ := lim_some k7
  by_cases z : j ≠ 0
  case neg =>
    rw [if_neg z] at k6
    cases k6
  rw [if_pos z] at k6
  obtain ⟨⟨⟩, sd4, k8, k9⟩ := bnd_some k6
  obtain ⟨f0, rfl⟩ := mSet_some k8
  obtain ⟨⟨⟩, sd5, k10, k11⟩ := bnd_some k9
  cases k10
  obtain ⟨rfl, rfl⟩ := pur_some k11
  refine hb.2 B F H σ sd d sd1 S k1 _ fun v F1 H1 S1 e1 r1 => ?_
  refine ha.2 B F1 H1 σ sd1 ds _ S1 k3 _ fun vs F2 H2 S2 e2 r2 => ⟨Evl.sz_of (by rw [← r2.len]; exact hl), fun q hq => ?_⟩
  exact ⟨v, .ref q, rfl, w _ F2 _ ((S2.set i (r1.mono e2) f0).newOwn hq ⟨vs, rfl, r2⟩ z) (e1.trans e2)⟩
end
end Mir
set_option linter.all false
set_option maxRecDepth 100000
set_option maxHeartbeats 4000000
namespace Mir
open PySem PySem.Spec L2
abbrev Fg := PySem.W.Frag
/-! ### what the top has left: facts, defs -/
/-- a def, wherever its object stands -/
structure DM where
  at_ : Fg → Addr
  name : Str
  qual : Str
  params : Arguments
  body : List Stmt
  scope : Scope
  dfl : List He.Dv := []
  kwd : List (Str × He.Dv) := []
def DM.told (d : DM) : He.FnW := some (d.name, d.qual, d.params, FuncBody.stmts d.body, d.scope, mainGlobals, [], builtinsNs)
def DM.dvs (K : Fg) (d : DM) : List V := d.dfl.map fun z => z.v K
def DM.kws (K : Fg) (d : DM) : List (Str × V) := d.kwd.map fun z => (z.1, z.2.v K)
def fnM (K : Fg) (a : Addr) : He.FnW := match K.lookup a with
  | some ⟨_, _, .func o, _⟩ => some (o.name, o.qualname, o.params, o.body, o.scope, o.globals, o.closure, o.builtins)
  | _ => none
def DM.fine (K : Fg) (d : DM) : Bool := match K.lookup (d.at_ K) with
  | some ⟨_, _, .func o, _⟩ => PySem.W.keepIn K (.ref (d.at_ K)) && (PySem.W.codeIn K o.code d.qual && (He.dflB K o.defaults (d.dvs K) && He.kwdB K o.kwdefaults (d.kws K)))
  | _ => false
theorem and4 {a b c d : Bool} (h : (a && (b && (c && d))) = true) : a = true ∧ b = true ∧ c = true ∧ d = true := by
  cases a <;> cases b <;> cases c <;> cases d <;> simp_all
theorem DM.funD {K : Fg} {d : DM} (e : fnM K (d.at_ K) = d.told) (c : d.fine K = true) : ∃ fd, FunD K d.name d.qual d.params d.body d.scope (d.dvs K) (d.kws K) (d.at_ K) fd := by
  unfold DM.fine at c
  unfold fnM at e
  generalize hl : K.lookup (d.at_ K) = r at c e
  cases r with
  | none => cases c
  | some o =>
    obtain ⟨oc, od, dt, osl⟩ := o
    cases dt with
    | func fd =>
      obtain ⟨n1, n2, n3, n4, n5, n6, n7, n8, n9, n10, n11, n12, n13, n14, n15⟩ := fd
      have e2 : (some (n1, n2, n3, n4, n5, n6, n7, n15) : He.FnW) = some (d.name, d.qual, d.params, FuncBody.stmts d.body, d.scope, mainGlobals, [], builtinsNs) := e
      simp only [Option.some.injEq, Prod.mk.injEq] at e2
      obtain ⟨rfl, rfl, rfl, rfl, rfl, rfl, rfl, rfl⟩ := e2
      obtain ⟨k1, k2, k3, k4⟩ := and4 (show (PySem.W.keepIn K (.ref (d.at_ K)) && (PySem.W.codeIn K n13 d.qual && (He.dflB K n8 (d.dvs K) && He.kwdB K n9 (d.kws K)))) = true from c)
      exact ⟨_, ⟨oc, od, n8, n9, n10, n11, n12, n13, n14, osl, rfl, hl, k2, He.dflB_ok k3, He.kwdB_ok k4⟩, k1⟩
    | _ => cases c
/-- what is looked at -/
def seenM (fa : List He.Fa) (ex : List (Fg → Bool)) (fn : List DM) (K : Fg) : He.AlD := ((fa.all fun f => f.ok K) && ((ex.all fun f => f K) && fn.all fun d => d.fine K), fn.map fun d => fnM K (d.at_ K))
def SaysM (fa : List He.Fa) (ex : List (Fg → Bool)) (fn : List DM) (K : Fg) : Prop := seenM fa ex fn K = (true, fn.map DM.told)
def seenG (n : Nat) (fa : List He.Fa) (ex : List (Fg → Bool)) (fn : List DM) (g : Addr → Option Obj) : He.AlD := seenM fa ex fn (He.frG g (cStatics :: sysModules :: He.asD g n))
def hookM (n : Nat) (fa : List He.Fa) (ex : List (Fg → Bool)) (fn : List DM) : PySem.W.Hook where
  α := He.AlD
  obs := fun t => seenG n fa ex fn t.heap.get?
  val := fun _ => (true, fn.map DM.told)
  says := fun _ h => ∃ K : Fg, K.In h ∧ SaysM fa ex fn K
  of := fun _ _ z => ⟨_, He.frG_in, z⟩
  keeps := fun _ _ _ z k => by
    obtain ⟨K, hK, c⟩ := z
    exact ⟨K, hK.keeps k, c⟩
theorem seenG_eq {n : Nat} {fa : List He.Fa} {ex : List (Fg → Bool)} {fn : List DM} {g : Addr → Option Obj} {t : Shared} (h : ∀ a, g a = t.heap.get? a) : seenG n fa ex fn g = (hookM n fa ex fn).obs t := by
  obtain rfl : g = t.heap.get? := funext h
  rfl
section
variable {fa : List He.Fa} {ex : List (Fg → Bool)} {fn : List DM} {K : Fg}
theorem SaysM.all (c : SaysM fa ex fn K) : (fa.all fun f => f.ok K) = true ∧ (ex.all fun f => f K) = true ∧ (fn.all fun d => d.fine K) = true := by
  have z : ((fa.all fun f => f.ok K) && ((ex.all fun f => f K) && fn.all fun d => d.fine K)) = true := congrArg (fun y : He.AlD => y.1) c
  rw [Bool.and_eq_true, Bool.and_eq_true] at z
  exact z
theorem SaysM.fact (c : SaysM fa ex fn K) (i : Nat) {f : He.Fa} (h : fa[i]? = some f := by rfl) : f.ok K = true := List.all_eq_true.mp c.all.1 f (List.mem_of_getElem? h)
theorem SaysM.more (c : SaysM fa ex fn K) (i : Nat) {f : Fg → Bool} (h : ex[i]? = some f := by rfl) : f K = true := List.all_eq_true.mp c.all.2.1 f (List.mem_of_getElem? h)
theorem SaysM.def_ (c : SaysM fa ex fn K) (i : Nat) {d : DM} (h : fn[i]? = some d := by rfl) : ∃ fd, FunD K d.name d.qual d.params d.body d.scope (d.dvs K) (d.kws K) (d.at_ K) fd := by
  have all : fn.map (fun d => fnM K (d.at_ K)) = fn.map DM.told := congrArg (fun y : He.AlD => y.2) c
  have one : (fn.map fun d => fnM K (d.at_ K))[i]? = (fn.map DM.told)[i]? := by rw [all]
  rw [List.getElem?_map, List.getElem?_map, h] at one
  exact DM.funD (Option.some.inj one) (List.all_eq_true.mp c.all.2.2 d (List.mem_of_getElem? h))
end
/-! ### facts of one's own -/
/-- the getter of the property m of the class x -/
def pgA (x m : Str) (K : Fg) : Addr := match PySem.W.recIn K (He.ma K (He.ga K x) m) "property" with
  | some (.ref g :: _) => g
  | _ => 0
def propB (x m : Str) (K : Fg) : Bool := He.eqO (PySem.W.findIn K (.ref (He.ga K x)) m) (some (some (.ref (He.ma K (He.ga K x) m)))) && (He.eqO (PySem.W.specialIn K (.ref (He.ma K (He.ga K x) m)) "__get__") (some (some (.builtin "property.__get__"))) &&
  (decide (PySem.W.takesIn K (.ref (He.ma K (He.ga K x) m)) = some true) && (match PySem.W.recIn K (He.ma K (He.ga K x) m) "property" with
    | some (.ref _ :: _) => true
    | _ => false)))
theorem propB_ok {x m : Str} {K : Fg} (h : propB x m K = true) : PropOf K (He.ga K x) m (He.ma K (He.ga K x) m) (pgA x m K) := by
  obtain ⟨h1, h2, h3, h4⟩ := and4 h
  refine ⟨He.eqO_ok h1, He.eqO_ok h2, of_decide_eq_true h3, ?_⟩
  unfold pgA
  generalize PySem.W.recIn K (He.ma K (He.ga K x) m) "property" = r at h4
  match r, h4 with
  | some (.ref g :: rest), _ => exact ⟨rest, rfl⟩
def isiB (x : Str) (K : Fg) : Bool := He.eqO (PySem.W.findIn K (.ref (He.ga K x)) "__class__") (some (some (.builtin "object.__class__"))) && (He.eqO (PySem.W.specialIn K (.builtin "object.__class__") "__get__") (some (some (.builtin "getset_descriptor.__get__"))) &&
  (decide (PySem.W.takesIn K (.builtin "object.__class__") = some true) && decide (PySem.W.mroIn K (He.ga K x) (.type "object") = some true)))
theorem isiB_ok {x : Str} {K : Fg} (c : Cls K (He.ga K x)) (h : isiB x K = true) : IsiC K (He.ga K x) := by
  obtain ⟨h1, h2, h3, h4⟩ := and4 h
  exact ⟨c, He.eqO_ok h1, He.eqO_ok h2, of_decide_eq_true h3, of_decide_eq_true h4⟩
def tyK (K : Fg) : TyN → Value
  | .b n => .type n
  | .o c => .ref (He.ga K c)
def tabB (u : Fg → Value) (tab : List (TyN × Bool)) (K : Fg) : Bool := tab.all fun p => decide (PySem.W.kitOne K (tyK K p.1) (u K) = some p.2)
def tabTB (us : Fg → List Value) (tab : List (TyN × Bool)) (K : Fg) : Bool := tab.all fun p => decide (PySem.W.kitAny K (tyK K p.1) (us K) = some p.2)
def firstB (x : Str) (tab : List TyN) (K : Fg) : Bool := tab.all fun t => PySem.W.notFirst K (He.ga K x) (tyK K t)
/-- the own classes of a table are known -/
def Known (K : Fg) (mg : Str → Option Value) (t : TyN) : Prop := match t with
  | .b _ => True
  | .o c => mg c = some (.ref (He.ga K c)) ∧ IsiC K (He.ga K c)
theorem Known.own {K : Fg} {mg : Str → Option Value} {t : TyN} (h : Known K mg t) : OwnOk K mg t := by
  cases t with
  | b n => exact True.intro
  | o c => exact ⟨_, h.1, h.2⟩
theorem Known.ty {K : Fg} {mg : Str → Option Value} {t : TyN} {v : Value} (h : Known K mg t) (e : tyAt mg t = some v) : v = tyK K t := by
  cases t with
  | b n =>
    cases e
    rfl
  | o c =>
    have e' : mg c = some v := e
    rw [h.1] at e'
    cases e'
    rfl
theorem tabB_ok {u : Fg → Value} {tab : List (TyN × Bool)} {K : Fg} {mg : Str → Option Value} (h : tabB u tab K = true) (kn : ∀ p ∈ tab, Known K mg p.1) : TabOk K mg (u K) tab := fun p hp =>
  ⟨(kn p hp).own, fun t e => by
    rw [(kn p hp).ty e]
    exact of_decide_eq_true (List.all_eq_true.mp h p hp)⟩
theorem tabTB_ok {us : Fg → List Value} {tab : List (TyN × Bool)} {K : Fg} {mg : Str → Option Value} (h : tabTB us tab K = true) (kn : ∀ p ∈ tab, Known K mg p.1) : TabTOk K mg (us K) tab := fun p hp =>
  ⟨(kn p hp).own, fun t e => by
    rw [(kn p hp).ty e]
    exact of_decide_eq_true (List.all_eq_true.mp h p hp)⟩
theorem firstB_ok {x : Str} {tab : List TyN} {K : Fg} {mg : Str → Option Value} (h : firstB x tab K = true) (kn : ∀ t ∈ tab, Known K mg t) : FirstOk K mg (He.ga K x) tab := fun t ht =>
  ⟨(kn t ht).own, fun v e => by
    rw [(kn t ht).ty e]
    exact List.all_eq_true.mp h t ht⟩
/-- a method found by its special name -/
def specB (x m : Str) (K : Fg) : Bool := He.eqO (PySem.W.findIn K (.ref (He.ga K x)) m) (some (some (.ref (He.ma K (He.ga K x) m)))) && PySem.W.isFn K (.ref (He.ma K (He.ga K x) m))
theorem specB_ok {x m : Str} {K : Fg} (h : specB x m K = true) : PySem.W.findIn K (.ref (He.ga K x)) m = some (some (.ref (He.ma K (He.ga K x) m))) ∧ PySem.W.isFn K (.ref (He.ma K (He.ga K x) m)) = true := by
  unfold specB at h
  rw [Bool.and_eq_true] at h
  exact ⟨He.eqO_ok h.1, h.2⟩
def neB (x : Str) (K : Fg) : Bool := He.eqO (PySem.W.findIn K (.ref (He.ga K x)) "__ne__") (some (some (.builtin "object.__ne__")))
theorem neB_ok {x : Str} {K : Fg} (h : neB x K = true) : PySem.W.findIn K (.ref (He.ga K x)) "__ne__" = some (some (.builtin "object.__ne__")) := He.eqO_ok h
/-- an int constant of a class -/
def cintB (x f : Str) (i : Int) (K : Fg) : Bool := PySem.W.readsIn K (He.ga K x) (.type "type") && (He.eqO (PySem.W.specialIn K (.ref (He.ga K x)) "__getattribute__") (some (some (.builtin "type.__getattribute__"))) && (match PySem.W.findCls K (.ref (He.ga K x)) (.type "type") f with
  | some (.val (.int j _)) => decide (j = i)
  | _ => false))
theorem cintB_ok {x f : Str} {i : Int} {K : Fg} (h : cintB x f i K = true) : ∃ u, ClX.CRead K (He.ga K x) (.type "type") ∧ ClX.CVal K (He.ga K x) (.type "type") f (.int i) u := by
  unfold cintB at h
  rw [Bool.and_eq_true, Bool.and_eq_true] at h
  obtain ⟨h1, h2, h3⟩ := h
  split at h3
  · rename_i j t e
    have ej := of_decide_eq_true h3
    subst ej
    exact ⟨_, ⟨h1, He.eqO_ok h2⟩, ⟨e, ⟨t, rfl⟩⟩⟩
  · cases h3
/-- a list of known types -/
def KnownL (K : Fg) (mg : Str → Option Value) : List TyN → Prop
  | [] => True
  | t :: ts => Known K mg t ∧ KnownL K mg ts
theorem known_of {K : Fg} {mg : Str → Option Value} : ∀ {l : List TyN}, KnownL K mg l → ∀ t ∈ l, Known K mg t
  | [], _, t, h => by cases h
  | x :: xs, k, t, h => by
    rcases List.mem_cons.mp h with rfl | h
    · exact k.1
    · exact known_of k.2 t h
theorem known_tab {K : Fg} {mg : Str → Option Value} {tab : List (TyN × Bool)} (h : KnownL K mg (tab.map (·.1))) : ∀ p ∈ tab, Known K mg p.1 := fun p hp => known_of h p.1 (List.mem_map.mpr ⟨p, hp, rfl⟩)
end Mir
set_option linter.all false
set_option maxRecDepth 100000
set_option maxHeartbeats 4000001
/-! Mir: errors of the text as data. -/
namespace Mir
open PySem PySem.Spec L2
open PyProof.Rows (envOfC)
abbrev Fr' := PySem.W.Frag
/-! ### keywords in the making of an error -/
section
open Builtin
variable {prog : Program} {w : World} {A : Around} {E : Value → Shared → Prop} {R : Result → Shared → Prop} {hh : Heap} {gs : Array GenState} {dr : Drawn} {tk : Nat} {os : OsState}
variable {nm q : Str} {C N : Addr} {bs bm bmB : List Value} {hdct : Bool} {sn : List Str} {sub : List Value} {ab : Bool} {col : Option Bool} {dd : Option Addr} {k0 k1 k2 k3 k5 : Option Value} {B newId initId : String} {rest : List Value} {kw : List (Str × Value)}
def Tails (bm bmB : List Value) : Prop := ∀ Y : String, bm.contains (.type Y) = bmB.contains (.type Y)
theorem newCheck {Q : Unit → Shared → Prop} (F : ExcBaseFacts B newId initId bmB) (tl : Tails bm bmB)
    (at_ : hh.get? C = some (excClassObj nm q C N bs bm hdct sn sub ab col dd k0 k1 k2 k3 k5 newId)) (z : Q () ⟨hh, gs, dr, tk, os⟩) :
    wpAny (model prog w) A (checkBuiltinCall newId ⟨.ref C :: rest, kw⟩) Q E ⟨hh, gs, dr, tk, os⟩ := by
  have inB : (Value.ref C :: bm).contains (.type B) = true := by
    rw [List.contains_cons, tl B, F.hasB, Bool.or_true]
  have ns := F.noStar
  simp only [checkBuiltinCall, F.newKind, F.newSplit, F.newRow]
  repeat (first
    | refine wpAny_loadPart_at at_ ?_
    | (refine wpAny_isSubtype_exc at_ ?_
       rw [inB])
    | refine wpAny_staticBase_exc at_ ?_
    | refine wpAny_madeBy_exc at_ ?_
    | simp only [bne_self_eq_false, Bool.false_eq_true, if_false]
    | wp_step)
  exact z
theorem newRun (F : ExcBaseFacts B newId initId bmB) (tl : Tails bm bmB) (few : rest.length ≤ sizeLine)
    (at_ : hh.get? C = some (excClassObj nm q C N bs bm hdct sn sub ab col dd k0 k1 k2 k3 k5 newId))
    (z : R (.ok (.ret (.ref (hh.objs.size + 1)))) ⟨(hh.push (W.kdv_tup rest)).push (HandSPX.excO C hh.objs.size), gs, dr, tk, os⟩) :
    codeAny (model prog w) A (.builtin newId ⟨.ref C :: rest, kw⟩) R ⟨hh, gs, dr, tk, os⟩ := by
  have e1 := F.ends
  have inB : (Value.ref C :: bm).contains (.type B) = true := by
    rw [List.contains_cons, tl B, F.hasB, Bool.or_true]
  have noA : (Value.ref C :: bm).contains (.type "AttributeError") = false := by
    rw [List.contains_cons, tl "AttributeError", F.noAttr]
    rfl
  have noN : (Value.ref C :: bm).contains (.type "NameError") = false := by
    rw [List.contains_cons, tl "NameError", F.noName]
    rfl
  refine codeAny_builtinAt F.entry ?_
  unfold Builtin.«BaseException.__new__»
  refine wpAt_bind ?_
  show wpAt _ _ _ (stack >>= _) _ _ _
  refine wpAt_bind (wpAt_stack fun _ _ => wpAt_of_wpAny ?_)
  wp_walk
  refine wpAt_of_wpAny ?_
  rw [F.owner]
  repeat (first
    | with_reducible refine wpAny_madeHere_exc F.canon at_ ?_
    | with_reducible refine wpAny_loadPart_at at_ ?_
    | (with_reducible refine wpAny_isSubtype_exc at_ ?_
       first
        | rw [inB]
        | rw [noA]
        | rw [noN])
    | wp_step)
  show R _ _
  rw [Heap.size_push]
  exact z
theorem callCheck {M : Model} {Q : Unit → Shared → Prop} (at_ : hh.get? C = some (excClassObj nm q C N bs bm hdct sn sub ab col dd k0 k1 k2 k3 k5 newId))
    (z : Q () ⟨hh, gs, dr, tk, os⟩) : wpAny M A (checkBuiltinCall "type.__call__" ⟨.ref C :: rest, kw⟩) Q E ⟨hh, gs, dr, tk, os⟩ := by
  have e1 := tc_sub
  have e2 : (⟨hh, gs, dr, tk, os⟩ : Shared).TypeIs (.ref C) "type" := ⟨_, at_, rfl⟩
  simp only [checkBuiltinCall, tc_kind, tc_split]
  repeat (any_goals (first
    | assumption
    | with_reducible refine wpAny_loadPart_at at_ ?_
    | with_reducible refine wpAny_onRaise ?_
    | with_reducible refine wpAny_map ?_
    | wp_step))
theorem callRun {fI : Addr} {Q : Fin → Shared → Prop} (F : ExcBaseFacts B newId initId bmB) (tl : Tails bm bmB) (few : rest.length ≤ sizeLine)
    (at_ : hh.get? C = some (excClassObj nm q C N bs bm hdct sn sub ab col dd k0 k1 k2 k3 k5 newId))
    (li : W.Looks (model prog w) hh (typeLookup (.ref C) "__init__") (some (.ref fI)))
    (lb : ∀ self, W.Looks (model prog w) hh (bindSpecial (.ref fI) self) (.ref fI, [self]))
    (z : codeAny (model prog w) A (.call (.ref fI) ⟨.ref (hh.objs.size + 1) :: rest, kw⟩)
      (fun r s' => match r with
        | .ok (.ret v) => v = .none ∧ Q (.done (.ret (.ref (hh.objs.size + 1)))) s'
        | .ok _ => False
        | .error e => E e s')
      ⟨(hh.push (W.kdv_tup rest)).push (HandSPX.excO C hh.objs.size), gs, dr, tk, os⟩) :
    wpAny (model prog w) A (Builtin.«type.__call__» ⟨.ref C :: rest, kw⟩) Q E ⟨hh, gs, dr, tk, os⟩ := by
  repeat (first
    | with_reducible refine wpAny_loadPart_at at_ ?_
    | with_reducible refine wpAny_madeBy_exc at_ ?_
    | wp_step)
  refine codeAny_call_builtin_code (Code.quiet_builtin _ F.quiet) (newCheck F tl at_ ?_)
  refine newRun F tl few at_ ?_
  show wpAny _ _ _ _ _ _
  have stays : ∀ b o, hh.get? b = some o → ((hh.push (W.kdv_tup rest)).push (HandSPX.excO C hh.objs.size)).get? b = some o := by
    intro b o e
    exact Heap.get?_push_of_some _ (Heap.get?_push_of_some _ e)
  have at2 := stays _ _ at_
  have new_ : ((hh.push (W.kdv_tup rest)).push (HandSPX.excO C hh.objs.size)).get? (hh.objs.size + 1) = some (HandSPX.excO C hh.objs.size) := by
    heap_get
  have own_ : (Value.ref C :: bm).contains (.ref C) = true := by
    simp
  have li2 := li.keeps stays
  have lb2 := (lb (.ref (hh.objs.size + 1))).keeps stays
  unfold isInstance
  repeat (first
    | with_reducible refine wpAny_loadPart_at new_ ?_
    | (with_reducible refine wpAny_isSubtype_exc at2 ?_
       rw [own_])
    | wp_step)
  show wpAny _ _ (typeLookup (.ref C) _) _ _ _
  refine li2.at ?_
  refine wpAny_holding (wpAny_bind (lb2.at ?_))
  refine wpAny_bind (wpAny_call (codeAny_mono z ?_))
  intro r s' y
  match r, y with
  | .error e, y => exact y
  | .ok .next, y => exact y.elim
  | .ok .brk, y => exact y.elim
  | .ok .cont, y => exact y.elim
  | .ok (.ret v), y =>
    obtain ⟨e3, y2⟩ := y
    subst e3
    first
      | exact wpAny_pure (wpAny_pure y2)
      | (wp_walk
         exact y2)
theorem exnCall {fI : Addr} (F : ExcBaseFacts B newId initId bmB) (tl : Tails bm bmB) (few : rest.length ≤ sizeLine)
    (at_ : hh.get? C = some (excClassObj nm q C N bs bm hdct sn sub ab col dd k0 k1 k2 k3 k5 newId))
    (li : W.Looks (model prog w) hh (typeLookup (.ref C) "__init__") (some (.ref fI)))
    (lb : ∀ self, W.Looks (model prog w) hh (bindSpecial (.ref fI) self) (.ref fI, [self]))
    (z : codeAny (model prog w) (A.under (.builtin "type.__call__" ⟨.ref C :: rest, kw⟩)) (.call (.ref fI) ⟨.ref (hh.objs.size + 1) :: rest, kw⟩)
      (W.InitBack (hh.objs.size + 1) R) ⟨(hh.push (W.kdv_tup rest)).push (HandSPX.excO C hh.objs.size), gs, dr, tk, os⟩) :
    codeAny (model prog w) A (.call (.ref C) ⟨rest, kw⟩) R ⟨hh, gs, dr, tk, os⟩ := by
  have e1 := tc_lookup
  have e2 := tc_bind (.ref C)
  have e3 : (⟨hh, gs, dr, tk, os⟩ : Shared).TypeIs (.ref C) "type" := ⟨_, at_, rfl⟩
  refine codeAny_of_tree ?_
  show wpAny _ _ (callAny (.ref C) _) _ _ _
  repeat (any_goals (first
    | assumption
    | with_reducible refine wpAny_loadPart_at at_ ?_
    | wp_step))
  refine ⟨rfl, ?_⟩
  refine codeAny_call_builtin_at (Code.quiet_builtin _ (by decide +kernel)) entry_typeCall (callCheck at_ (callRun F tl few at_ li lb ?_))
  refine codeAny_mono z ?_
  intro r s' y
  match r, y with
  | .error e, y => exact y
  | .ok .next, y => exact y
  | .ok .brk, y => exact y
  | .ok .cont, y => exact y
  | .ok (.ret v), y => exact y
end
end Mir
set_option linter.all false
set_option maxRecDepth 100000
set_option maxHeartbeats 4000001
namespace Mir
open PySem PySem.Spec L2
open PyProof.Rows (envOfC)
open Builtin Builtin.ObjectAttr
/-- what is asked of a class of errors of the text -/
structure XcC (K : Fr') (C : Addr) : Prop where
  base : ∃ (B newId initId : String) (bmB : List Value), ExcBaseFacts B newId initId bmB ∧ StoreFacts B bmB "object.__setattr__" "object" ∧
    PySem.W.excInitIn K C bmB newId = true ∧ PySem.W.excOver K C bmB = true
  sa : PySem.W.findIn K (.ref C) "__setattr__" = some (some (.builtin "object.__setattr__"))
  ga : PySem.W.findIn K (.ref C) "__getattribute__" = some (some (.builtin "BaseException.__getattribute__"))
  gg : PySem.W.findIn K (.ref C) "__getattr__" = some none
  su : PySem.W.subIn K (.ref C) (.type "BaseException") = some true
  hd : PySem.W.hasDictIn K C = true
  ca : PySem.W.findIn K (.ref C) "__class__" = some (some (.builtin "object.__class__"))
  cn : PySem.W.specialIn K (.builtin "object.__class__") "__get__" = some (some (.builtin "getset_descriptor.__get__"))
  ct : PySem.W.takesIn K (.builtin "object.__class__") = some true
  cm : PySem.W.mroIn K C (.type "object") = some true
  kp : PySem.W.keepIn K (.ref C) = true
theorem XcC.some_ {K : Fr'} {C : Addr} (T : XcC K C) : ∃ cd, PySem.W.clsIn K C = some cd ∧ cd.hasDict = true := by
  obtain ⟨cd, h1, h2⟩ := PySem.W.any_some T.hd
  exact ⟨cd, h1, h2⟩
theorem exo_in {h : Heap} {a C t1 : Addr} {d : Option Addr} {o : Option Obj} (he : h.get? a = some ({ cls := .ref C, dict := d, data := .fields #[.ref t1, .none, .none, .none, .bool false, .none] } : Obj))
    (hd : match d, o with
      | some dx, some u => h.get? dx = some u
      | none, none => True
      | _, _ => False) : PySem.W.InstAt h a { cls := .ref C, dict := d, data := .fields #[.ref t1, .none, .none, .none, .bool false, .none] } C o :=
  by
    cases d <;> cases o <;> exact ⟨he, rfl, rfl, hd⟩
section
variable {X : Cx} {pins : List (Addr × Obj)} {σ : L2.St} {H : Hp} {s : Shared} {a C dx : Addr} {f : Str} {y : V} {u : Value} {fs : List (Str × V)}
/-- how an error stands -/
theorem exo_od {od : Option Addr} (I : Inv X pins σ H s) (e : H a = some (exo a C od)) (z : XDict H od fs) :
    ∃ (t1 : Addr) (o : Option Obj), PySem.W.InstAt s.heap a { cls := .ref C, dict := od, data := .fields #[.ref t1, .none, .none, .none, .bool false, .none] } C o := by
  obtain ⟨t1, he⟩ := exo_at I.hok e
  cases od with
  | none => exact ⟨t1, none, exo_in he True.intro⟩
  | some d =>
    obtain ⟨mA, hn, _⟩ := exd_at I.hok (show H d = some (exd d fs) from z)
    obtain ⟨o, _, _, ho, _⟩ := hn
    exact ⟨t1, some o, exo_in he ho⟩
/-- self.f = y where no dict is there as yet -/
theorem xset_new {Q : Unit → Shared → Prop} {E : Value → Shared → Prop} {A : Around} (T : XcC X.K C) (I : Inv X pins σ H s) (e : H a = some (exo a C none)) (no : PySem.W.findIn X.K (.ref C) f = some none) (ry : RelV y u)
    (q : ∀ dx s', H dx = none → dx ≠ a → Inv X pins σ (upd (upd H dx (exd dx [(f, y)])) a (exo a C (some dx))) s' → Q () s') : wpAny (model X.prog X.w) A (setAttr (.ref a) f u) Q E s := by
  obtain ⟨B, newId, initId, bmB, F, SF, qi, qo⟩ := T.base
  obtain ⟨cd, hcl, hdd⟩ := T.some_
  obtain ⟨t1, ho⟩ := exo_at I.hok e
  obtain ⟨hp, g, d, t, os⟩ := s
  have J : PySem.W.InstAt hp a { cls := .ref C, dict := none, data := .fields #[.ref t1, .none, .none, .none, .bool false, .none] } C none := exo_in ho True.intro
  refine PySem.W.set_plain I.kIn J T.sa ?_
  refine PySem.W.osa_openX (s := ⟨hp, g, d, t + 1, os⟩) SF I.kIn J qo (show PySem.W.takerIn X.K C f = some none from by unfold PySem.W.takerIn; rw [no]; rfl) fun b => ?_
  have lcl : PySem.W.Looks (model X.prog X.w) hp (classData C) cd := PySem.W.looks_clsIn I.kIn hcl
  have hxs : a ≠ hp.objs.size := Nat.ne_of_lt (Heap.lt_size ho)
  show wpAny _ _ (storeInOwnDict (.ref a) (.ref C) (.str f t) f u b) _ _ _
  obtain ⟨nm, bs, mro, ns, qn, hd, sn, sb, ab, col, del⟩ := cd
  dsimp only at hdd
  subst hdd
  unfold storeInOwnDict ownDictForStores
  repeat (first
    | with_reducible refine PySem.HandSPX.store_in_new ?_ ?_
    | with_reducible refine wpAny_loadPart_at ho ?_
    | with_reducible refine lcl.at ?_
    | wp_step)
  · refine ⟨_, #[], _, (Heap.get?_update_ne _ _ _ _ hxs.symm).trans (Heap.get?_push_at rfl rfl), rfl, fun e he => ?_, fun _ => rfl⟩
    exact absurd he (by simp)
  intro h' tk' hn' hs
  have ho1 : (hp.push { cls := .type "dict", data := .dict #[] }).get? a = some { cls := .ref C, dict := none, data := .fields #[.ref t1, .none, .none, .none, .bool false, .none] } :=
    Heap.get?_push_of_some _ ho
  have hx : h'.get? a = some { cls := .ref C, dict := some hp.objs.size, data := .fields #[.ref t1, .none, .none, .none, .bool false, .none] } :=
    (hs.2 a hxs).trans (Heap.get?_update_self _ ho1 rfl)
  have k : ∀ b o, b ≠ a → hp.get? b = some o → h'.get? b = some o := by
    intro b o hb hbo
    refine (hs.2 b (Nat.ne_of_lt (Heap.lt_size hbo))).trans ?_
    exact (Heap.get?_update_ne _ _ _ _ hb).trans (Heap.get?_push_of_some _ hbo)
  have hnd : H hp.objs.size = none := I.hok.fresh (Nat.le_refl _)
  have nd : ∀ {b : Addr} {o : Obj}, hp.get? b = some o → b ≠ hp.objs.size := fun z => Nat.ne_of_lt (Heap.lt_size z)
  have na : ∀ {b : Addr}, H b = none → b ≠ a := by
    intro b n z
    rw [z, e] at n
    cases n
  have un1 : Un X.fs [] H (upd (upd H hp.objs.size (exd hp.objs.size [(f, y)])) a (exo a C (some hp.objs.size))) hp h' := by
    refine ⟨fun b o q n _ _ => k b o (na n) q, fun b o q n _ _ => ⟨o.slots, k b o (na n) q⟩, fun b o q n _ => ?_, fun b o q _ => ?_, fun b xs q => ?_, fun b o v q => ?_, fun b ps q => ⟨#[], ?_⟩⟩
    · rw [upd_ne (na n), upd_ne (nd q)]
      exact n
    · by_cases hb : b = a
      · subst hb
        exact ⟨_, hx⟩
      · exact ⟨o, k b o hb q⟩
    · rw [upd_ne (at_ne e q exo_tup), upd_ne (ne_of_none q hnd)]
      exact q
    · rw [upd_ne (at_ne e q exo_frz), upd_ne (ne_of_none q hnd)]
      exact q
    · rw [upd_ne (at_ne e q exo_tbl), upd_ne (ne_of_none q hnd), q]
      simp
  refine q hp.objs.size ⟨h', g, d, tk', os⟩ hnd hxs.symm (I.un (t' := tk') un1 ?_)
  intro b o z
  by_cases hb : b = a
  · subst hb
    rw [upd_same] at z
    cases z
    exact exo_ok hx
  rw [upd_ne hb] at z
  by_cases hd : b = hp.objs.size
  · subst hd
    rw [upd_same] at z
    cases z
    exact exd_ok hn' (relO_put (fs := []) ry fun g => True.intro)
  rw [upd_ne hd] at z
  refine (I.hok b o z).stay (fun c v hc w => k c v ?_ w) (fun c hc => ?_) fun c xs hc => ?_
  · rcases hc with hc | hc
    · rw [hc]
      exact hb
    · exact at_ne e hc exo_own
  · rw [upd_ne (at_ne e hc exo_own), upd_ne (ne_of_none hc hnd)]
    exact hc
  · rw [upd_ne (at_ne e hc exo_tup), upd_ne (ne_of_none hc hnd)]
    exact hc
/-- .. where the dict is there -/
theorem xset_old {Q : Unit → Shared → Prop} {E : Value → Shared → Prop} {A : Around} (T : XcC X.K C) (I : Inv X pins σ H s) (e : H a = some (exo a C (some dx))) (ed : H dx = some (exd dx fs)) (few : fs.length ≤ 900) (no : PySem.W.findIn X.K (.ref C) f = some none) (ry : RelV y u)
    (q : ∀ s', Inv X pins σ (upd H dx (exd dx ((f, y) :: fs))) s' → Q () s') : wpAny (model X.prog X.w) A (setAttr (.ref a) f u) Q E s := by
  obtain ⟨B, newId, initId, bmB, F, SF, qi, qo⟩ := T.base
  obtain ⟨cd, hcl, hdd⟩ := T.some_
  obtain ⟨t1, ho⟩ := exo_at I.hok e
  obtain ⟨mA, hns, rel⟩ := exd_at I.hok ed
  have hw := within_of rel
  obtain ⟨hp, g, d, t, os⟩ := s
  obtain ⟨oD, _, _, hoD, _, _⟩ := hns.count hw
  have J : PySem.W.InstAt hp a { cls := .ref C, dict := some dx, data := .fields #[.ref t1, .none, .none, .none, .bool false, .none] } C (some oD) := exo_in ho hoD
  refine PySem.W.set_plain I.kIn J T.sa ?_
  refine PySem.W.osa_openX (s := ⟨hp, g, d, t + 1, os⟩) SF I.kIn J qo (show PySem.W.takerIn X.K C f = some none from by unfold PySem.W.takerIn; rw [no]; rfl) fun b => ?_
  have lcl : PySem.W.Looks (model X.prog X.w) hp (classData C) cd := PySem.W.looks_clsIn I.kIn hcl
  show wpAny _ _ (storeInOwnDict (.ref a) (.ref C) (.str f t) f u b) _ _ _
  obtain ⟨nm, bs, mro, ns, qn, hd, sn, sb, ab, col, del⟩ := cd
  dsimp only at hdd
  subst hdd
  unfold storeInOwnDict ownDictForStores
  repeat (first
    | with_reducible refine PySem.OEX.store_in_old hns hw (by rw [List.length_map]; omega) ?_
    | with_reducible refine wpAny_loadPart_at ho ?_
    | with_reducible refine lcl.at ?_
    | wp_step)
  intro h' tk' hn' hs
  have there : ∃ o, h'.get? dx = some o := by
    obtain ⟨o, _, _, z, _⟩ := hn'
    exact ⟨o, z⟩
  refine q ⟨h', g, d, tk', os⟩ (I.write (t' := tk') (x := dx) (e := dx) (o := exd dx ((f, y) :: fs)) ?_ (.inl rfl) (fun b o hb hbo => (hs.2 b hb).trans hbo) there (exd_ok hn' (relO_put ry rel)))
  rw [ed]
  exact True.intro
end
end Mir
set_option linter.all false
set_option maxRecDepth 100000
set_option maxHeartbeats 4000001
namespace Mir
open PySem PySem.Spec L2
open PyProof.Rows (envOfC)
/-! ### __init__ of a class of errors: self.f = p, .. -/
def tXset (K : Fr') (f : Str) (to te : TE) : TS := fun D σ H => te σ H fun y H1 => to σ H1 fun x H2 => ∃ a C : Addr, x = .ref a ∧ XcC K C ∧ PySem.W.findIn K (.ref C) f = some none ∧
  ((H2 a = some (exo a C none) ∧ ∀ dx, H2 dx = none → dx ≠ a → D.nx σ (upd (upd H2 dx (exd dx [(f, y)])) a (exo a C (some dx)))) ∨
   (∃ (dx : Addr) (fs : List (Str × V)), H2 a = some (exo a C (some dx)) ∧ H2 dx = some (exd dx fs) ∧ fs.length ≤ 900 ∧ D.nx σ (upd H2 dx (exd dx ((f, y) :: fs)))))
section
variable {X : Cx} {o e : Expr} {to te : TE} {f : Str} {p' pos : Pos}
theorem ps_xset (ho : PE X o to) (he : PE X e te) (hs : swapsWith e (some (.Attribute o f p')) pos.line X.env = pure false := by rfl) : PS X (.Assign [.Attribute o f p'] e pos) (tXset X.K f to te) := by
  constructor
  intro pins s σ H D I h
  refine plainObj_wpAny_Assign_Attribute (thn (he.run pins s σ H _ I h) ?_) hs
  rintro v s1 ⟨y, H1, I1, r1, q1⟩
  refine thn (ho.run pins s1 σ H1 _ I1 q1) ?_
  rintro u s2 ⟨x, H2, I2, r2, a, C, rfl, T, no, q⟩
  obtain rfl : u = Value.ref a := r2
  rcases q with ⟨ea, q⟩ | ⟨dx, fs, ea, ed, few, q⟩
  · exact xset_new T I2 ea no r1 fun dx s' n ne J => ⟨σ, _, J, q dx n ne⟩
  · exact xset_old T I2 ea ed few no r1 fun s' J => ⟨σ, _, J, q⟩
end
/-- the promise of such an __init__ -/
def spX (K : Fr') (ns : List Str) : Sp := fun vs H Q _ => ∃ (a C : Addr) (us : List V), vs = .ref a :: us ∧ H a = some (exo a C none) ∧ us.length = ns.length ∧ XcC K C ∧ (∀ f ∈ ns, PySem.W.findIn K (.ref C) f = some none) ∧
  ∀ (dx : Addr) (H' : Hp), H dx = none → dx ≠ a → H' a = some (exo a C (some dx)) → H' dx = some (exd dx (ns.zip us).reverse) → (∀ b, b ≠ a → b ≠ dx → H' b = H b) → Q .non H'
section
variable {P : Program} {w : World} {K : Fr'} {mg : Str → Option Value} {base : Heap} {k : Nat} {fI : Addr} {fd : FuncData} {ps N : List Str} {qual : Str} {scope : Scope} {body : List Stmt} {f g : Str}
theorem fn_x1 (mk : MkG P w K mg base k fI fd ps qual scope body N) (two : ps.length = 2)
    (hb : ∀ (cdv : Value) (A : Around) (outer : List Env) (s : Shared) (H : Hp) (E : XK), PSs (cxOf CX0 P w K mg base N qual scope fI cdv A outer s H E).nox body (tXset K f (tVar 0) (tVar 1))) :
    FnG P w K mg base CX0 (k + 1) fI fd ps (spX K [f]) := by
  refine mk _ ?_ ?_
  · rintro vs H Q E ⟨a, C, us, rfl, _, l, _⟩
    rw [List.length_cons, l, two]
    rfl
  · rintro cdv A outer s H vs Q E hr hgd ⟨a, C, us, rfl, ha, l, T, no, q⟩
    refine ⟨_, (hb cdv A outer s H E).nox, ?_⟩
    match us, l with
    | [v], _ =>
      refine ⟨v, start_ix rfl, .ref a, start_ix rfl, a, C, rfl, T, no f List.mem_cons_self, .inl ⟨ha, fun dx hd ne => ?_⟩⟩
      refine q dx _ hd ne upd_same ?_ fun b h1 h2 => ?_
      · rw [upd_ne ne, upd_same]
        rfl
      · rw [upd_ne h1, upd_ne h2]
theorem fn_x2 (mk : MkG P w K mg base k fI fd ps qual scope body N) (three : ps.length = 3)
    (hb : ∀ (cdv : Value) (A : Around) (outer : List Env) (s : Shared) (H : Hp) (E : XK), PSs (cxOf CX0 P w K mg base N qual scope fI cdv A outer s H E).nox body (tSeq (tXset K f (tVar 0) (tVar 1)) (tXset K g (tVar 0) (tVar 2)))) :
    FnG P w K mg base CX0 (k + 1) fI fd ps (spX K [f, g]) := by
  refine mk _ ?_ ?_
  · rintro vs H Q E ⟨a, C, us, rfl, _, l, _⟩
    rw [List.length_cons, l, three]
    rfl
  · rintro cdv A outer s H vs Q E hr hgd ⟨a, C, us, rfl, ha, l, T, no, q⟩
    refine ⟨_, (hb cdv A outer s H E).nox, ?_⟩
    match us, l with
    | [v, v2], _ =>
      refine ⟨v, start_ix rfl, .ref a, start_ix rfl, a, C, rfl, T, no f List.mem_cons_self, .inl ⟨ha, fun dx hd ne => ?_⟩⟩
      refine ⟨v2, start_ix rfl, .ref a, start_ix rfl, a, C, rfl, T, no g (by simp), .inr ⟨dx, [(f, v)], upd_same, ?_, Nat.le_add_left 1 899, ?_⟩⟩
      · rw [upd_ne ne, upd_same]
      · refine q dx _ hd ne ?_ upd_same fun b h1 h2 => ?_
        · rw [upd_ne ne.symm, upd_same]
        · rw [upd_ne h2, upd_ne h1, upd_ne h2]
end
/-! ### C(e, ..), C(k = e, ..) -/
section
variable {X : Cx} {pins : List (Addr × Obj)} {σ : L2.St} {H : Hp} {s : Shared} {C fI : Addr} {k : Nat} {fd : FuncData} {ps ns : List Str}
theorem run_xmk {Q : VK} {us zs : List Value} {kw : List (Str × Value)} {vs : List V} (T : XcC X.K C) (iC : PySem.W.findIn X.K (.ref C) "__init__" = some (some (.ref fI))) (tI : PySem.W.isFn X.K (.ref fI) = true)
    (F1 : FnG X.prog X.w X.K X.mg X.base CX0 k fI fd ps (spX X.K ns)) (hr : Room (k + 1) X.A) (hgd : X.A.guards = some []) (few : us.length ≤ sizeLine) (no : ∀ f ∈ ns, PySem.W.findIn X.K (.ref C) f = some none)
    (hb : ∀ (x : Addr) (s : Shared), X.K.In s.heap → BindsTo s fd ⟨.ref x :: us, kw⟩ (ps.zip (.ref x :: zs))) (I : Inv X pins σ H s) (r : Vals vs zs) (l : vs.length = ns.length)
    (h : ∀ (a dx : Addr) (H' : Hp), H a = none → H dx = none → dx ≠ a → H' a = some (exo a C (some dx)) → H' dx = some (exd dx (ns.zip vs).reverse) → (∀ b, b ≠ a → b ≠ dx → H' b = H b) → Q (.ref a) H') :
    wpAny (model X.prog X.w) X.A (call (.ref C) us kw) (EP X pins σ Q) X.xe s := by
  obtain ⟨B, newId, initId, bmB, F, SF, qi, qo⟩ := T.base
  obtain ⟨nm, N, qn, bs, bm, hdct, sn, sub, ab, col, dd, k0, k1, k2, k3, k5, hC, tl⟩ := PySem.W.excInit_of I.kIn qi
  obtain ⟨hp, g, dr, tk, os⟩ := s
  have hsz : hp.objs.size ≤ hp.objs.size + 1 := Nat.le_succ _
  have hn : H (hp.objs.size + 1) = none := I.hok.fresh hsz
  have kk : ∀ b o, hp.get? b = some o → ((hp.push (PySem.W.kdv_tup us)).push (PySem.HandSPX.excO C hp.objs.size)).get? b = some o := by
    intro b o e
    exact Heap.get?_push_of_some _ (Heap.get?_push_of_some _ e)
  have hget : ((hp.push (PySem.W.kdv_tup us)).push (PySem.HandSPX.excO C hp.objs.size)).get? (hp.objs.size + 1) = some (PySem.HandSPX.excO C hp.objs.size) := by
    heap_get
  have I2 := I.laid (t' := tk) (a := hp.objs.size + 1) (o := exo (hp.objs.size + 1) C none) (h' := (hp.push (PySem.W.kdv_tup us)).push (PySem.HandSPX.excO C hp.objs.size)) kk hsz (exo_ok hget)
  have hq : spX X.K ns (.ref (hp.objs.size + 1) :: vs) (upd H (hp.objs.size + 1) (exo (hp.objs.size + 1) C none)) (fun v H2 => v = .non ∧ Q (.ref (hp.objs.size + 1)) H2) (fun _ _ _ => False) := by
    refine ⟨_, C, vs, rfl, upd_same, l, T, no, fun dx H' h1 h2 h3 h4 h5 => ⟨rfl, ?_⟩⟩
    refine h _ dx H' hn ?_ h2 h3 h4 fun b h6 h7 => ?_
    · rw [upd_ne h2] at h1
      exact h1
    · rw [h5 b h6 h7, upd_ne h6]
  have r2 : Vals (V.ref (hp.objs.size + 1) :: vs) (Value.ref (hp.objs.size + 1) :: zs) := .cons rfl r
  refine wpAny_call (exnCall F tl few hC (PySem.W.looks_findIn I.kIn iC) (fun self => PySem.W.bind_fn I.kIn self (beq_iff_eq.mp tI)) ?_)
  refine codeAny_mono (F1.go _ X.stack _ _ ⟨Value.ref (hp.objs.size + 1) :: us, kw⟩ (Value.ref (hp.objs.size + 1) :: zs) _ _ _ (hr.make C us kw) (make_guards hgd) (I2.env0.make C us kw) (hb _ _ I2.kIn) r2 hq) ?_
  intro r s' hq'
  match r, hq' with
  | .error e, hq' => exact pass0 (X := X) pins σ _ _ e s' I2 hq'
  | .ok (.ret u), hq' =>
    obtain ⟨v, H', I3, rv, rfl, q3⟩ := I2.after hq'
    exact ⟨rv, V.ref (hp.objs.size + 1), H', I3, rfl, q3⟩
  | .ok .next, hq' => exact hq'.elim
  | .ok .brk, hq' => exact hq'.elim
  | .ok .cont, hq' => exact hq'.elim
/-- the reading -/
def tXmk (C : Addr) (ns : List Str) (pi : List V → List V) (t : TA) : TE := fun σ H Q => t σ H fun vs H1 => vs.length = ns.length ∧ (pi vs).length = ns.length ∧
  ∀ (a dx : Addr) (H' : Hp), H1 a = none → H1 dx = none → dx ≠ a → H' a = some (exo a C (some dx)) → H' dx = some (exd dx (ns.zip (pi vs)).reverse) → (∀ b, b ≠ a → b ≠ dx → H' b = H1 b) → Q (.ref a) H'
variable {x : Str} {p pos : Pos} {e : Expr} {es : List Expr} {kws : List Keyword} {t : TA} {ks : List Str} {g : List Value → List Value → List Value} {gV : List V → List V → List V}
theorem pe_xmk (T : XcC X.K C) (iC : PySem.W.findIn X.K (.ref C) "__init__" = some (some (.ref fI))) (tI : PySem.W.isFn X.K (.ref fI) = true) (F1 : FnG X.prog X.w X.K X.mg X.base CX0 k fI fd ps (spX X.K ns)) (hr : Room (k + 1) X.A) (hgd : X.A.guards = some [])
    (no : ∀ f ∈ ns, PySem.W.findIn X.K (.ref C) f = some none) (hps : ps.length = ns.length + 1) (hlt : ns.length ≤ 100) (hb : Binds X.K fd ps []) (hg : Gl X x) (hm : X.mg x = some (.ref C)) (ha : PA X (e :: es) t)
    (hdb : (x == ("__debug__" : Str)) = false := by decide) (he : starEach (e :: es) X.env = (false, eval e X.env) :: starEach es X.env := by rfl) (hpl : (backTo pos (starEach es X.env)).any (·.1) = false := by rfl) :
    PE X (.Call (.Name x p) (e :: es) [] pos) (tXmk C ns id t) := by
  constructor
  intro pins s σ H Q I h
  refine wpAny_Call_Name_kw (ld_glob I hg hm ?_ hdb)
  refine PySem.W.callWith_K (h₀ := X.base) I.ok.mod.kin T.kp (thn (ha.run pos pins s σ H _ I h) ?_) he hpl
  rintro us s1 ⟨vs, H1, I1, r, l, _, q⟩
  have lu : us.length = ns.length := by
    rw [← r.length]
    exact l
  refine ⟨I1.kIn, run_xmk (kw := []) (zs := us) T iC tI F1 hr hgd ?_ no (fun y s X1 => ?_) I1 r l q⟩
  · rw [List.nil_append, sizeLine_eq]
    omega
  · have z := hb s (Value.ref y :: us) X1 (by simp [lu, hps])
    rw [List.append_nil] at z
    exact z
theorem pe_xmkK (T : XcC X.K C) (iC : PySem.W.findIn X.K (.ref C) "__init__" = some (some (.ref fI))) (tI : PySem.W.isFn X.K (.ref fI) = true) (F1 : FnG X.prog X.w X.K X.mg X.base CX0 k fI fd ps (spX X.K ns)) (hr : Room (k + 1) X.A) (hgd : X.A.guards = some [])
    (no : ∀ f ∈ ns, PySem.W.findIn X.K (.ref C) f = some none) (hlk : ks.length = ns.length) {pi : {α : Type} → List α → List α} (hb : KBn X.K fd ps 1 ks (fun us ws => us ++ pi ws) (fun us ws => us ++ pi ws)) (hpi : ∀ {vs : List V} {ws : List Value}, Vals vs ws → Vals (pi vs) (pi ws))
    (hg : Gl X x) (hm : X.mg x = some (.ref C)) (hkw : PK X kws t)
    (hall : (backToKw pos (keywordEach kws X.env)).all (·.1.isSome) = true := by rfl) (hks : (backToKw pos (keywordEach kws X.env)).filterMap (·.1) = ks := by rfl)
    (hpl : ((backTo pos (starEach [] X.env)).any (·.1) || (backToKw pos (keywordEach kws X.env)).any (·.1.isNone)) = false := by rfl) (hdb : (x == ("__debug__" : Str)) = false := by decide) :
    PE X (.Call (.Name x p) [] kws pos) (tXmk C ns pi t) := by
  constructor
  intro pins s σ H Q I h
  refine wpAny_Call_Name_kw (ld_glob I hg hm ?_ hdb)
  refine PySem.W.callWith_KW0 (first := []) (h₀ := X.base) I.ok.mod.kin T.kp hall (thn (hkw.run pos pins s σ H _ I h) ?_) hpl
  rintro ws s2 ⟨vs, H2, I2, r, l, l2, q⟩
  have lw : ws.length = ks.length := by
    rw [← r.length, hlk]
    exact l
  refine ⟨I2.kIn, ?_⟩
  rw [hks]
  refine run_xmk (us := []) (zs := pi ws) T iC tI F1 hr hgd (Nat.zero_le _) no (fun y s X1 => ?_) I2 (hpi r) l2 q
  have z := hb.to s [Value.ref y] ws X1 rfl lw
  exact z
end
end Mir
set_option linter.all false
set_option maxRecDepth 100000
set_option maxHeartbeats 4000001
namespace Mir
open PySem PySem.Spec L2
/-! ### errors as data -/
def mXmk (c : Str) (ns : List Str) (pi : List D → List D) (m : M (List D)) : M D := bnd m fun ds => if ds.length = ns.length ∧ (pi ds).length = ns.length then pur (.exn c ns.reverse (pi ds).reverse) else fun _ => none
theorem grow_exn {F H H' : Hp} {a dx C : Addr} {fs : List (Str × V)} (fh : Ex F H) (h1 : H a = none) (h2 : H dx = none) (ne : dx ≠ a) (h3 : H' a = some (exo a C (some dx))) (h4 : H' dx = some (exd dx fs)) (h5 : ∀ b, b ≠ a → b ≠ dx → H' b = H b) :
    Grow F H (upd (upd F dx (exd dx fs)) a (exo a C (some dx))) H' := by
  have fa : F a = none := Evl.fresh_back fh h1
  have fd : F dx = none := Evl.fresh_back fh h2
  refine ⟨fun b u e => ?_, fun b u e => ?_, fun b u e => ?_, fun b hb => ?_⟩
  · rw [upd_ne (ne_of_none e fa), upd_ne (ne_of_none e fd)]
    exact e
  · by_cases z : b = a
    · subst z
      rw [upd_same] at e
      rw [h3]
      exact e
    rw [upd_ne z] at e
    by_cases z2 : b = dx
    · subst z2
      rw [upd_same] at e
      rw [h4]
      exact e
    rw [upd_ne z2] at e
    rw [h5 b z z2]
    exact fh b u e
  · rw [h5 b (ne_of_none e h1) (ne_of_none e h2)]
    exact e
  · by_cases z : b = a
    · exact .inr (by rw [z]; exact h1)
    rw [upd_ne z] at hb
    by_cases z2 : b = dx
    · exact .inr (by rw [z2]; exact h2)
    rw [upd_ne z2] at hb
    exact .inl hb
theorem zip_rev {α β : Type} : ∀ {xs : List α} {ys : List β}, xs.length = ys.length → (xs.zip ys).reverse = xs.reverse.zip ys.reverse
  | [], [], _ => rfl
  | x :: xs, y :: ys, h => by
    have h' : xs.length = ys.length := by simpa using h
    rw [List.zip_cons_cons, List.reverse_cons, List.reverse_cons, List.reverse_cons, List.zip_append (by simpa using h'), zip_rev h']
    rfl
  | [], _ :: _, h => by simp at h
  | _ :: _, [], h => by simp at h
theorem rep_exn {K : Fr'} {mg : Str → Option Value} {F : Hp} {a dx C : Addr} {c : Str} {ns : List Str} {ds : List D} {vs : List V} (hm : mg c = some (.ref C)) (ne : dx ≠ a) (fa : F a = none) (fd : F dx = none) (hl : ds.length = ns.length) (r : RepL K mg F ds vs) :
    Rep K mg (upd (upd F dx (exd dx (ns.zip vs).reverse)) a (exo a C (some dx))) (.exn c ns.reverse ds.reverse) (.ref a) := by
  have ff : Ex F (upd (upd F dx (exd dx (ns.zip vs).reverse)) a (exo a C (some dx))) := by
    intro b u e
    rw [upd_ne (ne_of_none e fa), upd_ne (ne_of_none e fd)]
    exact e
  have lv : ns.length = vs.length := by rw [← r.len, hl]
  unfold Rep
  refine ⟨a, C, some dx, vs.reverse, rfl, hm, upd_same, ?_, by simpa using lv, (r.mono ff).rev⟩
  show (upd (upd F dx (exd dx (ns.zip vs).reverse)) a (exo a C (some dx))) dx = some (exd dx (ns.reverse.zip vs.reverse))
  rw [upd_ne ne, upd_same, zip_rev lv]
section
variable {X : Cx} {C fI : Addr} {k : Nat} {fd : FuncData} {ps ns ks : List Str} {x c : Str} {p pos : Pos} {e : Expr} {es : List Expr} {kws : List Keyword} {t : TA} {mL : M (List D)} {pi : {α : Type} → List α → List α}
theorem ev_xmk {pv : List V → List V} {pd : List D → List D} (hm : X.mg c = some (.ref C)) (hpi : ∀ F ds vs, RepL X.K X.mg F ds vs → RepL X.K X.mg F (pd ds) (pv vs)) (ev : EvL X.K X.mg t mL) : EvD X.K X.mg (tXmk C ns pv t) (mXmk c ns pd mL) := by
  intro B F H σ sd d sd' S h Q q
  obtain ⟨ds, sd1, h1, h2⟩ := bnd_some h
  by_cases z : ds.length = ns.length ∧ (pd ds).length = ns.length
  case neg =>
    rw [if_neg z] at h2
    cases h2
  rw [if_pos z] at h2
  obtain ⟨rfl, rfl⟩ := pur_some h2
  refine ev B F H σ sd ds _ S h1 _ fun vs F1 H1 S1 e1 r1 => ?_
  have r2 := hpi _ _ _ r1
  refine ⟨by rw [← r1.len]; exact z.1, by rw [← r2.len]; exact z.2, fun a dx H' k1 k2 k3 k4 k5 k6 => ?_⟩
  have g := grow_exn S1.fh k1 k2 k3 k4 k5 k6
  exact q _ _ H' (S1.grow g) (e1.trans g.ff) (rep_exn hm k3 (Evl.fresh_back S1.fh k1) (Evl.fresh_back S1.fh k2) z.2 r2)
theorem pd_xmk (T : XcC X.K C) (iC : PySem.W.findIn X.K (.ref C) "__init__" = some (some (.ref fI)) ∧ PySem.W.isFn X.K (.ref fI) = true) (F1 : FnG X.prog X.w X.K X.mg X.base CX0 k fI fd ps (spX X.K ns)) (hr : Room (k + 1) X.A) (hgd : X.A.guards = some [])
    (no : ∀ f ∈ ns, PySem.W.findIn X.K (.ref C) f = some none) (hps : ps.length = ns.length + 1) (hlt : ns.length ≤ 100) (hb : Binds X.K fd ps []) (hg : Gl X c) (hm : X.mg c = some (.ref C)) (ha : PAd X (e :: es) t mL)
    (hdb : (c == ("__debug__" : Str)) = false := by decide) (he : starEach (e :: es) X.env = (false, eval e X.env) :: starEach es X.env := by rfl) (hpl : (backTo pos (starEach es X.env)).any (·.1) = false := by rfl) :
    PEd X (.Call (.Name c p) (e :: es) [] pos) (tXmk C ns id t) (mXmk c ns id mL) :=
  ⟨pe_xmk T iC.1 iC.2 F1 hr hgd no hps hlt hb hg hm ha.1 hdb he hpl, ev_xmk hm (fun _ _ _ r => r) ha.2⟩
theorem pd_xmkK (T : XcC X.K C) (iC : PySem.W.findIn X.K (.ref C) "__init__" = some (some (.ref fI)) ∧ PySem.W.isFn X.K (.ref fI) = true) (F1 : FnG X.prog X.w X.K X.mg X.base CX0 k fI fd ps (spX X.K ns)) (hr : Room (k + 1) X.A) (hgd : X.A.guards = some [])
    (no : ∀ f ∈ ns, PySem.W.findIn X.K (.ref C) f = some none) (hlk : ks.length = ns.length) (hb : KBn X.K fd ps 1 ks (fun us ws => us ++ pi ws) (fun us ws => us ++ pi ws)) (hpi : ∀ {vs : List V} {ws : List Value}, Vals vs ws → Vals (pi vs) (pi ws))
    (hpd : ∀ F ds vs, RepL X.K X.mg F ds vs → RepL X.K X.mg F (pi ds) (pi vs)) (hg : Gl X c) (hm : X.mg c = some (.ref C)) (hkw : PKd X kws t mL)
    (hall : (backToKw pos (keywordEach kws X.env)).all (·.1.isSome) = true := by rfl) (hks : (backToKw pos (keywordEach kws X.env)).filterMap (·.1) = ks := by rfl)
    (hpl : ((backTo pos (starEach [] X.env)).any (·.1) || (backToKw pos (keywordEach kws X.env)).any (·.1.isNone)) = false := by rfl) (hdb : (c == ("__debug__" : Str)) = false := by decide) :
    PEd X (.Call (.Name c p) [] kws pos) (tXmk C ns pi t) (mXmk c ns pi mL) :=
  ⟨pe_xmkK T iC.1 iC.2 F1 hr hgd no hlk hb hpi hg hm hkw.1 hall hks hpl hdb, ev_xmk hm hpd hkw.2⟩
/-! C() of a class without __init__ -/
def tXmk0 (C : Addr) : TE := fun σ H Q => ∀ (a : Addr) (H' : Hp), H a = none → H' a = some (exo a C none) → (∀ b, b ≠ a → H' b = H b) → Q (.ref a) H'
structure Xc0 (K : Fr') (C : Addr) : Prop where
  base : ∃ (B newId initId : String) (bmB : List Value), ExcBaseFacts B newId initId bmB ∧ PySem.W.excIn K C bmB newId = true
theorem pe_xmk0 (T : XcC X.K C) (Z : Xc0 X.K C) (hg : Gl X c) (hm : X.mg c = some (.ref C)) (hdb : (c == ("__debug__" : Str)) = false := by decide) : PE X (.Call (.Name c p) [] [] pos) (tXmk0 C) := by
  constructor
  intro pins s σ H Q I h
  refine wpAny_Call_Name_kw (ld_glob I hg hm (PySem.W.callWith_K0 (first := []) I.kIn T.kp ?_) hdb)
  obtain ⟨B, newId, initId, bmB, F, q⟩ := Z.base
  obtain ⟨hp, g, dr, tk, os⟩ := s
  obtain ⟨bm, N, nm, qn, bs, hdct, sn, sub, ab, col, dd, k0, k1, k2, k3, k5, mN, hC, hN, hni, T1⟩ := exc_obj I.kIn q
  refine wpAny_call_exc_subT F T1 hC hN hni (fun h' a made => ?_) (Nat.zero_le _)
  obtain ⟨t1, ht, _, _⟩ := made.there
  have na := I.hok.gone made.new
  have J := I.laidN (t' := tk) made.keeps made.new na (exo_ok ht)
  exact ⟨.ref a, _, J, rfl, h a _ na upd_same fun b hb => upd_ne hb⟩
theorem pd_xmk0 (T : XcC X.K C) (Z : Xc0 X.K C) (hg : Gl X c) (hm : X.mg c = some (.ref C)) (hdb : (c == ("__debug__" : Str)) = false := by decide) : PEd X (.Call (.Name c p) [] [] pos) (tXmk0 C) (pur (.exn c [] [])) := by
  refine ⟨pe_xmk0 T Z hg hm hdb, fun B F H σ sd d sd' S h Q q => ?_⟩
  obtain ⟨rfl, rfl⟩ := pur_some h
  intro a H' h1 h2 h3
  have fa : F a = none := Evl.fresh_back S.fh h1
  have g : Grow F H (upd F a (exo a C none)) H' := by
    refine ⟨Evl.Ex.new fa, fun b u e => ?_, fun b u e => ?_, fun b hb => ?_⟩
    · by_cases z : b = a
      · subst z
        rw [upd_same] at e
        rw [h2]
        exact e
      rw [upd_ne z] at e
      rw [h3 b z]
      exact S.fh b u e
    · rw [h3 b (ne_of_none e h1)]
      exact e
    · by_cases z : b = a
      · exact .inr (by rw [z]; exact h1)
      rw [upd_ne z] at hb
      exact .inl hb
  refine q _ _ H' (S.grow g) g.ff ?_
  unfold Rep
  exact ⟨a, C, none, [], rfl, hm, upd_same, rfl, rfl, RepL.nil⟩
end
/-! ### e.f -/
def tXfld (K : Fr') (f : Str) (te : TE) : TE := fun σ H Q => te σ H fun x H1 => ∃ (a C d : Addr) (fs : List (Str × V)) (v : V), x = .ref a ∧ H1 a = some (exo a C (some d)) ∧ H1 d = some (exd d fs) ∧ XcC K C ∧ PySem.W.findIn K (.ref C) f = some none ∧ fs.lookup f = some v ∧ Q v H1
/-- of which classes f is a field -/
def XfOk (K : Fr') (mg : Str → Option Value) (f : Str) (cs : List Str) : Prop := ∀ c ∈ cs, ∀ C, mg c = some (.ref C) → XcC K C ∧ PySem.W.findIn K (.ref C) f = some none
def xfldD (cs : List Str) (f : Str) : D → Option D
  | .exn c ns xs => if c ∈ cs then (ns.zip xs).lookup f else none
  | _ => none
section
variable {X : Cx} {e : Expr} {te : TE} {me : M D} {pos : Pos} {f : Str} {cs : List Str}
theorem pe_xfld (he : PE X e te) (hb : attributeBase e f X.env (eval e X.env) = eval e X.env := by rfl) : PE X (.Attribute e f pos) (tXfld X.K f te) := by
  constructor
  intro pins s σ H Q I h
  refine attr_of hb (thn (he.run pins s σ H _ I h) ?_)
  rintro u s1 ⟨x, H1, I1, rx, a, C, d, fs, v, rfl, ea, ed, T, no, l, q⟩
  obtain rfl : u = Value.ref a := rx
  obtain ⟨t1, ho⟩ := exo_at I1.hok ea
  obtain ⟨mA, hns, hr⟩ := exd_at I1.hok ed
  obtain ⟨od, ho2, hl⟩ := lookIn_ns hns
  obtain ⟨u, hu, ru⟩ := RelO.some_of (v := v) (o := mA f) (by rw [← l]; exact hr f)
  have J : PySem.W.InstAt s1.heap a { cls := .ref C, dict := some d, data := .fields #[.ref t1, .none, .none, .none, .bool false, .none] } C (some od) := exo_in ho ho2
  exact HandSPX.exc_get I1.kIn J T.ga T.gg T.su (PySem.W.findObj_own T.hd no rfl (by rw [hl, hu])) (handed_of ru) ⟨v, H1, I1.tok _, ru, q⟩
theorem pd_xfld (hX : XfOk X.K X.mg f cs) (he : PEd X e te me) (hb : attributeBase e f X.env (eval e X.env) = eval e X.env := by rfl) : PEd X (.Attribute e f pos) (tXfld X.K f te) (op1 (xfldD cs f) me) := by
  refine ⟨pe_xfld he.1 hb, fun B F H σ sd d sd' S h Q q => ?_⟩
  obtain ⟨x, sd1, k1, k2⟩ := bnd_some h
  obtain ⟨k3, rfl⟩ := lft_some k2
  refine he.2 B F H σ sd x _ S k1 _ fun v F1 H1 S1 e1 r1 => ?_
  cases x with
  | exn c ns xs =>
    have k4 : (if c ∈ cs then (ns.zip xs).lookup f else none) = some d := k3
    by_cases z : c ∈ cs
    case neg =>
      rw [if_neg z] at k4
      cases k4
    rw [if_pos z] at k4
    unfold Rep at r1
    obtain ⟨a, C, od, vs, rfl, m1, m2, m3, m4, m5⟩ := r1
    obtain ⟨T, no⟩ := hX c z C m1
    obtain ⟨w, l, rw_⟩ := lookup_zip_rep m5 k4
    cases od with
    | none =>
      have z2 : ns.zip vs = [] := m3
      rw [z2] at l
      cases l
    | some dx => exact ⟨a, C, dx, _, w, rfl, S1.fh _ _ m2, S1.fh _ _ (show F1 dx = some (exd dx (ns.zip vs)) from m3), T, no, l, q w F1 H1 S1 e1 rw_⟩
  | _ => cases k3
end
/-! ### isinstance(e, C) -/
def rIsX (K : Fr') : List V → Hp → VK → Prop := fun xs H Q => ∃ (a C : Addr) (od : Option Addr) (fs : List (Str × V)) (c : V) (u : Value) (b : Bool), xs = [.ref a, c] ∧ H a = some (exo a C od) ∧ XDict H od fs ∧ XcC K C ∧ ClsV c u ∧ PySem.W.kitOne K (.ref C) u = some b ∧ Q (.bl b) H
theorem call_isX {X : Cx} : CallR X (.builtin "isinstance") (rIsX X.K) := by
  intro pins s σ H xs us Q I r h
  obtain ⟨a, C, od, fs, c, u, b, rfl, ha, hd, T, hc, hk, q⟩ := h
  cases r with
  | cons rx rr =>
    cases rr with
    | cons rt rr =>
      cases rr
      rename_i v1 v2
      obtain rfl : v1 = Value.ref a := rx
      obtain rfl : v2 = u := by
        cases hc
        · exact rt
        · exact rt
      obtain ⟨cd, hcl, _⟩ := T.some_
      obtain ⟨t1, o, J⟩ := exo_od I ha hd
      refine PySem.W.kia_one (PySem.W.kitx_exc (by rw [hcl]; rfl) T.ga T.gg T.su T.ca T.cn T.ct T.cm) I.kIn J hk (fun z => nomatch z) fun tk => ?_
      exact ⟨.bl b, H, I.kept (t' := tk) fun _ _ z => z, rfl, q⟩
/-- a table of classes of errors and answers -/
def XtOk (K : Fr') (mg : Str → Option Value) (u : Value) (tab : List (Str × Bool)) : Prop := ∀ p ∈ tab, ∀ C, mg p.1 = some (.ref C) → XcC K C ∧ PySem.W.kitOne K (.ref C) u = some p.2
def isxD (tab : List (Str × Bool)) : D → Option D
  | .exn c _ _ => (tab.lookup c).map .bl
  | _ => none
section
variable {X : Cx} {a b : Expr} {ta : TE} {ma : M D} {pos p : Pos}
theorem pd_isx {v : V} {u : Value} {tab : List (Str × Bool)} (hg : Gl X "isinstance") (hm : X.mg "isinstance" = none) (ha : PEd X a ta ma) (hc : PE X b (tC v)) (hv : ClsV v u) (ht : XtOk X.K X.mg u tab)
    (h1 : starEach [a, b] X.env = (false, eval a X.env) :: starEach [b] X.env := by rfl) (h2 : starEach [b] X.env = (false, eval b X.env) :: starEach [] X.env := by rfl) (hpl : (backTo pos (starEach [b] X.env)).any (·.1) = false := by rfl) :
    PEd X (.Call (.Name "isinstance" p) [a, b] [] pos) (tCB (rIsX X.K) (tCons ta (tCons (tC v) tNil))) (op1 (isxD tab) ma) := by
  refine ⟨pe_callB call_isX hg hm boot_isi (pa_cons ha.1 (pa_cons hc pa_nil h2) h1) (by decide) (by decide) h1 hpl, fun B F H σ sd d sd' S h Q q => ?_⟩
  obtain ⟨x, sd1, k1, k2⟩ := bnd_some h
  obtain ⟨k3, rfl⟩ := lft_some k2
  refine ha.2 B F H σ sd x _ S k1 _ fun w F1 H1 S1 e1 r1 => ?_
  cases x with
  | exn c ns xs =>
    have k4 : (tab.lookup c).map D.bl = some d := k3
    cases e2 : tab.lookup c with
    | none =>
      rw [e2] at k4
      cases k4
    | some z =>
      rw [e2] at k4
      cases k4
      unfold Rep at r1
      obtain ⟨a, C, od, vs, rfl, m1, m2, m3, m4, m5⟩ := r1
      obtain ⟨T, hk⟩ := ht (c, z) (mem_of_lookup e2) C m1
      exact ⟨a, C, od, _, v, u, z, rfl, S1.fh _ _ m2, m3.mono S1.fh, T, hv, hk, q _ F1 H1 S1 e1 Rep.bl⟩
  | _ => cases k3
end
/-! ### what is looked at -/
def bm_VE : List Value := [.type "ValueError", .type "Exception", .type "BaseException", .type "object"]
def bm_LE : List Value := [.type "LookupError", .type "Exception", .type "BaseException", .type "object"]
def bm_RE : List Value := [.type "RuntimeError", .type "Exception", .type "BaseException", .type "object"]
def bm_AE : List Value := [.type "ArithmeticError", .type "Exception", .type "BaseException", .type "object"]
def xbB (C : Addr) (bm : List Value) (nw : String) (K : Fg) : Bool := PySem.W.excInitIn K C bm nw && PySem.W.excOver K C bm
def xcB (x : Str) (K : Fg) : Bool := (xbB (He.ga K x) bm_VE "ValueError.__new__" K || (xbB (He.ga K x) bm_LE "LookupError.__new__" K || (xbB (He.ga K x) bm_RE "RuntimeError.__new__" K || xbB (He.ga K x) bm_AE "ArithmeticError.__new__" K))) &&
  ((He.eqO (PySem.W.findIn K (.ref (He.ga K x)) "__setattr__") (some (some (.builtin "object.__setattr__"))) && (He.eqO (PySem.W.findIn K (.ref (He.ga K x)) "__getattribute__") (some (some (.builtin "BaseException.__getattribute__"))) &&
   (He.eqO (PySem.W.findIn K (.ref (He.ga K x)) "__getattr__") (some none) && decide (PySem.W.subIn K (.ref (He.ga K x)) (.type "BaseException") = some true)))) &&
  ((PySem.W.hasDictIn K (He.ga K x) && (PySem.W.keepIn K (.ref (He.ga K x)) && (true && true))) && isiB x K))
theorem and3 {a b c : Bool} (h : (a && (b && c)) = true) : a = true ∧ b = true ∧ c = true := by
  cases a <;> cases b <;> cases c <;> simp_all
theorem xcB_ok {x : Str} {K : Fg} (h : xcB x K = true) : XcC K (He.ga K x) := by
  obtain ⟨h1, h2, h3⟩ := and3 h
  obtain ⟨a1, a2, a3, a4⟩ := and4 h2
  rw [Bool.and_eq_true] at h3
  obtain ⟨h3, h4⟩ := h3
  obtain ⟨b1, b2, _, _⟩ := and4 h3
  obtain ⟨c1, c2, c3, c4⟩ := and4 h4
  refine ⟨?_, He.eqO_ok a1, He.eqO_ok a2, He.eqO_ok a3, of_decide_eq_true a4, b1, He.eqO_ok c1, He.eqO_ok c2, of_decide_eq_true c3, of_decide_eq_true c4, b2⟩
  have two : ∀ {bm : List Value} {nw : String}, xbB (He.ga K x) bm nw K = true → PySem.W.excInitIn K (He.ga K x) bm nw = true ∧ PySem.W.excOver K (He.ga K x) bm = true := by
    intro bm nw z
    unfold xbB at z
    rw [Bool.and_eq_true] at z
    exact z
  rw [Bool.or_eq_true, Bool.or_eq_true, Bool.or_eq_true] at h1
  rcases h1 with z | z | z | z
  · exact ⟨_, _, _, bm_VE, PySem.F.excBase_ValueError, PySem.F.store_ValueError, two z⟩
  · exact ⟨_, _, _, bm_LE, PySem.F.excBase_LookupError, PySem.F.store_LookupError, two z⟩
  · exact ⟨_, _, _, bm_RE, PySem.F.excBase_RuntimeError, PySem.F.store_RuntimeError, two z⟩
  · exact ⟨_, _, _, bm_AE, PySem.F.excBase_ArithmeticError, PySem.F.store_ArithmeticError, two z⟩
def xc0B (x : Str) (K : Fg) : Bool := PySem.W.excIn K (He.ga K x) bm_VE "ValueError.__new__" || (PySem.W.excIn K (He.ga K x) bm_LE "LookupError.__new__" || (PySem.W.excIn K (He.ga K x) bm_RE "RuntimeError.__new__" || PySem.W.excIn K (He.ga K x) bm_AE "ArithmeticError.__new__"))
theorem xc0B_ok {x : Str} {K : Fg} (h : xc0B x K = true) : Xc0 K (He.ga K x) := by
  unfold xc0B at h
  rw [Bool.or_eq_true, Bool.or_eq_true, Bool.or_eq_true] at h
  rcases h with z | z | z | z
  · exact ⟨_, _, _, bm_VE, PySem.F.excBase_ValueError, z⟩
  · exact ⟨_, _, _, bm_LE, PySem.F.excBase_LookupError, z⟩
  · exact ⟨_, _, _, bm_RE, PySem.F.excBase_RuntimeError, z⟩
  · exact ⟨_, _, _, bm_AE, PySem.F.excBase_ArithmeticError, z⟩
/-- all classes of errors: each is known, and is a class of errors -/
def XKnown (K : Fg) (mg : Str → Option Value) : List Str → Prop
  | [] => True
  | c :: cs => (mg c = some (.ref (He.ga K c)) ∧ XcC K (He.ga K c)) ∧ XKnown K mg cs
theorem XKnown.of {K : Fg} {mg : Str → Option Value} : ∀ {cs : List Str}, XKnown K mg cs → ∀ c ∈ cs, mg c = some (.ref (He.ga K c)) ∧ XcC K (He.ga K c)
  | [], _, c, h => by cases h
  | x :: xs, k, c, h => by
    rcases List.mem_cons.mp h with rfl | h
    · exact k.1
    · exact XKnown.of k.2 c h
def xfB' (f : Str) (cs : List Str) (K : Fg) : Bool := cs.all fun c => He.eqO (PySem.W.findIn K (.ref (He.ga K c)) f) (some none)
theorem xf_ok {f : Str} {cs all : List Str} {K : Fg} {mg : Str → Option Value} (kn : XKnown K mg all) (sub : ∀ c ∈ cs, c ∈ all) (h : xfB' f cs K = true) : XfOk K mg f cs := by
  intro c hc C hm
  obtain ⟨k1, k2⟩ := kn.of c (sub c hc)
  rw [k1] at hm
  cases hm
  exact ⟨k2, He.eqO_ok (List.all_eq_true.mp h c hc)⟩
def xtB (u : Fg → Value) (tab : List (Str × Bool)) (K : Fg) : Bool := tab.all fun p => decide (PySem.W.kitOne K (.ref (He.ga K p.1)) (u K) = some p.2)
theorem xt_ok {u : Fg → Value} {tab : List (Str × Bool)} {all : List Str} {K : Fg} {mg : Str → Option Value} (kn : XKnown K mg all) (sub : ∀ p ∈ tab, p.1 ∈ all) (h : xtB u tab K = true) : XtOk K mg (u K) tab := by
  intro p hp C hm
  obtain ⟨k1, k2⟩ := kn.of p.1 (sub p hp)
  rw [k1] at hm
  cases hm
  exact ⟨k2, of_decide_eq_true (List.all_eq_true.mp h p hp)⟩
end Mir
set_option linter.all false
set_option maxRecDepth 100000
set_option maxHeartbeats 4000001
namespace Mir
open PySem PySem.Spec L2
/-! ### dicts: how they are shown -/
def kP : Key → PyData
  | .inl i => .int i
  | .inr x => .str x
mutual
def pyE : Nat → D → Option PyData
  | _, .non => some .none
  | _, .bl b => some (.bool b)
  | _, .int i => some (.int i)
  | _, .str x => some (.str x)
  | n + 1, .lst xs => (pyEL n xs).map .list
  | n + 1, .tup xs => (pyEL n xs).map .tuple
  | n + 1, .dct ks xs => if ks.length = xs.length then (pyEL n xs).map fun ps => .dict ((ks.map kP).zip ps) else none
  | _, _ => none
def pyEL : Nat → List D → Option (List PyData)
  | _, [] => some []
  | n, x :: xs => match pyE n x, pyEL n xs with
    | some p, some ps => some (p :: ps)
    | _, _ => none
end
/-- what stands at the table of the modules is no list -/
def SysOk (K : Fr') : Prop := ∃ o, K.lookup sysModules = some o ∧ o.cls ≠ .type "list"
def sysB (K : Fg) : Bool := match K.lookup sysModules with
  | some o => !(o.cls == .type "list")
  | none => false
theorem sysB_ok {K : Fg} (h : sysB K = true) : SysOk K := by
  unfold sysB at h
  split at h
  · rename_i o e
    refine ⟨o, e, fun z => ?_⟩
    rw [z] at h
    exact absurd h (by decide)
  · cases h
theorem kv_split {P : Program} {w : World} {h : Heap} : ∀ {ks : List Key} {ws : List V} {vs0 : List (Key × Value)} {es : List DictEntry}, ks.length = ws.length → KV (ks.zip ws) vs0 → Pairs (mixKind P w) es vs0 →
    Vals ws (es.map (·.val)) ∧ ReadsAll h (es.map (·.key)) (ks.map kP) []
  | [], [], _, _, _, r, q => by
    unfold KV at r
    cases r
    cases q
    exact ⟨.nil, .nil⟩
  | k :: ks, w :: ws, _, _, l, r, q => by
    unfold KV at r
    rw [List.zip_cons_cons] at r
    cases r with
    | cons r1 r2 =>
      cases q with
      | @cons e0 kv0 es0 kvs0 q1 q2 q3 =>
        obtain ⟨h1, h2⟩ := kv_split (P := P) (h := h) (by simpa using l) r2 q3
        rw [List.map_cons, List.map_cons, List.map_cons]
        refine ⟨.cons (by rw [q2]; exact r1.2) h1, ?_⟩
        have kk : ∃ z, Reads h e0.key (kP k) z ∧ z = [] := by
          rcases keyIs_shape q1 with ⟨i, t, e1, e2⟩ | ⟨x, t, e1, e2⟩
          · rw [e2]
            have e3 : k = .inl i := by
              have y := r1.1
              simp only at y
              rw [y]
              exact e1
            rw [e3]
            exact ⟨_, Reads.int i t, rfl⟩
          · rw [e2]
            have e3 : k = .inr x := by
              have y := r1.1
              simp only at y
              rw [y]
              exact e1
            rw [e3]
            exact ⟨_, Reads.str x t, rfl⟩
        obtain ⟨z, k1, rfl⟩ := kk
        exact ReadsAll.cons k1 h2
  | [], _ :: _, _, _, l, _, _ => by simp at l
  | _ :: _, [], _, _, l, _, _ => by simp at l
theorem pyEL_len : ∀ {n : Nat} {xs : List D} {ps : List PyData}, pyEL n xs = some ps → ps.length = xs.length
  | n, [], ps, h => by
    have h' : some [] = some ps := by cases n <;> simpa [pyEL] using h
    cases h'
    rfl
  | n, x :: xs, ps, h => by
    cases e1 : pyE n x with
    | none => cases n <;> simp [pyEL, e1] at h
    | some p =>
      cases e2 : pyEL n xs with
      | none => cases n <;> simp [pyEL, e1, e2] at h
      | some qs =>
        have h' : some (p :: qs) = some ps := by cases n <;> simpa [pyEL, e1, e2] using h
        cases h'
        rw [List.length_cons, List.length_cons, pyEL_len e2]
section
variable {X : Cx} {pins : List (Addr × Obj)} {σ : L2.St} {H : Hp} {s : Shared}
mutual
theorem rep_rd (I : Inv X pins σ H s) (sys : SysOk X.K) : ∀ {n : Nat} {d : D} {p : PyData} {v : V} {u : Value}, pyE n d = some p → Rep X.K X.mg H d v → RelV v u → ∃ as, Reads s.heap u p as ∧ sysModules ∉ as
  | n, .non, p, v, u, h, r, e => by
    have h' : some PyData.none = some p := by cases n <;> simpa [pyE] using h
    cases h'
    rw [r.non'] at e
    cases e
    exact ⟨_, Reads.none, fun z => nomatch z⟩
  | n, .bl b, p, v, u, h, r, e => by
    have h' : some (PyData.bool b) = some p := by cases n <;> simpa [pyE] using h
    cases h'
    rw [r.bl'] at e
    cases e
    exact ⟨_, Reads.bool b, fun z => nomatch z⟩
  | n, .int i, p, v, u, h, r, e => by
    have h' : some (PyData.int i) = some p := by cases n <;> simpa [pyE] using h
    cases h'
    rw [r.int'] at e
    obtain ⟨t, rfl⟩ := e
    exact ⟨_, Reads.int i t, fun z => nomatch z⟩
  | n, .str x, p, v, u, h, r, e => by
    have h' : some (PyData.str x) = some p := by cases n <;> simpa [pyE] using h
    cases h'
    rw [r.str'] at e
    obtain ⟨t, rfl⟩ := e
    exact ⟨_, Reads.str x t, fun z => nomatch z⟩
  | n + 1, .lst xs, p, v, u, h, r, e => by
    have h' : (pyEL n xs).map PyData.list = some p := by simpa [pyE] using h
    cases e2 : pyEL n xs with
    | none =>
      rw [e2] at h'
      cases h'
    | some ps =>
      rw [e2] at h'
      cases h'
      obtain ⟨a, vs, rfl, h1, h2⟩ := r.lst'
      cases e
      obtain ⟨its, rv, ⟨o, nn, ho, hc, _, hd⟩, _⟩ := I.list (Evl.sq_of (K := X.K) h1)
      obtain ⟨as, hr, hs⟩ := rep_rdL I sys e2 h2 rv
      refine ⟨_, Reads.list ho hc hd hr, fun hm => ?_⟩
      rcases List.mem_cons.mp hm with z | z
      · obtain ⟨o2, g1, g2⟩ := sys
        have g3 := I.kIn _ _ g1
        rw [z, ho] at g3
        cases g3
        exact g2 hc
      · exact hs z
  | n + 1, .tup xs, p, v, u, h, r, e => by
    have h' : (pyEL n xs).map PyData.tuple = some p := by simpa [pyE] using h
    cases e2 : pyEL n xs with
    | none =>
      rw [e2] at h'
      cases h'
    | some ps =>
      rw [e2] at h'
      cases h'
      obtain ⟨a, vs, rfl, h1, h2⟩ := r.tup'
      cases e
      obtain ⟨its, rv, ⟨o, ho, hc, nn, hd⟩, _⟩ := I.tuple h1
      obtain ⟨as, hr, hs⟩ := rep_rdL I sys e2 h2 rv
      exact ⟨_, Reads.tuple ho hc hd hr, hs⟩
  | n + 1, .dct ks xs, p, v, u, h, r, e => by
    have h' : (if ks.length = xs.length then (pyEL n xs).map fun ps => PyData.dict ((ks.map kP).zip ps) else none) = some p := by simpa [pyE] using h
    by_cases hl : ks.length = xs.length
    case neg =>
      rw [if_neg hl] at h'
      cases h'
    rw [if_pos hl] at h'
    cases e2 : pyEL n xs with
    | none =>
      rw [e2] at h'
      cases h'
    | some ps =>
      rw [e2] at h'
      cases h'
      unfold Rep at r
      obtain ⟨a, vs, rfl, h1, h2, h3⟩ := r
      cases e
      obtain ⟨_, hsy, vs0, rk, o, es, ep, ho, hx, hd, _, hp, _⟩ := dk_of I.hok h1
      obtain ⟨g1, g2⟩ := kv_split (h := s.heap) h2 rk hp
      obtain ⟨bs, hr, hs⟩ := rep_rdL I sys e2 h3 g1
      have lz : (ks.map kP).length = ps.length := by rw [List.length_map, hl, pyEL_len e2]
      refine ⟨a :: [] ++ bs, Reads.dict (kvs := (ks.map kP).zip ps) ho hx.1 hd ?_ ?_, fun hm => ?_⟩
      · rw [List.map_fst_zip (Nat.le_of_eq lz)]
        exact g2
      · rw [List.map_snd_zip (Nat.le_of_eq lz.symm)]
        exact hr
      · rcases List.mem_cons.mp hm with z | z
        · rw [← z] at hsy
          exact absurd hsy (by simp)
        · exact hs z
  | 0, .lst xs, p, v, u, h, r, e => by simp [pyE] at h
  | 0, .tup xs, p, v, u, h, r, e => by simp [pyE] at h
  | 0, .dct _ _, p, v, u, h, r, e => by simp [pyE] at h
  | n, .ins _ _ _, p, v, u, h, r, e => by cases n <;> simp [pyE] at h
  | n, .scr _, p, v, u, h, r, e => by cases n <;> simp [pyE] at h
  | n, .ty _, p, v, u, h, r, e => by cases n <;> simp [pyE] at h
  | n, .cls _, p, v, u, h, r, e => by cases n <;> simp [pyE] at h
  | n, .exn _ _ _, p, v, u, h, r, e => by cases n <;> simp [pyE] at h
  | n, .hot _ _ _ _ _ _, p, v, u, h, r, e => by cases n <;> simp [pyE] at h
theorem rep_rdL (I : Inv X pins σ H s) (sys : SysOk X.K) : ∀ {n : Nat} {ds : List D} {ps : List PyData} {vs : List V} {us : List Value}, pyEL n ds = some ps → RepL X.K X.mg H ds vs → Vals vs us → ∃ as, ReadsAll s.heap us ps as ∧ sysModules ∉ as
  | n, [], ps, vs, us, h, r, e => by
    have h' : some [] = some ps := by cases n <;> simpa [pyEL] using h
    cases h'
    rw [r.nil_inv] at e
    cases e
    exact ⟨_, .nil, fun z => nomatch z⟩
  | n, x :: xs, ps, vs, us, h, r, e => by
    obtain ⟨v, vr, rfl, r1, r2⟩ := r.cons_inv
    cases e with
    | cons g1 g2 =>
      cases e1 : pyE n x with
      | none => cases n <;> simp [pyEL, e1] at h
      | some p =>
        cases e2 : pyEL n xs with
        | none => cases n <;> simp [pyEL, e1, e2] at h
        | some qs =>
          have h' : some (p :: qs) = some ps := by cases n <;> simpa [pyEL, e1, e2] using h
          cases h'
          obtain ⟨as, k1, k2⟩ := rep_rd I sys e1 r1 g1
          obtain ⟨bs, k3, k4⟩ := rep_rdL I sys e2 r2 g2
          exact ⟨_, .cons k1 k3, fun hm => (List.mem_append.mp hm).elim k2 k4⟩
end
end
/-! repr of anything, dicts too -/
def reprX : List D → Option D
  | [d] => match pyE 12 d with
    | some p => if p.showable = true ∧ p.depth ≤ 40 ∧ p.shown.length ≤ 100000 then some (.str p.shown) else none
    | none => none
  | _ => none
section
variable {X : Cx}
def rRepX (K : Fr') (mg : Str → Option Value) : List V → Hp → VK → Prop := fun xs H Q => ∃ (x : V) (d : D) (p : PyData), xs = [x] ∧ Rep K mg H d x ∧ pyE 12 d = some p ∧ p.showable = true ∧ p.depth ≤ 40 ∧ p.shown.length ≤ 100000 ∧ Q (.str p.shown) H
theorem call_reprX (sys : SysOk X.K) (hg : X.A.guards = some []) (hu : X.A.units + 64 < cLine) : CallR X (.builtin "repr") (rRepX X.K X.mg) := by
  intro pins s σ H xs us Q I r h
  obtain ⟨x, d, p, rfl, rx, hp, hs, hdp, hl, q⟩ := h
  obtain ⟨u, rfl, ru⟩ := vals1 r
  have hz : p.shown.length ≤ sizeLine := Evl.sz_of hl
  obtain ⟨as, rd, no⟩ := rep_rd I sys hp rx ru
  have fin : ∀ {a : Addr}, u = .ref a → wpAny (model X.prog X.w) X.A (call (.builtin "repr") [u]) (EP X pins σ Q) X.xe s := by
    intro a e
    subst e
    refine repr_of_reads' rd hs (fun _ => no) hg (by omega) (fun _ _ e => e) (fun h' u tk hk => ?_) hz
    exact ⟨.str p.shown, H, I.kept hk, ⟨_, rfl⟩, q⟩
  cases rd with
  | none => exact PySem.P.repr_of_none ⟨.str _, H, I.tok _, ⟨_, rfl⟩, q⟩
  | bool b =>
    refine PySem.P.repr_of_bool ⟨.str _, H, I.tok _, ⟨_, rfl⟩, ?_⟩
    cases b <;> exact q
  | int i t => exact PySem.P.repr_of_int (by simpa [PyData.showable] using hs) ⟨.str _, H, I.tok _, ⟨_, rfl⟩, q⟩
  | str y t => exact PySem.P.repr_of_str ⟨.str _, H, I.tok _, ⟨_, rfl⟩, q⟩ hz
  | list _ _ _ _ => exact fin rfl
  | tuple _ _ _ _ => exact fin rfl
  | dict _ _ _ _ _ => exact fin rfl
theorem c_reprX (sys : SysOk X.K) (hg : X.A.guards = some []) (hu : X.A.units + 64 < cLine) : CallD X (.builtin "repr") (rRepX X.K X.mg) reprX := ⟨call_reprX sys hg hu, fun F H ds d vs fh r hd Q q => by
  match ds, hd, r with
  | [x], hd, r =>
    have hd' : (match pyE 12 x with
      | some p => if p.showable = true ∧ p.depth ≤ 40 ∧ p.shown.length ≤ 100000 then some (D.str p.shown) else none
      | none => none) = some d := hd
    cases e : pyE 12 x with
    | none =>
      rw [e] at hd'
      cases hd'
    | some p =>
      rw [e] at hd'
      have hd2 : (if p.showable = true ∧ p.depth ≤ 40 ∧ p.shown.length ≤ 100000 then some (D.str p.shown) else none) = some d := hd'
      by_cases z : p.showable = true ∧ p.depth ≤ 40 ∧ p.shown.length ≤ 100000
      · rw [if_pos z] at hd2
        cases hd2
        obtain ⟨v, rfl, r1⟩ := r.one
        exact ⟨v, x, p, rfl, r1.mono fh, e, z.1, z.2.1, z.2.2, q _ F H (Grow.refl fh) Rep.str⟩
      · rw [if_neg z] at hd2
        cases hd2⟩
end
/-! ### displays -/
/-- a new thing that is known to none but the one who makes it is changed and stays then -/
theorem Sta.poke {K : Fr'} {mg : Str → Option Value} {B : Bs} {F H : Hp} {σ : L2.St} {sd : SD} {p : Addr} {o : HO} (S : Sta K mg B F H σ sd) (nO : ¬ Owns sd σ p) (nF : F p = none) (h0 : B.H0 p = none) : Sta K mg B (upd F p o) (upd H p o) σ sd := by
  have ff : Ex F (upd F p o) := Evl.Ex.new nF
  refine ⟨fun a u e => ?_, S.f0.trans ff, fun a u h1 h2 => ?_, fun a ha => ?_, fun q hq => ?_, S.len, fun i s hs => ?_, S.inj, S.par⟩
  · by_cases z : a = p
    · subst z
      rw [upd_same] at e ⊢
      exact e
    · rw [upd_ne z] at e ⊢
      exact S.fh a u e
  · have z : a ≠ p := fun z => by
      rw [z, h0] at h1
      cases h1
    rw [upd_ne z]
    exact S.keep a u h1 h2
  · by_cases z : a = p
    · subst z
      exact .inr (.inl h0)
    · rw [upd_ne z] at ha
      exact S.fresh a ha
  · by_cases z : q = p
    · subst z
      rw [upd_same]
      exact fun z => nomatch z
    · rw [upd_ne z]
      exact S.io q hq
  · obtain ⟨o1, k1, k2⟩ := S.slot i s hs
    refine ⟨o1, k1, ?_⟩
    cases s with
    | no => exact True.intro
    | val d =>
      obtain ⟨v, k3, k4⟩ := k2
      exact ⟨v, k3, k4.mono ff⟩
    | own c =>
      obtain ⟨q, u, rfl, k3, k4, k5, k6⟩ := k2
      have z : q ≠ p := fun z => by
        subst z
        exact nO ⟨i, c, hs, k1⟩
      exact ⟨q, u, rfl, by rw [upd_ne z]; exact k3, k4.mono ff, by rw [upd_ne z]; exact k5, k6⟩
section
variable {X : Cx} {e : Expr} {te : TE} {me : M D} {pos p1 : Pos} {j : Nat} {k : Str}
theorem pd_d0 : PEd X (.Dict [] [] pos) tDNewK (pur (.dct [] [])) := by
  refine ⟨pe_dnewK, fun B F H σ sd d sd' S h Q q => ?_⟩
  obtain ⟨rfl, rfl⟩ := pur_some h
  intro p hp
  have g := Grow.laid (o := .dK []) S.fh hp
  refine q _ _ _ (S.grow g) g.ff ?_
  unfold Rep
  exact ⟨p, [], rfl, upd_same, rfl, RepL.nil⟩
def mD1 (k : Str) (m : M D) : M D := bnd m fun d => pur (.dct [.inr k] [d])
theorem pd_d1 (he : PEd X e te me) : PEd X (.Dict [some (.Constant (.str k) j p1)] [e] pos) (tDisp [(tC (.str k), te)]) (mD1 k me) := by
  refine ⟨pe_disp (pps_cons pe_str he.1 pps_nil) rfl rfl (fun z => nomatch z) (Nat.le_add_left 1 14), fun B F H σ sd d sd' S h Q q => ?_⟩
  obtain ⟨x, sd1, h1, h2⟩ := bnd_some h
  obtain ⟨rfl, rfl⟩ := pur_some h2
  intro p hp
  obtain ⟨S2, nO, nF⟩ := S.beside (o := .dK []) hp
  refine he.2.kept S2 h1 _ fun v F3 H3 S3 e3 r3 kp => ?_
  obtain ⟨g1, g2⟩ := kp.val p _ upd_same nO
  have g3 := kp.off p _ upd_same nO nF
  refine ⟨g1, [(.inr k, v)], rfl, Nat.le_add_left 1 14, ?_⟩
  refine q _ _ _ (S3.poke g2 g3 (S.h0 hp)) (e3.trans (Evl.Ex.new g3)) ?_
  unfold Rep
  exact ⟨p, [v], rfl, upd_same, rfl, (RepL.cons r3 RepL.nil).mono (Evl.Ex.new g3)⟩
end
theorem vals_rev : ∀ {vs : List V} {us : List Value}, Vals vs us → Vals vs.reverse us.reverse
  | [], _, h => by
    cases h
    exact .nil
  | v :: vs, _, h => by
    cases h with
    | cons h1 h2 =>
      rw [List.reverse_cons, List.reverse_cons]
      exact (vals_rev h2).append (.cons h1 .nil)
theorem kbindsE {K : Fr'} {x qual : Str} {params : Arguments} {body : List Stmt} {scope : Scope} {kws : List (Str × V)} {f : Addr} {fd : FuncData} {ps : List Str} (F : L2.FunD K x qual params body scope [] kws f fd) (n : Nat) (ks : List Str) (g : {α : Type} → List α → List α → List α)
    (rel : ∀ {vs zs : List V} {us ws : List Value}, Vals vs us → Vals zs ws → Vals (g vs zs) (g us ws))
    (h : ∀ (kV doc pm : Value) (an : Option Addr) (cdv ct : Value) (us ws : List Value), us.length = n → ws.length = ks.length → bindArgs (PySem.W.fnOf x qual params body scope .none kV doc pm an cdv ct) ⟨us, ks.zip ws⟩ = pure (ps.zip (g us ws))) :
    KBn K fd ps n ks (fun us ws => g us ws) (fun vs zs => g vs zs) := by
  obtain ⟨oc, od, dV, kV, doc, pm, an, cdv, ct, osl, rfl, lk, hcd, hD, hK⟩ := F.ex
  rcases hD with ⟨_, rfl⟩ | ⟨e, _⟩
  · refine ⟨fun s us ws X l1 l2 => BindsTo.of_looks fun M => ?_, rel⟩
    rw [h kV doc pm an cdv ct us ws l1 l2]
    exact .of_pure rfl
  · exact absurd rfl e
theorem xno1 {K : Fr'} {C : Addr} {f : Str} (h : PySem.W.findIn K (.ref C) f = some none) : ∀ y ∈ [f], PySem.W.findIn K (.ref C) y = some none := by
  intro y hy
  obtain rfl : y = f := by simpa using hy
  exact h
theorem xno2 {K : Fr'} {C : Addr} {f g : Str} (h : PySem.W.findIn K (.ref C) f = some none) (k : PySem.W.findIn K (.ref C) g = some none) : ∀ y ∈ [f, g], PySem.W.findIn K (.ref C) y = some none := by
  intro y hy
  rcases List.mem_cons.mp hy with rfl | hy
  · exact h
  · obtain rfl : y = g := by simpa using hy
    exact k
end Mir
set_option linter.all false
set_option maxRecDepth 100000
set_option maxHeartbeats 4000001
namespace Mir
open PySem PySem.Spec L2
open PyProof.Rows (envOfC)
/-! ### errors that are raised -/
abbrev MX := SD → Option (D × SD)
def xNever : MX := fun _ => none
section
variable (K : Fr') (mg : Str → Option Value)
/-- the error in the air -/
def RepX (F : Hp) (x : D) (cls : Value) (d : Option Addr) : Prop := ∃ (c : Str) (ns : List Str) (xs : List D) (C : Addr) (vs : List V), x = .exn c ns xs ∧ mg c = some (.ref C) ∧ cls = .ref C ∧ XHeld F d (ns.zip vs) ∧ ns.length = vs.length ∧ RepL K mg F xs vs
theorem RepX.mono {K : Fr'} {mg : Str → Option Value} {F F' : Hp} {x : D} {cls : Value} {d : Option Addr} (e : Ex F F') (h : RepX K mg F x cls d) : RepX K mg F' x cls d := by
  obtain ⟨c, ns, xs, C, vs, h1, h2, h3, h4, h5, h6⟩ := h
  exact ⟨c, ns, xs, C, vs, h1, h2, h3, h4.mono e, h5, h6.mono e⟩
/-- what is wanted of the error -/
def WantX (B : Bs) (F : Hp) (sd' : SD) (W : WX) (x : D) : Prop := ∀ σ' F' H' cls d, Sta K mg B F' H' σ' sd' → Ex F F' → RepX K mg F' x cls d → H' = H' → W cls d σ' H'
theorem WantX.mono {K : Fr'} {mg : Str → Option Value} {B : Bs} {F F' : Hp} {sd : SD} {W : WX} {x : D} (e : Ex F F') (w : WantX K mg B F sd W x) : WantX K mg B F' sd W x := fun σ' F1 H' cls d S e1 r z => w σ' F1 H' cls d S (e.trans e1) r z
def EvF (W : WX) (te : TE) (xm : MX) : Prop := ∀ (B : Bs) (F H : Hp) (σ : L2.St) (sd : SD) (x : D) (sd' : SD), Sta K mg B F H σ sd → xm sd = some (x, sd') → WantX K mg B F sd' W x → ∀ Q : VK, te σ H Q
def EvFL (W : WX) (ta : TA) (xm : MX) : Prop := ∀ (B : Bs) (F H : Hp) (σ : L2.St) (sd : SD) (x : D) (sd' : SD), Sta K mg B F H σ sd → xm sd = some (x, sd') → WantX K mg B F sd' W x → ∀ Q : List V → Hp → Prop, ta σ H Q
def ExF (W : WX) (ts : TS) (xm : MX) : Prop := ∀ (B : Bs) (F H : Hp) (σ : L2.St) (sd : SD) (x : D) (sd' : SD), Sta K mg B F H σ sd → xm sd = some (x, sd') → WantX K mg B F sd' W x → ∀ E : Ends, ts E σ H
end
section
variable (X : Cx) (W : WX)
def PEx (e : Expr) (t : TE) (m : M D) (xm : MX) : Prop := PE X e t ∧ EvD X.K X.mg t m ∧ EvF X.K X.mg W t xm
def PAx (es : List Expr) (t : TA) (m : M (List D)) (xm : MX) : Prop := PA X es t ∧ EvL X.K X.mg t m ∧ EvFL X.K X.mg W t xm
def PSx (s : Stmt) (t : TS) (m : M Out) (xm : MX) : Prop := PS X s t ∧ ExD X.K X.mg t m ∧ ExF X.K X.mg W t xm
def PSsx (s : List Stmt) (t : TS) (m : M Out) (xm : MX) : Prop := PSs X s t ∧ ExD X.K X.mg t m ∧ ExF X.K X.mg W t xm
end
section
variable {X : Cx} {W : WX} {st : Stmt} {rest : List Stmt} {m n : M Out} {xm xn : MX} {e : Expr} {es : List Expr} {ma : M D} {mB : M Bool} {mL : M (List D)} {pos : Pos} {te ta : TE} {tB' : TT} {tS uS : TS} {tL : TA}
theorem pex_d (h : PEd X e te ma) : PEx X W e te ma xNever := ⟨h.1, h.2, fun B F H σ sd x sd' S hm => nomatch hm⟩
theorem psx_d (h : PSd X st tS m) : PSx X W st tS m xNever := ⟨h.1, h.2, fun B F H σ sd x sd' S hm => nomatch hm⟩
theorem pssx_d (h : PSsd X rest tS m) : PSsx X W rest tS m xNever := ⟨h.1, h.2, fun B F H σ sd x sd' S hm => nomatch hm⟩
/-- one behind the other -/
def xSeq (xm : MX) (m : M Out) (xn : MX) : MX := fun sd => match xm sd with
  | some r => some r
  | none => match m sd with
    | some (.nx, sd1) => xn sd1
    | _ => none
theorem pssx_cons (h1 : PSx X W st tS m xm) (h2 : PSsx X W rest uS n xn) : PSsx X W (st :: rest) (tSeq tS uS) (mSeq m n) (xSeq xm m xn) := by
  obtain ⟨p, ev, ef⟩ := h1
  obtain ⟨p', ev', ef'⟩ := h2
  refine ⟨pss_cons p p', (pss_consd ⟨p, ev⟩ ⟨p', ev'⟩).2, fun B F H σ sd x sd' S hm w E => ?_⟩
  unfold xSeq at hm
  cases e1 : xm sd with
  | some r =>
    rw [e1] at hm
    cases hm
    exact ef B F H σ sd x sd' S e1 w _
  | none =>
    rw [e1] at hm
    cases e2 : m sd with
    | none =>
      rw [e2] at hm
      cases hm
    | some r =>
      obtain ⟨o, sd1⟩ := r
      rw [e2] at hm
      cases o with
      | nx => exact ev B F H σ sd .nx sd1 S e2 _ fun σ1 F1 H1 S1 ex1 => ef' B F1 H1 σ1 sd1 x sd' S1 hm (w.mono ex1) E
      | rt d => cases hm
      | bk => cases hm
      | ct => cases hm
theorem pssx_one (h : PSx X W st tS m xm) : PSsx X W [st] tS m xm := ⟨pss_one h.1, h.2.1, h.2.2⟩
def xIf (t : M Bool) (a b : MX) : MX := fun sd => match t sd with
  | some (true, sd1) => a sd1
  | some (false, sd1) => b sd1
  | none => none
theorem psx_if {c : Expr} {a b : List Stmt} (hc : PTd X c tB' mB) (ha : PSsx X W a tS m xm) (hb : PSsx X W b uS n xn) : PSx X W (.If c a b pos) (tIfS tB' tS uS) (mIf mB m n) (xIf mB xm xn) := by
  refine ⟨ps_if hc.1 ha.1 hb.1, (ps_ifd (pos := pos) hc ⟨ha.1, ha.2.1⟩ ⟨hb.1, hb.2.1⟩).2, fun B F H σ sd x sd' S hm w E => ?_⟩
  unfold xIf at hm
  cases e1 : mB sd with
  | none =>
    rw [e1] at hm
    cases hm
  | some r =>
    obtain ⟨b1, sd1⟩ := r
    rw [e1] at hm
    refine hc.2 B F H σ sd b1 sd1 S e1 _ fun F1 H1 S1 ex1 => ?_
    cases b1 with
    | true =>
      rw [if_pos rfl]
      exact ha.2.2 B F1 H1 σ sd1 x sd' S1 hm (w.mono ex1) E
    | false =>
      rw [if_neg Bool.false_ne_true]
      exact hb.2.2 B F1 H1 σ sd1 x sd' S1 hm (w.mono ex1) E
theorem psx_ret (h : PEx X W e ta ma xm) : PSx X W (.Return (some e) pos) (tRet ta) (mRet ma) xm :=
  ⟨ps_ret h.1, (ps_retd (pos := pos) ⟨h.1, h.2.1⟩).2, fun B F H σ sd x sd' S hm w E => h.2.2 B F H σ sd x sd' S hm w _⟩
theorem psx_expr (h : PEx X W e ta ma xm) (hs : swapsWith e none pos.line X.env = pure false := by rfl) : PSx X W (.Expr e pos) (tDrop ta) (mDrop ma) xm :=
  ⟨ps_expr h.1 hs, (ps_exprd (pos := pos) ⟨h.1, h.2.1⟩ hs).2, fun B F H σ sd x sd' S hm w E => h.2.2 B F H σ sd x sd' S hm w _⟩
theorem psx_set {i : Nat} {x : Str} {pos' : Pos} (hN : X.N.Nodup) (hi : X.N[i]? = some x) (hx : Loc X.env.scope x) (he : PEx X W e ta ma xm) (hs : swapsWith e (some (.Name x pos')) pos.line X.env = pure false := by rfl) (hf : X.fn x = true ∨ X.env.scope.names.lookup x = some .local := by first | exact .inl rfl | exact .inr rfl | assumption) :
    PSx X W (.Assign [.Name x pos'] e pos) (tAsg ta (gName i)) (mAsg ma (mSet i)) xm :=
  ⟨ps_set hN hi hx he.1 hs hf, (ps_setd (pos := pos) (pos' := pos') hN hi hx ⟨he.1, he.2.1⟩ hs hf).2, fun B F H σ sd x sd' S hm w E => he.2.2 B F H σ sd x sd' S hm w _⟩
/-! arguments -/
theorem pax_nil : PAx X W [] tNil mNil xNever := ⟨pa_nil, (pa_nild (X := X)).2, fun B F H σ sd x sd' S hm => nomatch hm⟩
def xCons (xa : MX) (ma : M D) (xl : MX) : MX := fun sd => match xa sd with
  | some r => some r
  | none => match ma sd with
    | some (_, sd1) => xl sd1
    | none => none
theorem pax_cons (h : PEx X W e ta ma xm) (k : PAx X W es tL mL xn) (hs : starEach (e :: es) X.env = (false, eval e X.env) :: starEach es X.env := by rfl) : PAx X W (e :: es) (tCons ta tL) (mCons ma mL) (xCons xm ma xn) := by
  refine ⟨pa_cons h.1 k.1 hs, (pa_consd (X := X) ⟨h.1, h.2.1⟩ ⟨k.1, k.2.1⟩ hs).2, fun B F H σ sd x sd' S hm w Q => ?_⟩
  unfold xCons at hm
  cases e1 : xm sd with
  | some r =>
    rw [e1] at hm
    cases hm
    exact h.2.2 B F H σ sd x sd' S e1 w _
  | none =>
    rw [e1] at hm
    cases e2 : ma sd with
    | none =>
      rw [e2] at hm
      cases hm
    | some r =>
      obtain ⟨d, sd1⟩ := r
      rw [e2] at hm
      exact h.2.1 B F H σ sd d sd1 S e2 _ fun v F1 H1 S1 ex1 r1 => k.2.2 B F1 H1 σ sd1 x sd' S1 hm (w.mono ex1) _
theorem pex_lst (h : PAx X W es tL mL xm) : PEx X W (.List es pos) (tLst tL) (mLst mL) xm :=
  ⟨pe_lst h.1, (pd_lst (pos := pos) ⟨h.1, h.2.1⟩).2, fun B F H σ sd x sd' S hm w Q => h.2.2 B F H σ sd x sd' S hm w _⟩
theorem pex_tup {x1} (h : PAx X W es tL mL xm) : PEx X W (.Tuple es x1 pos) (tTup tL) (mTup mL) xm :=
  ⟨pe_tup h.1, (pd_tup (x1 := x1) (pos := pos) ⟨h.1, h.2.1⟩).2, fun B F H σ sd x sd' S hm w Q => h.2.2 B F H σ sd x sd' S hm w _⟩
theorem pex_callB {id : String} {rL : List V → Hp → VK → Prop} {g : List D → Option D} {x : Str} {p : Pos} (hc : CallD X (.builtin id) rL g) (hg : Gl X x) (hm : X.mg x = none) (hv : bootBuiltins x = some (.builtin id)) (ha : PAx X W (e :: es) tL mL xm) (hn : x ≠ "__name__" := by decide) (hdb : (x == ("__debug__" : Str)) = false := by decide)
    (he : starEach (e :: es) X.env = (false, eval e X.env) :: starEach es X.env := by rfl) (hpl : (backTo pos (starEach es X.env)).any (·.1) = false := by rfl) : PEx X W (.Call (.Name x p) (e :: es) [] pos) (tCB rL tL) (mCall g mL) xm :=
  ⟨pe_callB hc.1 hg hm hv ha.1 hn hdb he hpl, ev_callB hc.2 ha.2.1, fun B F H σ sd x sd' S hm w Q => ha.2.2 B F H σ sd x sd' S hm w _⟩
end
/-! ### raise C(e, ..) -/
def tMkX (C : Addr) (ns : List Str) (t : TA) : L2.St → Hp → XK → Prop := fun σ H Q => t σ H fun vs H1 => vs.length = ns.length ∧
  ∀ (a dx : Addr) (H' : Hp), H1 a = none → H1 dx = none → dx ≠ a → H' a = none → H' dx = some (.xd (ns.zip vs).reverse) → (∀ b, b ≠ a → b ≠ dx → H' b = H1 b) → Q (.ref C) (some dx) H'
section
variable {X : Cx} {C fI : Addr} {k : Nat} {fd : FuncData} {ps ns : List Str} {c : Str} {p pos : Pos} {e : Expr} {es : List Expr} {t : TA} {mL : M (List D)} {W : WX}
theorem pmk_x (T : XcC X.K C) (ty : PySem.W.typeIn X.K (.ref C) = some (.type "type")) (iC : PySem.W.findIn X.K (.ref C) "__init__" = some (some (.ref fI)) ∧ PySem.W.isFn X.K (.ref fI) = true) (F1 : FnG X.prog X.w X.K X.mg X.base CX0 k fI fd ps (spX X.K ns)) (hr : Room (k + 1) X.A) (hgd : X.A.guards = some [])
    (no : ∀ f ∈ ns, PySem.W.findIn X.K (.ref C) f = some none) (hps : ps.length = ns.length + 1) (hlt : ns.length ≤ 100) (hb : Binds X.K fd ps []) (hg : Gl X c) (hm : X.mg c = some (.ref C)) (ha : PA X (e :: es) t)
    (hdb : (c == ("__debug__" : Str)) = false := by decide) (he : starEach (e :: es) X.env = (false, eval e X.env) :: starEach es X.env := by rfl) (hpl : (backTo pos (starEach es X.env)).any (·.1) = false := by rfl) :
    PMk X (.Call (.Name c p) (e :: es) [] pos) (tMkX C ns t) := by
  intro pins s σ H Q I h
  refine wpAny_Call_Name_kw (ld_glob I hg hm ?_ hdb)
  refine PySem.W.callWith_K (h₀ := X.base) I.ok.mod.kin T.kp (thn (ha.run pos pins s σ H _ I h) ?_) he hpl
  rintro us s1 ⟨vs, H1, I1, r, l, q⟩
  refine ⟨I1.kIn, ?_⟩
  have lu : us.length = ns.length := by
    rw [← r.length]
    exact l
  obtain ⟨B, newId, initId, bmB, F, SF, qi, qo⟩ := T.base
  obtain ⟨nm, N, qn, bs, bm, hdct, sn, sub, ab, col, dd, k0, k1, k2, k3, k5, hC, tl⟩ := PySem.W.excInit_of I1.kIn qi
  obtain ⟨hp, g, dr, tk, os⟩ := s1
  have hsz : hp.objs.size ≤ hp.objs.size + 1 := Nat.le_succ _
  have hn : H1 (hp.objs.size + 1) = none := I1.hok.fresh hsz
  have kk : ∀ b o, hp.get? b = some o → ((hp.push (PySem.W.kdv_tup us)).push (PySem.HandSPX.excO C hp.objs.size)).get? b = some o := by
    intro b o e
    exact Heap.get?_push_of_some _ (Heap.get?_push_of_some _ e)
  have hget : ((hp.push (PySem.W.kdv_tup us)).push (PySem.HandSPX.excO C hp.objs.size)).get? (hp.objs.size + 1) = some (PySem.HandSPX.excO C hp.objs.size) := by
    heap_get
  have I2 := I1.laid (t' := tk) (a := hp.objs.size + 1) (o := exo (hp.objs.size + 1) C none) (h' := (hp.push (PySem.W.kdv_tup us)).push (PySem.HandSPX.excO C hp.objs.size)) kk hsz (exo_ok hget)
  have hq : spX X.K ns (.ref (hp.objs.size + 1) :: vs) (upd H1 (hp.objs.size + 1) (exo (hp.objs.size + 1) C none)) (fun v H2 => v = .non ∧ ∃ (d : Addr) (fs : List (Str × V)), H2 (hp.objs.size + 1) = some (exo (hp.objs.size + 1) C (some d)) ∧ H2 d = some (exd d fs) ∧ H1 d = none ∧ Q (.ref C) (some d) (upd (del H2 (hp.objs.size + 1)) d (.xd fs))) (fun _ _ _ => False) := by
    refine ⟨_, C, vs, rfl, upd_same, l, T, no, fun dx H' h1 h2 h3 h4 h5 => ⟨rfl, dx, _, h3, h4, ?_, ?_⟩⟩
    · rw [upd_ne h2] at h1
      exact h1
    · rw [upd_ne h2] at h1
      refine q (hp.objs.size + 1) dx _ hn h1 h2 ?_ upd_same fun b h6 h7 => ?_
      · rw [upd_ne h2.symm, del_same]
      · rw [upd_ne h7, del_ne h6, h5 b h6 h7, upd_ne h6]
  have r2 : Vals (V.ref (hp.objs.size + 1) :: vs) (Value.ref (hp.objs.size + 1) :: us) := .cons rfl r
  have few : us.length ≤ sizeLine := by
    rw [sizeLine_eq]
    omega
  have bind := hb ⟨(hp.push (PySem.W.kdv_tup us)).push (PySem.HandSPX.excO C hp.objs.size), g, dr, tk, os⟩ (Value.ref (hp.objs.size + 1) :: us) I2.kIn (by simp [lu, hps])
  rw [List.append_nil] at bind
  refine wpAny_call (exnCall F tl few hC (PySem.W.looks_findIn I1.kIn iC.1) (fun self => PySem.W.bind_fn I1.kIn self (beq_iff_eq.mp iC.2)) ?_)
  refine codeAny_mono (F1.go _ X.stack _ _ ⟨Value.ref (hp.objs.size + 1) :: us, []⟩ (Value.ref (hp.objs.size + 1) :: us) _ _ _ (hr.make C us []) (make_guards hgd) (I2.env0.make C us []) bind r2 hq) ?_
  intro r s' hq'
  match r, hq' with
  | .error er, hq' => exact pass0 (X := X) pins σ _ _ er s' I2 hq'
  | .ok (.ret u), hq' =>
    obtain ⟨v, H2, os2, bare2, un2, hok2, rv, rfl, d, fs, ea, ed, hd1, q2⟩ := hq'
    obtain ⟨h2, g2, d2, t2, os'⟩ := s'
    exact ⟨rv, mk_end (raises_own T.su ty) I1 hsz kk un2 hok2 os2 bare2 ea ed hd1 q2⟩
  | .ok .next, hq' => exact hq'.elim
  | .ok .brk, hq' => exact hq'.elim
  | .ok .cont, hq' => exact hq'.elim
def xRaise (c : Str) (ns : List Str) (mL : M (List D)) : MX := fun sd => match mL sd with
  | some (ds, sd1) => if ds.length = ns.length then some (.exn c ns.reverse ds.reverse, sd1) else none
  | none => none
theorem grow_x {F H H' : Hp} {a dx : Addr} {fs : List (Str × V)} (fh : Ex F H) (h1 : H a = none) (h2 : H dx = none) (ne : dx ≠ a) (h3 : H' a = none) (h4 : H' dx = some (.xd fs)) (h5 : ∀ b, b ≠ a → b ≠ dx → H' b = H b) :
    Grow F H (upd F dx (.xd fs)) H' := by
  have fd : F dx = none := Evl.fresh_back fh h2
  have fa : F a = none := Evl.fresh_back fh h1
  refine ⟨Evl.Ex.new fd, fun b u e => ?_, fun b u e => ?_, fun b hb => ?_⟩
  · by_cases z2 : b = dx
    · subst z2
      rw [upd_same] at e
      rw [h4]
      exact e
    rw [upd_ne z2] at e
    rw [h5 b (ne_of_none e fa) z2]
    exact fh b u e
  · rw [h5 b (ne_of_none e h1) (ne_of_none e h2)]
    exact e
  · by_cases z2 : b = dx
    · exact .inr (by rw [z2]; exact h2)
    rw [upd_ne z2] at hb
    exact .inl hb
theorem psx_raise (hc : X.calm = true) (tk : Takes X W) (T : XcC X.K C) (ty : PySem.W.typeIn X.K (.ref C) = some (.type "type")) (iC : PySem.W.findIn X.K (.ref C) "__init__" = some (some (.ref fI)) ∧ PySem.W.isFn X.K (.ref fI) = true) (F1 : FnG X.prog X.w X.K X.mg X.base CX0 k fI fd ps (spX X.K ns)) (hr : Room (k + 1) X.A) (hgd : X.A.guards = some [])
    (no : ∀ f ∈ ns, PySem.W.findIn X.K (.ref C) f = some none) (hps : ps.length = ns.length + 1) (hlt : ns.length ≤ 100) (hb : Binds X.K fd ps []) (hg : Gl X c) (hm : X.mg c = some (.ref C)) (ha : PAd X (e :: es) t mL) {pos' : Pos}
    (hdb : (c == ("__debug__" : Str)) = false := by decide) (he : starEach (e :: es) X.env = (false, eval e X.env) :: starEach es X.env := by rfl) (hpl : (backTo pos (starEach es X.env)).any (·.1) = false := by rfl) :
    PSx X W (.Raise (some (.Call (.Name c p) (e :: es) [] pos)) none pos') (fun _ σ H => tMkX C ns t σ H fun cls d H' => W cls d σ H') (fun _ => none) (xRaise c ns mL) := by
  have ev : ExD X.K X.mg (fun _ σ H => tMkX C ns t σ H fun cls d H' => W cls d σ H') (fun _ => none) := fun B F H σ sd o sd' S hm' => nomatch hm'
  refine ⟨ps_raise hc tk (pmk_x T ty iC F1 hr hgd no hps hlt hb hg hm ha.1 hdb he hpl), ev, fun B F H σ sd x sd' S hm' w E => ?_⟩
  unfold xRaise at hm'
  cases e1 : mL sd with
  | none =>
    rw [e1] at hm'
    cases hm'
  | some r =>
    obtain ⟨ds, sd1⟩ := r
    rw [e1] at hm'
    have hm2 : (if ds.length = ns.length then some (D.exn c ns.reverse ds.reverse, sd1) else none) = some (x, sd') := hm'
    by_cases z : ds.length = ns.length
    case neg =>
      rw [if_neg z] at hm2
      cases hm2
    rw [if_pos z] at hm2
    cases hm2
    refine ha.2 B F H σ sd ds _ S e1 _ fun vs F1 H1 S1 ex1 r1 => ⟨by rw [← r1.len]; exact z, fun a dx H' k1 k2 k3 k4 k5 k6 => ?_⟩
    have gr := grow_x S1.fh k1 k2 k3 k4 k5 k6
    have lv : ns.length = vs.length := by rw [← r1.len, z]
    refine w σ _ H' _ _ (S1.grow gr) (ex1.trans gr.ff) ⟨c, _, _, C, vs.reverse, rfl, hm, rfl, ?_, by simpa using lv, (r1.mono gr.ff).rev⟩ rfl
    show (upd F1 dx (.xd (ns.zip vs).reverse)) dx = some (.xd (ns.reverse.zip vs.reverse))
    rw [upd_same, zip_rev lv]
end
end Mir
set_option linter.all false
set_option maxRecDepth 100000
set_option maxHeartbeats 4000001
namespace Mir
open PySem PySem.Spec L2
open PyProof.Rows (envOfC)
/-! ### a def that may raise -/
section
variable (K : Fr') (mg : Str → Option Value)
def spR (n : Nat) (mf xf : List D → Option D) : Sp := fun vs H Q E => ∃ (F : Hp) (ds : List D), Ex F H ∧ RepL K mg F ds vs ∧ ds.length = n ∧
  ((∃ d, mf ds = some d ∧ ∀ v F' H', Grow F H F' H' → Rep K mg F' d v → Q v H') ∨ (∃ x, xf ds = some x ∧ ∀ F' H' cls d, Grow F H F' H' → RepX K mg F' x cls d → E cls d H'))
end
def runX (N : List Str) (xm : MX) : List D → Option D := fun ds => (xm (startS N ds)).map (·.1)
section
variable {P : Program} {w : World} {K : Fr'} {mg : Str → Option Value} {base : Heap} {k : Nat} {f : Addr} {fd : FuncData} {ps N : List Str} {x qual : Str} {scope : Scope} {body : List Stmt}
/-- THE RULE -/
theorem fn_r {params : Arguments} {dvs : List V} {kws : List (Str × V)} {m : M Out} {xm : MX} (F : L2.FunD K x qual params body scope dvs kws f fd) (S : FnScope N ps scope)
    (hb : ∀ (cdv : Value) (A : Around) (outer : List Env) (s : Shared) (H : Hp) (E : XK), Room k (A.deeper (envOfC qual scope s.heap.objs.size f cdv)) → A.guards = some [] →
      Takes (cxOf (L2.CX P w) P w K mg base N qual scope f cdv A outer s H E) (fun cls d _ H => E cls d H) → ∃ t, PSsx (cxOf (L2.CX P w) P w K mg base N qual scope f cdv A outer s H E) (fun cls d _ H => E cls d H) body t m xm) :
    FnG P w K mg base (L2.CX P w) (k + 1) f fd ps (spR K mg ps.length (runP N m) (runX N xm)) := by
  obtain ⟨oc, od, dV, kV, doc, pm, an, cdv, ct, osl, rfl, lk, hcd, _, _⟩ := F.ex
  refine fng_of lk hcd S (fun vs H Q E h => ?_) (fun A outer s H vs Q E hr hgd hsp => ?_)
  · obtain ⟨F0, ds, _, r, hl, _⟩ := h
    rw [← r.len, hl]
  · obtain ⟨F0, ds, hF, r, hl, hor⟩ := hsp
    obtain ⟨t, p, ev, ef⟩ := hb cdv A outer s H E hr hgd (takes_of rfl rfl rfl rfl)
    refine ⟨t, p, ?_⟩
    have S0 : Sta K mg ⟨F0, H, [], none⟩ F0 H (start N vs) (startS N ds) := sta_start hF r
    have gr : ∀ {σ' : L2.St} {F' H' : Hp} {sd' : SD}, Sta K mg ⟨F0, H, [], none⟩ F' H' σ' sd' → Grow F0 H F' H' := by
      intro σ' F' H' sd' S'
      refine ⟨S'.f0, S'.fh, fun a u h => S'.keep a u h (fun z => nomatch z), fun a h => ?_⟩
      rcases S'.fresh a h with h1 | h1 | h1
      · exact .inl h1
      · exact .inr h1
      · exact nomatch h1
    rcases hor with ⟨d, hm, q⟩ | ⟨y, hx, q⟩
    · unfold runP at hm
      cases e : m (startS N ds) with
      | none =>
        rw [e] at hm
        cases hm
      | some pr =>
        obtain ⟨o, sd'⟩ := pr
        rw [e] at hm
        refine ev _ F0 H _ _ o sd' S0 e _ ?_
        cases o with
        | nx =>
          cases hm
          exact fun σ' F' H' S' _ => q _ F' H' (gr S') (by unfold Rep; rfl)
        | rt d' =>
          cases hm
          exact fun v σ' F' H' S' _ rv => q v F' H' (gr S') rv
        | bk => cases hm
        | ct => cases hm
    · unfold runX at hx
      cases e : xm (startS N ds) with
      | none =>
        rw [e] at hx
        cases hx
      | some pr =>
        obtain ⟨y2, sd'⟩ := pr
        rw [e] at hx
        cases hx
        exact ef _ F0 H _ _ _ sd' S0 e (fun σ' F' H' cls d S' _ rx _ => q F' H' cls d (gr S') rx) _
end
/-! ### calls of such -/
section
variable {X : Cx} {CX : CXT} {k : Nat} {f C : Addr} {fd : FuncData} {ps : List Str} {sp : Sp} {dvs : List V} {ds : List Value} {E : L2.St → XK} {x m : Str} {p pos apos : Pos} {e o : Expr} {es : List Expr} {ta : TE} {t : TA}
theorem run_gS {pins : List (Addr × Obj)} {σ : L2.St} {H : Hp} {s : Shared} {Q : VK} {us : List Value} {vs : List V} (F : FnG X.prog X.w X.K X.mg X.base CX k f fd ps sp) (hr : Room k X.A) (hgd : X.A.guards = some []) (hb : Binds X.K fd ps ds) (hd : Vals dvs ds) (hx : PassesAt CX X σ (E σ))
    (I : Inv X pins σ H s) (r : Vals vs us) (h : sp (vs ++ dvs) H Q (E σ)) : wpAny (model X.prog X.w) X.A (call (.ref f) us) (EP X pins σ Q) X.xe s := by
  have r2 := r.append hd
  refine wpAny_call (codeAny_mono (F.go X.A X.stack s H ⟨us, []⟩ (us ++ ds) (vs ++ dvs) Q (E σ) hr hgd I.env0 (hb s us I.kIn ?_) r2 h) ?_)
  · rw [← r2.length]
    exact F.len _ _ _ _ h
  · intro r s' hq
    match r, hq with
    | .error e, hq => exact hx pins H s e s' I hq
    | .ok (.ret u), hq => exact I.after hq
    | .ok .next, hq => exact hq.elim
    | .ok .brk, hq => exact hq.elim
    | .ok .cont, hq => exact hq.elim
def tCallG (sp : Sp) (dvs : List V) (E : L2.St → XK) (t : TA) : TE := fun σ H Q => t σ H fun vs H1 => sp (vs ++ dvs) H1 Q (E σ)
def tMethG (C : Addr) (m : Str) (sp : Sp) (dvs : List V) (E : L2.St → XK) (ta : TE) (t : TA) : TE := fun σ H Q => ta σ H fun x H1 => ∃ a dx fs, x = .ref a ∧ H1 a = some (.ins C dx fs) ∧ fs.lookup m = none ∧ t σ H1 fun vs H2 => sp (.ref a :: (vs ++ dvs)) H2 Q (E σ)
theorem pgS_call (F : FnG X.prog X.w X.K X.mg X.base CX k f fd ps sp) (hr : Room k X.A) (hgd : X.A.guards = some []) (hg : Gl X x) (hm : X.mg x = some (.ref f)) (hk : PySem.W.keepIn X.K (.ref f) = true) (hb : Binds X.K fd ps ds) (hd : Vals dvs ds) (hx : ∀ σ, PassesAt CX X σ (E σ))
    (ha : PA X (e :: es) t) (hdb : (x == ("__debug__" : Str)) = false := by decide) (he : starEach (e :: es) X.env = (false, eval e X.env) :: starEach es X.env := by rfl) (hpl : (backTo pos (starEach es X.env)).any (·.1) = false := by rfl) :
    PE X (.Call (.Name x p) (e :: es) [] pos) (tCallG sp dvs E t) := by
  constructor
  intro pins s σ H Q I h
  refine wpAny_Call_Name_kw (ld_glob I hg hm ?_ hdb)
  refine PySem.W.callWith_K (h₀ := X.base) I.ok.mod.kin hk (thn (ha.run pos pins s σ H _ I h) ?_) he hpl
  rintro us s1 ⟨vs, H1, I1, r, q⟩
  exact ⟨I1.kIn, run_gS F hr hgd hb hd (hx σ) I1 r q⟩
theorem pgS_meth {pl : Sem Bool} (he : PE X o ta) (c : Cls X.K C) (hm : Meth X.K C m f) (F : FnG X.prog X.w X.K X.mg X.base CX k f fd ps sp) (hr : Room k X.A) (hgd : X.A.guards = some []) (hb : Binds X.K fd ps ds) (hd : Vals dvs ds) (hx : ∀ σ, PassesAt CX X σ (E σ)) (ha : PA X (e :: es) t)
    (hst : starEach (e :: es) X.env = (false, eval e X.env) :: starEach es X.env := by rfl) (hpl : (backTo pos (starEach es X.env)).any (·.1) = false := by rfl)
    (ht : eval (.Call (.Attribute o m apos) (e :: es) [] pos) X.env = (do
      let obj ← eval o X.env
      standAt apos.atName
      let (fn, own) ← holding [obj] (getMethod obj m pl)
      callWith pos fn own (backTo pos (starEach (e :: es) X.env)) (backToKw pos (keywordEach [] X.env))) := by rfl) :
    PE X (.Call (.Attribute o m apos) (e :: es) [] pos) (tMethG C m sp dvs E ta t) := by
  constructor
  intro pins s σ H Q I h
  refine PySem.W.methodCall_KW (pl := pl) (thn (he.run pins s σ H _ I h) ?_) ht
  rintro u s1 ⟨x, H1, I1, rx, a, dx, fs, rfl, ea, l, q⟩
  obtain rfl : u = Value.ref a := rx
  refine getmeth_ok I1 ea c hm l ?_
  refine PySem.W.callWith_K (first := [.ref a]) (h₀ := X.base) I.ok.mod.kin hm.kp (thn (ha.run pos pins s1 σ H1 _ I1 q) ?_) hst hpl
  rintro us s2 ⟨vs, H2, I2, r, q2⟩
  exact ⟨I2.kIn, run_gS (us := .ref a :: us) (vs := .ref a :: vs) F hr hgd hb hd (hx σ) I2 (.cons rfl r) q2⟩
end
section
variable {X : Cx} {W : WX} {k n : Nat} {f C : Addr} {fd : FuncData} {ps : List Str} {x m cls : Str} {p pos apos : Pos} {e o : Expr} {es : List Expr} {ta : TE} {t : TA} {mf xf : List D → Option D} {mL : M (List D)} {mo : M D} {ds : List Value} {dvs : List V} {ds0 : List D}
def xFn (n : Nat) (xf : List D → Option D) (ds0 : List D) (mL : M (List D)) : MX := fun sd => match mL sd with
  | some (ds, sd1) => if (ds ++ ds0).length = n then (xf (ds ++ ds0)).map fun y => (y, sd1) else none
  | none => none
theorem pex_fn (tk : Takes X W) (F : FnG X.prog X.w X.K X.mg X.base (L2.CX X.prog X.w) k f fd ps (spR X.K X.mg n mf xf)) (hr : Room k X.A) (hgd : X.A.guards = some []) (hg : Gl X x) (hm : X.mg x = some (.ref f)) (hk : PySem.W.keepIn X.K (.ref f) = true) (hb : Binds X.K fd ps ds) (hd : Vals dvs ds) (hdv : ∀ F, RepL X.K X.mg F ds0 dvs)
    (ha : PAd X (e :: es) t mL) (hdb : (x == ("__debug__" : Str)) = false := by decide) (he : starEach (e :: es) X.env = (false, eval e X.env) :: starEach es X.env := by rfl) (hpl : (backTo pos (starEach es X.env)).any (·.1) = false := by rfl) :
    PEx X W (.Call (.Name x p) (e :: es) [] pos) (tCallG (spR X.K X.mg n mf xf) dvs (WE W) t) (mFn n mf ds0 mL) (xFn n xf ds0 mL) := by
  refine ⟨pgS_call F hr hgd hg hm hk hb hd (fun σ => passAt tk σ) ha.1 hdb he hpl, fun B F0 H σ sd d sd' S hm' Q q => ?_, fun B F0 H σ sd y sd' S hm' w Q => ?_⟩
  · obtain ⟨es2, sd1, h1, h2⟩ := bnd_some hm'
    by_cases z : (es2 ++ ds0).length = n
    case neg =>
      rw [if_neg z] at h2
      cases h2
    rw [if_pos z] at h2
    obtain ⟨h3, rfl⟩ := lft_some h2
    refine ha.2 B F0 H σ sd es2 _ S h1 _ fun vs F1 H1 S1 e1 r1 => ⟨F1, _, S1.fh, r1.append (hdv F1), z, .inl ⟨d, h3, fun v F2 H2 g r2 => q v F2 H2 (S1.grow g) (e1.trans g.ff) r2⟩⟩
  · unfold xFn at hm'
    cases e1 : mL sd with
    | none =>
      rw [e1] at hm'
      cases hm'
    | some pr =>
      obtain ⟨es2, sd1⟩ := pr
      rw [e1] at hm'
      have hm2 : (if (es2 ++ ds0).length = n then (xf (es2 ++ ds0)).map fun y => (y, sd1) else none) = some (y, sd') := hm'
      by_cases z : (es2 ++ ds0).length = n
      case neg =>
        rw [if_neg z] at hm2
        cases hm2
      rw [if_pos z] at hm2
      cases e2 : xf (es2 ++ ds0) with
      | none =>
        rw [e2] at hm2
        cases hm2
      | some y2 =>
        rw [e2] at hm2
        cases hm2
        refine ha.2 B F0 H σ sd es2 _ S e1 _ fun vs F1 H1 S1 ex1 r1 => ⟨F1, _, S1.fh, r1.append (hdv F1), z, .inr ⟨y, e2, fun F2 H2 cls d g rx => w σ F2 H2 cls d (S1.grow g) (ex1.trans g.ff) rx rfl⟩⟩
def xMeth (n : Nat) (xf : List D → Option D) (cls m : Str) (ds0 : List D) (mo : M D) (mL : M (List D)) : MX := fun sd => match mo sd with
  | some (o, sd1) => if isC cls m o = true then (match mL sd1 with
    | some (ds, sd2) => if (o :: (ds ++ ds0)).length = n then (xf (o :: (ds ++ ds0))).map fun y => (y, sd2) else none
    | none => none) else none
  | none => none
theorem pex_meth (tk : Takes X W) (hc : Cls X.K C) (hM : Meth X.K C m f) (F : FnG X.prog X.w X.K X.mg X.base (L2.CX X.prog X.w) k f fd ps (spR X.K X.mg n mf xf)) (hr : Room k X.A) (hgd : X.A.guards = some []) (hb : Binds X.K fd ps ds) (hd : Vals dvs ds) (hdv : ∀ F, RepL X.K X.mg F ds0 dvs) (hm : X.mg cls = some (.ref C))
    (ho : PEd X o ta mo) (ha : PAd X (e :: es) t mL) {pl : Sem Bool} (hst : starEach (e :: es) X.env = (false, eval e X.env) :: starEach es X.env := by rfl) (hpl : (backTo pos (starEach es X.env)).any (·.1) = false := by rfl)
    (ht : eval (.Call (.Attribute o m apos) (e :: es) [] pos) X.env = (do
      let obj ← eval o X.env
      standAt apos.atName
      let (fn, own) ← holding [obj] (getMethod obj m pl)
      callWith pos fn own (backTo pos (starEach (e :: es) X.env)) (backToKw pos (keywordEach [] X.env))) := by rfl) :
    PEx X W (.Call (.Attribute o m apos) (e :: es) [] pos) (tMethG C m (spR X.K X.mg n mf xf) dvs (WE W) ta t) (mMeth n mf cls m ds0 mo mL) (xMeth n xf cls m ds0 mo mL) := by
  refine ⟨pgS_meth (pl := pl) ho.1 hc hM F hr hgd hb hd (fun σ => passAt tk σ) ha.1 hst hpl ht, fun B F0 H σ sd d sd' S hm' Q q => ?_, fun B F0 H σ sd y sd' S hm' w Q => ?_⟩
  · obtain ⟨ob, sd1, h1, h2⟩ := bnd_some hm'
    refine ho.2 B F0 H σ sd ob sd1 S h1 _ fun v F1 H1 S1 e1 r1 => ?_
    by_cases z : isC cls m ob = true
    case neg =>
      rw [if_neg z] at h2
      cases h2
    rw [if_pos z] at h2
    obtain ⟨ns, xs, rfl, hno⟩ := isC_some z
    obtain ⟨es2, sd2, h3, h4⟩ := bnd_some h2
    by_cases hl : (D.ins cls ns xs :: (es2 ++ ds0)).length = n
    case neg =>
      rw [if_neg hl] at h4
      cases h4
    rw [if_pos hl] at h4
    obtain ⟨h5, rfl⟩ := lft_some h4
    have r1' := r1
    unfold Rep at r1'
    obtain ⟨a, C', dx, vs, rfl, k1, k2, k3, k4⟩ := r1'
    rw [hm] at k1
    cases k1
    refine ⟨a, dx, _, rfl, S1.fh _ _ k2, lookup_zip_none hno, ?_⟩
    refine ha.2 B F1 H1 σ sd1 es2 _ S1 h3 _ fun vs2 F2 H2 S2 e2 r2 => ?_
    exact ⟨F2, _, S2.fh, RepL.cons (r1.mono e2) (r2.append (hdv F2)), hl, .inl ⟨d, h5, fun v F3 H3 g r3 => q v F3 H3 (S2.grow g) ((e1.trans e2).trans g.ff) r3⟩⟩
  · unfold xMeth at hm'
    cases e1 : mo sd with
    | none =>
      rw [e1] at hm'
      cases hm'
    | some pr =>
      obtain ⟨ob, sd1⟩ := pr
      rw [e1] at hm'
      refine ho.2 B F0 H σ sd ob sd1 S e1 _ fun v F1 H1 S1 ex1 r1 => ?_
      by_cases z : isC cls m ob = true
      case neg =>
        have hm2 := hm'
        simp only at hm2
        rw [if_neg z] at hm2
        cases hm2
      simp only at hm'
      rw [if_pos z] at hm'
      obtain ⟨ns, xs, rfl, hno⟩ := isC_some z
      cases e2 : mL sd1 with
      | none =>
        rw [e2] at hm'
        cases hm'
      | some pr2 =>
        obtain ⟨es2, sd2⟩ := pr2
        rw [e2] at hm'
        have hm2 : (if (D.ins cls ns xs :: (es2 ++ ds0)).length = n then (xf (D.ins cls ns xs :: (es2 ++ ds0))).map fun y => (y, sd2) else none) = some (y, sd') := hm'
        by_cases hl : (D.ins cls ns xs :: (es2 ++ ds0)).length = n
        case neg =>
          rw [if_neg hl] at hm2
          cases hm2
        rw [if_pos hl] at hm2
        cases e3 : xf (D.ins cls ns xs :: (es2 ++ ds0)) with
        | none =>
          rw [e3] at hm2
          cases hm2
        | some y2 =>
          rw [e3] at hm2
          cases hm2
          have r1' := r1
          unfold Rep at r1'
          obtain ⟨a, C', dx, vs, rfl, k1, k2, k3, k4⟩ := r1'
          rw [hm] at k1
          cases k1
          refine ⟨a, dx, _, rfl, S1.fh _ _ k2, lookup_zip_none hno, ?_⟩
          refine ha.2 B F1 H1 σ sd1 es2 _ S1 e2 _ fun vs2 F2 H2 S2 ex2 r2 => ?_
          exact ⟨F2, _, S2.fh, RepL.cons (r1.mono ex2) (r2.append (hdv F2)), hl, .inr ⟨y, e3, fun F3 H3 cls d g rx => w σ F3 H3 cls d (S2.grow g) ((ex1.trans ex2).trans g.ff) rx rfl⟩⟩
end
end Mir
set_option linter.all false
set_option maxRecDepth 100000
set_option maxHeartbeats 4000001
namespace Mir
open PySem PySem.Spec L2

/-! ### try: .. except C as e: .. , any number of clauses -/
abbrev TS3 := Addr → Value → Option Addr → TS
/-- behind a suite its name is gone -/
def gone (i : Nat) (D : Ends) : Ends := ⟨fun σ H => D.nx (σ.set i none) H, D.rt, fun σ H => D.bk (σ.set i none) H, fun σ H => D.ct (σ.set i none) H⟩
def wTry (K : Fr') (Wout : WX) (D : Ends) : List (Value × Option Nat × TS3) → WX
  | [] => Wout
  | (c, some i, ts) :: r => fun cls d σ H => ∃ b, PySem.W.exmOne K cls c = some b ∧ (b = true → ∀ a, H a = none → ts a cls d (gone i D) (σ.set i (some (.ref a))) H) ∧ (b = false → wTry K Wout D r cls d σ H)
  | (c, none, ts) :: r => fun cls d σ H => ∃ b, PySem.W.exmOne K cls c = some b ∧ (b = true → ∀ a, H a = none → ts a cls d D σ H) ∧ (b = false → wTry K Wout D r cls d σ H)
/-- the suite of a clause, for whatever error is caught -/
def SuiteOk (X : Cx) (suite : List Stmt) (ts : TS3) : Prop := ∀ (a : Addr) (oe : Obj) (cls : Value) (d : Option Addr) (pn : List (Addr × Obj)), Zc cls d oe → (∃ vs, oe.data = .fields vs) → PSs (X.suite a ((a, oe) :: pn)) suite (ts a cls d)
inductive HdsG (X : Cx) : List ExceptHandler → List (Value × Option Nat × TS3) → Prop
  | nil : HdsG X [] []
  | as {x n : Str} {c : Value} {i : Nat} {ts : TS3} {b0 : Stmt} {suite : List Stmt} {np pos' : Pos} {hds : List ExceptHandler} {l : List (Value × Option Nat × TS3)} (hc : Names X x c) (hN : X.N.Nodup) (hi : X.N[i]? = some n) (hln : X.env.kindOf n = some .local)
      (hsu : SuiteOk X (b0 :: suite) ts) (r : HdsG X hds l) : HdsG X (.ExceptHandler (some (.Name x np)) (some n) (b0 :: suite) pos' :: hds) ((c, some i, ts) :: l)
  | pl {x : Str} {c : Value} {ts : TS3} {b0 : Stmt} {suite : List Stmt} {np pos' : Pos} {hds : List ExceptHandler} {l : List (Value × Option Nat × TS3)} (hc : Names X x c)
      (hsu : SuiteOk X (b0 :: suite) ts) (r : HdsG X hds l) : HdsG X (.ExceptHandler (some (.Name x np)) none (b0 :: suite) pos' :: hds) ((c, none, ts) :: l)
section
variable {X : Cx} {body : List Stmt} {h0 : ExceptHandler} {hds : List ExceptHandler} {l : List (Value × Option Nat × TS3)} {pos : Pos} {tb : WX → TS} {Wout : WX}
theorem ps_tryG (hs : X.stack = X.env :: X.outer) (hf : X.env.frame = some X.env.locals) (tk : Takes X Wout)
    (hb : ∀ (W : WX) (pn : List (Addr × Obj)) (xe : Value → Shared → Prop), Takes (X.tr pn xe) W → PassesOwn (model X.prog X.w) X.A X.env xe → PSs (X.tr pn xe) body (tb W)) (hh : HdsG X (h0 :: hds) l) :
    PS X (.Try body (h0 :: hds) [] [] pos) (fun D σ H => tb (wTry X.K Wout D l) D σ H) := by
  constructor
  intro pins s σ H D I h
  have ok := I.ok
  have hfr : X.A.frames = some (X.env :: X.outer) := by
    rw [ok.frames, hs]
  refine wpAny_Try_except ?_
  have bodyOk := hb (wTry X.K Wout D l) (X.pn ++ pins) (fun e t1 => wpAny (model X.prog X.w) X.A (noteFrame e X.env) (fun _ t2 => wpAny (model X.prog X.w) X.A (setFlight e none) (fun _ t3 =>
      wpAny (model X.prog X.w) X.A (handleBy e X.env (h0 :: hds)) (SP X pins D) X.xe t3) X.xe t2) X.xe t1)
  refine wpAny_mono ((bodyOk (fun u s' air => ?_) PassesOwn.looking).run [] s σ H D (I.toTry _) h) (fun fl s1 hsp => ?_) (fun e s1 he => he)
  · obtain ⟨a, B, sI, pins', σ', H', cls, d, rfl, J', nb, up, sky, na, os, ag, w⟩ := air
    have J : Inv X pins σ' H' sI := J'.ofTry ok
    have sky2 : Sky B (X.env :: X.outer) a (Zc cls d) X.env.locals s'.heap := by
      rw [← hs]
      exact sky
    show wpAny (model X.prog X.w) X.A (noteFrame (.ref a) X.env) _ _ _
    refine Sky.land Zc.steady hfr hf sky2 fun h3 fl3 up3 => ?_
    have J3 : Inv X pins σ' H' { s' with heap := h3 } := J.landed nb fl3.1 (up.trans up3) os ag
    obtain ⟨oe3, vs3, he3, hz3, hd3⟩ := fl3.there
    have off : a ∉ frs (X.env :: X.outer) := by
      intro hm
      obtain ⟨_, o', e', hnf⟩ := fl3.2.2.1.mem hm
      rw [he3] at e'
      cases e'
      exact hnf _ hd3
    have nL : a ≠ X.env.locals := by
      intro z
      exact off (List.mem_filterMap.mpr ⟨X.env, List.mem_cons_self, by rw [hf, z]⟩)
    have nF : a ∉ X.fs := by
      intro hm
      obtain ⟨e, he, q⟩ := List.mem_filterMap.mp hm
      exact off (List.mem_filterMap.mpr ⟨e, List.mem_cons_of_mem _ he, q⟩)
    have S3 := J3.suite he3 hd3 na nL nF
    have LT : PySem.W.Looks (model X.prog X.w) h3 (typeOf (.ref a)) cls := by
      intro A Q E s k q
      exact wpAny_typeOf_ref (k _ _ he3) (by rw [hz3.1]; exact q)
    have asks : ∀ {x : Str} {c : Value} {np : Pos}, Names X x c → ∀ {Q : Value → Shared → Prop} {E : Value → Shared → Prop}, Q c { s' with heap := h3 } → wpAny (model X.prog X.w) (X.A.mark (some (.ref a))) (eval (.Name x np) X.env) Q E { s' with heap := h3 } := by
      intro x c np hc Q E q
      obtain ⟨hg, hdbg, hm | ⟨hm, hv, hnn⟩⟩ := hc
      · exact ld_glob (X := X.suite a ((a, oe3) :: (X.pn ++ pins))) S3 hg hm q hdbg
      · exact ld_blt (X := X.suite a ((a, oe3) :: (X.pn ++ pins))) S3 hg hm hv q hnn hdbg
    have go : ∀ {hds2 : List ExceptHandler} {l2 : List (Value × Option Nat × TS3)}, HdsG X hds2 l2 → wTry X.K Wout D l2 cls d σ' H' →
        wpAny (model X.prog X.w) X.A (handleBy (.ref a) X.env hds2) (SP X pins D) X.xe { s' with heap := h3 } := by
      intro hds2 l2 hk
      induction hk with
      | nil =>
        intro w
        refine wpAny_handleBy_nil ?_
        obtain ⟨k1, k2, k3, oe, vs, T, oT, ts', he, hz, hd, h1, hr⟩ := id fl3
        unfold PySem.passOn
        refine wpAny_bind (wpAny_field he hd h1 ?_)
        rw [if_neg (show ¬ ((Value.ref T == Value.none) = true) from by simp)]
        have away : wpAny (model X.prog X.w) X.A (setFlight (.ref a) X.env.frame) (fun _ s4 => wpAny (model X.prog X.w) X.A (throw (.ref a) : Sem Flow) (SP X pins D) X.xe s4) X.xe { s' with heap := h3 } := by
          rw [hf]
          refine HandSPX.setFlight_upZ fl3 fun h4 hh4 up4 => wpAny_throw (tk _ _ ?_)
          exact ⟨a, B, sI, pins, σ', H', cls, d, rfl, J, nb, (up.trans up3).trans up4, .inr (.inr (by rw [hs]; exact hh4)), na, os, ag, w⟩
        first
          | exact wpAny_bind (wpAny_pure (wpAny_bind away))
          | exact wpAny_bind away
      | @as x n c i ts b0 suite np pos' hds3 l3 hc hN hi hln hsu r ih =>
        intro w
        obtain ⟨b, hb1, hyes, hno⟩ := w
        refine wpAny_handleBy_cons (codeAny_handlers_test ?_) (by intro q; cases q)
        have LM := PySem.W.exm_one (M := model X.prog X.w) (J3.kIn) LT hb1
        refine asks hc (LM.here ?_)
        cases b with
        | false =>
          show wpAny _ X.A (handleBy (.ref a) X.env hds3) _ _ _
          exact ih (hno rfl)
        | true =>
          refine codeAny_handlers_suite_as ?_
          refine HandSPX.lands_againZ fl3 fun h4 fl4 up4 => ?_
          have J4 : Inv X pins σ' H' { s' with heap := h4 } := J.landed nb fl4.1 ((up.trans up3).trans up4) os ag
          obtain ⟨oe4, vs4, he4, hz4, hd4⟩ := fl4.there
          have S4 := J4.suite he4 hd4 na nL nF
          refine store_ok (X := X.suite a ((a, oe4) :: (X.pn ++ pins))) (v := .ref a) S4 hN hi (.inl hln) rfl (fun s5 S5 => ?_) (.inr hln)
          refine wpAny_mono ((hsu a oe4 cls d (X.pn ++ pins) hz4 ⟨_, hd4⟩).run [] s5 _ H' _ S5 (hyes rfl a na)) (fun fl s6 hsp => ?_) (fun _ _ z => False.elim z)
          have over : ∀ {σ6 : L2.St} {H6 : Hp} {Q : Shared → Prop}, Inv (X.suite a ((a, oe4) :: (X.pn ++ pins))) [] σ6 H6 s6 → (∀ s7, Inv X pins (σ6.set i none) H6 s7 → Q s7) →
              wpAny (model X.prog X.w) X.A (do bindName X.env n .none; unbindBehindTheSuite X.env n pos') (fun _ s7 => Q s7) X.xe s6 := by
            intro σ6 H6 Q S6 hq
            exact gone_ok (S6.unsuite ok) hN hi hln hq
          match fl, hsp with
          | .next, ⟨σ6, H6, S6, q6⟩ => exact over S6 fun s7 J7 => ⟨_, _, J7, q6⟩
          | .brk, ⟨σ6, H6, S6, q6⟩ => exact over S6 fun s7 J7 => ⟨_, _, J7, q6⟩
          | .cont, ⟨σ6, H6, S6, q6⟩ => exact over S6 fun s7 J7 => ⟨_, _, J7, q6⟩
          | .ret u, ⟨v6, σ6, H6, S6, r6, q6⟩ => exact over S6 fun s7 J7 => ⟨_, _, _, J7, r6, q6⟩
      | @pl x c ts b0 suite np pos' hds3 l3 hc hsu r ih =>
        intro w
        obtain ⟨b, hb1, hyes, hno⟩ := w
        refine wpAny_handleBy_cons (codeAny_handlers_test ?_) (by intro q; cases q)
        have LM := PySem.W.exm_one (M := model X.prog X.w) (J3.kIn) LT hb1
        refine asks hc (LM.here ?_)
        cases b with
        | false =>
          show wpAny _ X.A (handleBy (.ref a) X.env hds3) _ _ _
          exact ih (hno rfl)
        | true =>
          refine codeAny_handlers_suite ?_
          refine HandSPX.lands_againZ fl3 fun h4 fl4 up4 => ?_
          have J4 : Inv X pins σ' H' { s' with heap := h4 } := J.landed nb fl4.1 ((up.trans up3).trans up4) os ag
          obtain ⟨oe4, vs4, he4, hz4, hd4⟩ := fl4.there
          have S4 := J4.suite he4 hd4 na nL nF
          refine wpAny_mono ((hsu a oe4 cls d (X.pn ++ pins) hz4 ⟨_, hd4⟩).run [] _ _ H' _ S4 (hyes rfl a na)) (fun fl s6 hsp => ?_) (fun _ _ z => False.elim z)
          match fl, hsp with
          | .next, ⟨σ6, H6, S6, q6⟩ => exact ⟨_, _, S6.unsuite ok, q6⟩
          | .brk, ⟨σ6, H6, S6, q6⟩ => exact ⟨_, _, S6.unsuite ok, q6⟩
          | .cont, ⟨σ6, H6, S6, q6⟩ => exact ⟨_, _, S6.unsuite ok, q6⟩
          | .ret u, ⟨v6, σ6, H6, S6, r6, q6⟩ => exact ⟨_, _, _, S6.unsuite ok, r6, q6⟩
    exact go hh w
  · match fl, hsp with
    | .next, ⟨σ', H', J', q⟩ => exact wpAny_execs_nil ⟨σ', H', J'.ofTry ok, q⟩
    | .brk, ⟨σ', H', J', q⟩ => exact ⟨σ', H', J'.ofTry ok, q⟩
    | .cont, ⟨σ', H', J', q⟩ => exact ⟨σ', H', J'.ofTry ok, q⟩
    | .ret u, ⟨v, σ', H', J', r, q⟩ => exact ⟨v, σ', H', J'.ofTry ok, r, q⟩
/-- nothing is let out -/
theorem takes_none : Takes X (fun _ _ _ _ => False) := by
  rintro u s' ⟨a, B, sI, pins, σ, H, cls, d, e, I, nb, up, sky, na, os, ag, w⟩
  exact w.elim
end
end Mir
set_option linter.all false
set_option maxRecDepth 100000
set_option maxHeartbeats 4000001
namespace Mir
open PySem PySem.Spec L2
/-- a clause's mirror: which classes it takes, its name's slot, its suite -/
inductive Hd where
  | as (tab : List (Str × Bool)) (i : Nat) (ms : Addr → Value → Option Addr → M Out)
  | pl (tab : List (Str × Bool)) (m : M Out)
def hotSd (sd : SD) (i : Nat) (a : Addr) (cls : Value) (d : Option Addr) (c : Str) (ns : List Str) (xs : List D) : SD := sd.set i (.val (.hot a cls d c ns xs))
theorem hotSd_no {sd : SD} {i : Nat} {a : Addr} {cls : Value} {d : Option Addr} {c : Str} {ns : List Str} {xs : List D} : (hotSd sd i a cls d c ns xs).set i .no = sd.set i .no := by
  unfold hotSd
  rw [List.set_set]
open Classical in
/-- the suite, wherever the error lies -/
noncomputable def hotRun (i : Nat) (ms : Addr → Value → Option Addr → M Out) (c : Str) (ns : List Str) (xs : List D) : M Out := fun sd =>
  if h : ∃ r : Out × SD, ∀ a cls d, ms a cls d (hotSd sd i a cls d c ns xs) = some (r.1, hotSd r.2 i a cls d c ns xs) then some (h.choose.1, h.choose.2.set i .no) else none
theorem hotRun_eq {i : Nat} {ms : Addr → Value → Option Addr → M Out} {c : Str} {ns : List Str} {xs : List D} {sd sd2 : SD} {o : Out} (h : ∀ a cls d, ms a cls d (hotSd sd i a cls d c ns xs) = some (o, hotSd sd2 i a cls d c ns xs)) :
    hotRun i ms c ns xs sd = some (o, sd2.set i .no) := by
  have ex : ∃ r : Out × SD, ∀ a cls d, ms a cls d (hotSd sd i a cls d c ns xs) = some (r.1, hotSd r.2 i a cls d c ns xs) := ⟨(o, sd2), h⟩
  unfold hotRun
  rw [dif_pos ex]
  have q := ex.choose_spec 0 .none none
  rw [h 0 .none none] at q
  have q2 := Option.some.inj q
  have q3 : ex.choose.1 = o := (congrArg Prod.fst q2).symm
  have q4 : hotSd sd2 i 0 .none none c ns xs = hotSd ex.choose.2 i 0 .none none c ns xs := congrArg Prod.snd q2
  have q5 : ∀ s : SD, (hotSd s i 0 .none none c ns xs).set i .no = s.set i .no := fun s => by
    unfold hotSd
    rw [List.set_set]
  rw [q3, ← q5 ex.choose.2, ← q4, q5]
noncomputable def mHandle : List Hd → D → M Out
  | .as tab i ms :: r, .exn c ns xs => match tab.lookup c with
    | some true => if i ≠ 0 then hotRun i ms c ns xs else fun _ => none
    | some false => mHandle r (.exn c ns xs)
    | none => fun _ => none
  | .pl tab m :: r, .exn c ns xs => match tab.lookup c with
    | some true => m
    | some false => mHandle r (.exn c ns xs)
    | none => fun _ => none
  | _, _ => fun _ => none
noncomputable def mTry (m : M Out) (xm : MX) (hs : List Hd) : M Out := fun sd => match xm sd with
  | none => m sd
  | some (x, sd1) => mHandle hs x sd1
/-- which classes a clause takes -/
def XmOk (K : Fr') (mg : Str → Option Value) (u : Value) (tab : List (Str × Bool)) : Prop := ∀ p ∈ tab, ∀ C, mg p.1 = some (.ref C) → PySem.W.exmOne K (.ref C) u = some p.2
inductive HdsM (X : Cx) : List (Value × Option Nat × TS3) → List Hd → Prop
  | nil : HdsM X [] []
  | as {c : Value} {i : Nat} {ts : TS3} {tab : List (Str × Bool)} {ms : Addr → Value → Option Addr → M Out} {l : List (Value × Option Nat × TS3)} {hs : List Hd} (ht : XmOk X.K X.mg c tab) (ev : ∀ a cls d, ExD X.K X.mg (ts a cls d) (ms a cls d)) (r : HdsM X l hs) : HdsM X ((c, some i, ts) :: l) (.as tab i ms :: hs)
  | pl {c : Value} {ts : TS3} {tab : List (Str × Bool)} {m : M Out} {l : List (Value × Option Nat × TS3)} {hs : List Hd} (ht : XmOk X.K X.mg c tab) (ev : ∀ a cls d, ExD X.K X.mg (ts a cls d) m) (r : HdsM X l hs) : HdsM X ((c, none, ts) :: l) (.pl tab m :: hs)
theorem handle_ok {X : Cx} {Wout : WX} {B : Bs} {F0 : Hp} {E : Ends} {o : Out} {sd1 sd' : SD} {x : D} (w : Wants X.K X.mg B F0 sd' E o) : ∀ {l : List (Value × Option Nat × TS3)} {hs : List Hd}, HdsM X l hs → mHandle hs x sd1 = some (o, sd') →
    ∀ σ F H cls d, Sta X.K X.mg B F H σ sd1 → Ex F0 F → RepX X.K X.mg F x cls d → wTry X.K Wout E l cls d σ H := by
  intro l hs hk
  induction hk with
  | nil =>
    intro hm
    cases x <;> cases hm
  | @as c i ts tab ms l hs ht ev r ih =>
    intro hm σ F H cls d S e0 rx
    have rx' := rx
    obtain ⟨c1, ns, xs, C, vs, rfl, mc, rfl, hd, hl, rl⟩ := rx
    cases el : tab.lookup c1 with
    | none =>
      simp only [mHandle, el] at hm
      cases hm
    | some b =>
      have hb := ht (c1, b) (mem_of_lookup el) C mc
      cases b with
      | false =>
        simp only [mHandle, el] at hm
        refine ⟨false, hb, fun z => ?_, fun _ => ih hm σ F H _ d S e0 rx'⟩
        cases z
      | true =>
        simp only [mHandle, el] at hm
        by_cases hi : i ≠ 0
        case neg =>
          rw [if_neg hi] at hm
          cases hm
        rw [if_pos hi] at hm
        refine ⟨true, hb, fun _ a na => ?_, fun z => by cases z⟩
        unfold hotRun at hm
        split at hm
        case isFalse => cases hm
        rename_i ex
        have sp := ex.choose_spec a (.ref C) d
        have f0 : free0 i sd1 = true := by
          unfold free0
          split
          · exact absurd rfl hi
          · rfl
        have S1 : Sta X.K X.mg B F H (σ.set i (some (.ref a))) (hotSd sd1 i a (.ref C) d c1 ns xs) := S.set i (d := .hot a (.ref C) d c1 ns xs) (by unfold Rep; exact ⟨rfl, C, vs, mc, rfl, hd, hl, rl⟩) f0
        have hh := Option.some.inj hm
        have ho : ex.choose.1 = o := congrArg Prod.fst hh
        have hs2 : ex.choose.2.set i .no = sd' := congrArg Prod.snd hh
        have back_ : ∀ {σ2 : L2.St} {F2 H2 : Hp}, Sta X.K X.mg B F2 H2 σ2 (hotSd ex.choose.2 i a (.ref C) d c1 ns xs) → Sta X.K X.mg B F2 H2 (σ2.set i none) sd' := by
          intro σ2 F2 H2 S2
          have S3 := S2.forget i none hi
          rw [hotSd_no, hs2] at S3
          exact S3
        refine ev a (.ref C) d B F H _ _ _ _ S1 sp (gone i E) ?_
        rw [ho]
        cases o with
        | nx => exact fun σ2 F2 H2 S2 e2 => w _ F2 H2 (back_ S2) (e0.trans e2)
        | rt d2 => exact fun v σ2 F2 H2 S2 e2 r2 => w v _ F2 H2 (back_ S2) (e0.trans e2) r2
        | bk => exact fun σ2 F2 H2 S2 e2 => w _ F2 H2 (back_ S2) (e0.trans e2)
        | ct => exact fun σ2 F2 H2 S2 e2 => w _ F2 H2 (back_ S2) (e0.trans e2)
  | @pl c ts tab m l hs ht ev r ih =>
    intro hm σ F H cls d S e0 rx
    have rx' := rx
    obtain ⟨c1, ns, xs, C, vs, rfl, mc, rfl, hd, hl, rl⟩ := rx
    cases el : tab.lookup c1 with
    | none =>
      simp only [mHandle, el] at hm
      cases hm
    | some b =>
      have hb := ht (c1, b) (mem_of_lookup el) C mc
      cases b with
      | false =>
        simp only [mHandle, el] at hm
        refine ⟨false, hb, fun z => ?_, fun _ => ih hm σ F H _ d S e0 rx'⟩
        cases z
      | true =>
        simp only [mHandle, el] at hm
        refine ⟨true, hb, fun _ a na => ev a _ d B F H σ sd1 o sd' S hm E (w.mono e0), fun z => ?_⟩
        cases z
/-- THE RULE: nothing is let out -/
theorem ps_tryd {X : Cx} {body : List Stmt} {h0 : ExceptHandler} {hds : List ExceptHandler} {l : List (Value × Option Nat × TS3)} {pos : Pos} {tb : WX → TS} {m : M Out} {xm : MX} {hs : List Hd} (h1 : X.stack = X.env :: X.outer) (hf : X.env.frame = some X.env.locals)
    (hb : ∀ (W : WX) (pn : List (Addr × Obj)) (xe : Value → Shared → Prop), Takes (X.tr pn xe) W → PSsx (X.tr pn xe) W body (tb W) m xm) (hh : HdsG X (h0 :: hds) l) (hk : HdsM X l hs) :
    PSd X (.Try body (h0 :: hds) [] [] pos) (fun E σ H => tb (wTry X.K (fun _ _ _ _ => False) E l) E σ H) (mTry m xm hs) := by
  refine ⟨ps_tryG h1 hf takes_none (fun W pn xe tk _ => (hb W pn xe tk).1) hh, fun B F H σ sd o sd' S hm E w => ?_⟩
  have q := hb (wTry X.K (fun _ _ _ _ => False) E l) [] (fun u s' => XE (X.tr [] (fun _ _ => False)) (wTry X.K (fun _ _ _ _ => False) E l) u s')
    (fun u s' z => by
      obtain ⟨a, B, sI, pins, σ, H, cls, d, e, I, rest⟩ := z
      exact ⟨a, B, sI, pins, σ, H, cls, d, e, I.wish _, rest⟩)
  unfold mTry at hm
  cases e1 : xm sd with
  | none =>
    rw [e1] at hm
    exact q.2.1 B F H σ sd o sd' S hm E w
  | some r =>
    obtain ⟨x, sd1⟩ := r
    rw [e1] at hm
    exact q.2.2 B F H σ sd x sd1 S e1 (fun σ' F' H' cls d S' e2 rx _ => handle_ok w hk hm σ' F' H' cls d S' e2 rx) E
end Mir
set_option linter.all false
set_option maxRecDepth 100000
set_option maxHeartbeats 4000001
namespace Mir
open PySem PySem.Spec L2
/-! ### e.f and isinstance(e, C) of the error that is caught -/
def tHotF (K : Fr') (a : Addr) (cls : Value) (d : Option Addr) (f : Str) (te : TE) : TE := fun σ H Q => te σ H fun x H1 => x = .ref a ∧ ∃ (C dd : Addr) (fs : List (Str × V)) (v : V), cls = .ref C ∧ d = some dd ∧ XcC K C ∧ PySem.W.findIn K (.ref C) f = some none ∧ H1 dd = some (.xd fs) ∧ fs.lookup f = some v ∧ Q v H1
def mHotF (a : Addr) (cls : Value) (d : Option Addr) (cs : List Str) (f : Str) (i : Nat) : M D := fun sd => match sd[i]? with
  | some (.val (.hot a1 cls1 d1 c ns xs)) => if a1 = a ∧ cls1 = cls ∧ d1 = d ∧ c ∈ cs then ((ns.zip xs).lookup f).map fun y => (y, sd) else none
  | _ => none
def mHotIs (a : Addr) (cls : Value) (d : Option Addr) (tab : List (Str × Bool)) (i : Nat) : M D := fun sd => match sd[i]? with
  | some (.val (.hot a1 cls1 d1 c ns xs)) => if a1 = a ∧ cls1 = cls ∧ d1 = d then (tab.lookup c).map fun y => (.bl y, sd) else none
  | _ => none
def rHotIs (K : Fr') (a : Addr) (cls : Value) (d : Option Addr) : List V → Hp → VK → Prop := fun xs H Q => ∃ (C : Addr) (fs : List (Str × V)) (c : V) (u : Value) (b : Bool), xs = [.ref a, c] ∧ cls = .ref C ∧ XcC K C ∧ XHeld H d fs ∧ ClsV c u ∧ PySem.W.kitOne K (.ref C) u = some b ∧ Q (.bl b) H
section
variable {X : Cx} {a : Addr} {oe : Obj} {cls : Value} {d : Option Addr} {pn : List (Addr × Obj)} {i : Nat} {f x : Str} {cs : List Str} {p pos p2 : Pos} {te : TE}
theorem hot_at {pins : List (Addr × Obj)} {σ : L2.St} {H : Hp} {s : Shared} {C : Addr} {fs : List (Str × V)} (hz : Zc cls d oe) (hf : ∃ vs, oe.data = .fields vs) (I : Inv (X.suite a ((a, oe) :: pn)) pins σ H s) (hc : cls = .ref C) (hd : XHeld H d fs) :
    ∃ o, PySem.W.InstAt s.heap a oe C o := by
  obtain ⟨hget, _⟩ := I.pin (a, oe) (List.mem_append_left _ List.mem_cons_self)
  obtain ⟨vs, hv⟩ := hf
  have nc : PySem.W.notCls oe = true := by
    unfold PySem.W.notCls
    rw [hv]
  cases d with
  | none => exact ⟨none, hget, by rw [hz.1, hc], nc, by rw [hz.2]; exact True.intro⟩
  | some dd =>
    have hx : ObjOk X.prog X.w H s.heap dd (.xd fs) := I.hok dd _ hd
    obtain ⟨mA, hns, hr⟩ := hx
    obtain ⟨od, ho, hl⟩ := lookIn_ns hns
    exact ⟨some od, hget, by rw [hz.1, hc], nc, by rw [hz.2]; exact ho⟩
theorem pe_hotF {e : Expr} (hz : Zc cls d oe) (hf : ∃ vs, oe.data = .fields vs) (he : PE (X.suite a ((a, oe) :: pn)) e te) (hb : attributeBase e f X.env (eval e X.env) = eval e X.env := by rfl) : PE (X.suite a ((a, oe) :: pn)) (.Attribute e f pos) (tHotF X.K a cls d f te) := by
  constructor
  intro pins s σ H Q I h
  refine attr_of hb (thn (he.run pins s σ H _ I h) ?_)
  rintro u s1 ⟨x, H1, I1, rx, rfl, C, dd, fs, v, hc, hd, T, no, ed, l, q⟩
  obtain rfl : u = Value.ref a := rx
  subst hd
  obtain ⟨hget, _⟩ := I1.pin (a, oe) (List.mem_append_left _ List.mem_cons_self)
  obtain ⟨vs, hv⟩ := hf
  have hx : ObjOk X.prog X.w H1 s1.heap dd (.xd fs) := I1.hok dd _ ed
  obtain ⟨mA, hns, hr⟩ := hx
  obtain ⟨od, ho, hl⟩ := lookIn_ns hns
  obtain ⟨u, hu, ru⟩ := RelO.some_of (v := v) (o := mA f) (by rw [← l]; exact hr f)
  have J : PySem.W.InstAt s1.heap a oe C (some od) := ⟨hget, by rw [hz.1, hc], by unfold PySem.W.notCls; rw [hv], by rw [hz.2]; exact ho⟩
  exact HandSPX.exc_get I1.kIn J T.ga T.gg T.su (PySem.W.findObj_own T.hd no rfl (by rw [hl, hu])) (handed_of ru) ⟨v, H1, I1.tok _, ru, q⟩
theorem pd_hotF {e : Expr} (hz : Zc cls d oe) (hf : ∃ vs, oe.data = .fields vs) (hX : XfOk X.K X.mg f cs) (he : PE (X.suite a ((a, oe) :: pn)) e (tVar i)) (hb : attributeBase e f X.env (eval e X.env) = eval e X.env := by rfl) :
    PEd (X.suite a ((a, oe) :: pn)) (.Attribute e f pos) (tHotF X.K a cls d f (tVar i)) (mHotF a cls d cs f i) := by
  refine ⟨pe_hotF hz hf he hb, fun B F H σ sd y sd' S h Q q => ?_⟩
  unfold mHotF at h
  split at h
  · rename_i a1 cls1 d1 c ns xs es
    by_cases z : a1 = a ∧ cls1 = cls ∧ d1 = d ∧ c ∈ cs
    case neg =>
      rw [if_neg z] at h
      cases h
    rw [if_pos z] at h
    obtain ⟨rfl, rfl, rfl, hc⟩ := z
    cases el : (ns.zip xs).lookup f with
    | none =>
      rw [el] at h
      cases h
    | some y2 =>
      rw [el] at h
      cases h
      obtain ⟨v, h1, r1⟩ := S.val es
      unfold Rep at r1
      obtain ⟨rfl, C, vs, mc, e2, hd, hl, rl⟩ := r1
      obtain ⟨T, no⟩ := hX c hc C mc
      obtain ⟨w, lw, rw_⟩ := lookup_zip_rep rl el
      refine ⟨.ref a1, h1, rfl, ?_⟩
      cases d1 with
      | none =>
        have z2 : ns.zip vs = [] := hd
        rw [z2] at lw
        cases lw
      | some dd => exact ⟨C, dd, _, w, e2, rfl, T, no, S.fh _ _ (show F dd = some (.xd (ns.zip vs)) from hd), lw, q w F H S (Evl.Ex.refl _) rw_⟩
  · cases h
theorem call_hotIs (hz : Zc cls d oe) (hf : ∃ vs, oe.data = .fields vs) : CallR (X.suite a ((a, oe) :: pn)) (.builtin "isinstance") (rHotIs X.K a cls d) := by
  intro pins s σ H xs us Q I r h
  obtain ⟨C, fs, c, u, b, rfl, hc, T, hd, hcv, hk, q⟩ := h
  cases r with
  | cons rx rr =>
    cases rr with
    | cons rt rr =>
      cases rr
      rename_i v1 v2
      obtain rfl : v1 = Value.ref a := rx
      obtain rfl : v2 = u := by
        cases hcv
        · exact rt
        · exact rt
      obtain ⟨cd, hcl, _⟩ := T.some_
      obtain ⟨o, J⟩ := hot_at hz hf I hc hd
      refine PySem.W.kia_one (PySem.W.kitx_exc (by rw [hcl]; rfl) T.ga T.gg T.su T.ca T.cn T.ct T.cm) I.kIn J hk (fun z => nomatch z) fun tk => ?_
      exact ⟨.bl b, H, I.kept (t' := tk) fun _ _ z => z, rfl, q⟩
theorem pd_hotIs {e b : Expr} {v : V} {u : Value} {tab : List (Str × Bool)} (hz : Zc cls d oe) (hf : ∃ vs, oe.data = .fields vs) (hg : Gl (X.suite a ((a, oe) :: pn)) "isinstance") (hm : X.mg "isinstance" = none) (he : PE (X.suite a ((a, oe) :: pn)) e (tVar i)) (hc : PE (X.suite a ((a, oe) :: pn)) b (tC v)) (hv : ClsV v u) (ht : XtOk X.K X.mg u tab)
    (h1 : starEach [e, b] X.env = (false, eval e X.env) :: starEach [b] X.env := by rfl) (h2 : starEach [b] X.env = (false, eval b X.env) :: starEach [] X.env := by rfl) (hpl : (backTo pos (starEach [b] X.env)).any (·.1) = false := by rfl) :
    PEd (X.suite a ((a, oe) :: pn)) (.Call (.Name "isinstance" p) [e, b] [] pos) (tCB (rHotIs X.K a cls d) (tCons (tVar i) (tCons (tC v) tNil))) (mHotIs a cls d tab i) := by
  refine ⟨pe_callB (call_hotIs hz hf) hg hm boot_isi (pa_cons he (pa_cons hc pa_nil h2) h1) (by decide) (by decide) h1 hpl, fun B F H σ sd y sd' S h Q q => ?_⟩
  unfold mHotIs at h
  split at h
  · rename_i a1 cls1 d1 c ns xs es
    by_cases z : a1 = a ∧ cls1 = cls ∧ d1 = d
    case neg =>
      rw [if_neg z] at h
      cases h
    rw [if_pos z] at h
    obtain ⟨rfl, rfl, rfl⟩ := z
    cases el : tab.lookup c with
    | none =>
      rw [el] at h
      cases h
    | some y2 =>
      rw [el] at h
      cases h
      obtain ⟨v1, h1, r1⟩ := S.val es
      unfold Rep at r1
      obtain ⟨rfl, C, vs, mc, e2, hd, hl, rl⟩ := r1
      obtain ⟨T, hk⟩ := ht (c, y2) (mem_of_lookup el) C mc
      exact ⟨.ref a1, h1, C, _, v, u, y2, rfl, e2, T, hd.mono S.fh, hv, hk, q _ F H S (Evl.Ex.refl _) Rep.bl⟩
  · cases h
end
theorem mHotF_eq {sd : SD} {a : Addr} {cls : Value} {d : Option Addr} {c : Str} {ns : List Str} {xs : List D} {cs : List Str} {f : Str} {i : Nat} {y : D} (h : sd[i]? = some (.val (.hot a cls d c ns xs))) (hc : c ∈ cs) (l : (ns.zip xs).lookup f = some y) : mHotF a cls d cs f i sd = some (y, sd) := by
  unfold mHotF
  rw [h]
  show (if a = a ∧ cls = cls ∧ d = d ∧ c ∈ cs then ((ns.zip xs).lookup f).map (fun y => (y, sd)) else none) = _
  rw [if_pos ⟨rfl, rfl, rfl, hc⟩, l]
  rfl
theorem mHotIs_eq {sd : SD} {a : Addr} {cls : Value} {d : Option Addr} {c : Str} {ns : List Str} {xs : List D} {tab : List (Str × Bool)} {i : Nat} {b : Bool} (h : sd[i]? = some (.val (.hot a cls d c ns xs))) (l : tab.lookup c = some b) : mHotIs a cls d tab i sd = some (.bl b, sd) := by
  unfold mHotIs
  rw [h]
  show (if a = a ∧ cls = cls ∧ d = d then (tab.lookup c).map (fun y => (D.bl y, sd)) else none) = _
  rw [if_pos ⟨rfl, rfl, rfl⟩, l]
  rfl
end Mir
set_option linter.all false
set_option maxRecDepth 100000
set_option maxHeartbeats 4000001
namespace Mir
open PySem PySem.Spec L2
/-! ### f'..' -/
def fmtD : D → Option D
  | .str x => if x.length ≤ 100000 then some (.str x) else none
  | .int i => reprX [.int i]
  | .lst xs => reprX [.lst xs]
  | .tup xs => reprX [.tup xs]
  | _ => none
theorem reprX_some {d y : D} (h : reprX [d] = some y) : ∃ p, pyE 12 d = some p ∧ p.showable = true ∧ p.depth ≤ 40 ∧ p.shown.length ≤ 100000 ∧ y = .str p.shown := by
  have h' : (match pyE 12 d with
      | some p => if p.showable = true ∧ p.depth ≤ 40 ∧ p.shown.length ≤ 100000 then some (D.str p.shown) else none
      | none => none) = some y := h
  cases e : pyE 12 d with
  | none =>
    rw [e] at h'
    cases h'
  | some p =>
    rw [e] at h'
    have h2 : (if p.showable = true ∧ p.depth ≤ 40 ∧ p.shown.length ≤ 100000 then some (D.str p.shown) else none) = some y := h'
    by_cases z : p.showable = true ∧ p.depth ≤ 40 ∧ p.shown.length ≤ 100000
    · rw [if_pos z] at h2
      cases h2
      exact ⟨p, rfl, z.1, z.2.1, z.2.2, rfl⟩
    · rw [if_neg z] at h2
      cases h2
def tFmtD (K : Fr') (mg : Str → Option Value) (te : TE) : TE := fun σ H Q => te σ H fun x H1 => ∃ (d y : D) (z : Str), Rep K mg H1 d x ∧ fmtD d = some y ∧ y = .str z ∧ Q (.str z) H1
section
variable {X : Cx} {e : Expr} {es : List Expr} {te : TE} {me : M D} {pos : Pos}
theorem pe_fmtD (sys : SysOk X.K) (hg : X.A.guards = some []) (hu : X.A.units + 64 < cLine) (he : PE X e te) : PE X (.FormattedValue e (-1) none pos) (tFmtD X.K X.mg te) := by
  constructor
  intro pins s σ H Q I h
  refine wpAny_FormattedValue_plain (thn (he.run pins s σ H _ I h) ?_)
  rintro v s1 ⟨x, H1, I1, r1, d, y, z, rd, hy, rfl, q⟩
  have big : ∀ {a : Addr}, v = .ref a → reprX [d] = some (.str z) → wpAny (model X.prog X.w) X.A (formatField v Str.empty) (EP X pins σ Q) X.xe s1 := by
    intro a ev hr
    obtain ⟨p, h1, h2, h3, h4, h5⟩ := reprX_some hr
    cases h5
    obtain ⟨as, rr, no⟩ := rep_rd I1 sys h1 rd r1
    subst ev
    refine formatField_of_reads rr h2 (fun _ => no) hg (by omega) (fun _ _ e => e) (fun h' u tk hk => ?_) (Evl.sz_of h4)
    exact ⟨.str p.shown, H1, I1.kept hk, ⟨_, rfl⟩, q⟩
  cases d with
  | str w =>
    have hy2 : (if w.length ≤ 100000 then some (D.str w) else none) = some (.str z) := hy
    by_cases l : w.length ≤ 100000
    case neg =>
      rw [if_neg l] at hy2
      cases hy2
    rw [if_pos l] at hy2
    cases hy2
    rw [rd.str'] at r1
    obtain ⟨t, rfl⟩ := r1
    exact wpAny_formatField_str ⟨.str z, H1, I1, ⟨t, rfl⟩, q⟩ ⟨.str z, H1, I1.tok _, ⟨_, rfl⟩, q⟩ (Evl.sz_of l)
  | int i =>
    obtain ⟨p, h1, h2, h3, h4, h5⟩ := reprX_some (d := .int i) hy
    have e1 : some (PyData.int i) = some p := by simpa [pyE] using h1
    cases e1
    cases h5
    rw [rd.int'] at r1
    obtain ⟨t, rfl⟩ := r1
    exact wpAny_formatField_int (by simpa [PyData.showable] using h2) ⟨.str (toString i), H1, I1.tok _, ⟨_, rfl⟩, q⟩
  | lst xs =>
    obtain ⟨a, vs, rfl, _, _⟩ := rd.lst'
    exact big r1 hy
  | tup xs =>
    obtain ⟨a, vs, rfl, _, _⟩ := rd.tup'
    exact big r1 hy
  | _ => cases hy
theorem pd_fmtD (sys : SysOk X.K) (hg : X.A.guards = some []) (hu : X.A.units + 64 < cLine) (he : PEd X e te me) : PEd X (.FormattedValue e (-1) none pos) (tFmtD X.K X.mg te) (op1 fmtD me) := by
  refine ⟨pe_fmtD sys hg hu he.1, fun B F H σ sd y sd' S h Q q => ?_⟩
  obtain ⟨x, sd1, k1, k2⟩ := bnd_some h
  obtain ⟨k3, rfl⟩ := lft_some k2
  refine he.2 B F H σ sd x _ S k1 _ fun v F1 H1 S1 e1 r1 => ?_
  have hy : ∃ z, y = .str z := by
    cases x with
    | str w =>
      have h2 : (if w.length ≤ 100000 then some (D.str w) else none) = some y := k3
      by_cases l : w.length ≤ 100000
      · rw [if_pos l] at h2
        cases h2
        exact ⟨w, rfl⟩
      · rw [if_neg l] at h2
        cases h2
    | int i =>
      obtain ⟨p, _, _, _, _, h5⟩ := reprX_some (d := .int i) k3
      exact ⟨_, h5⟩
    | lst i =>
      obtain ⟨p, _, _, _, _, h5⟩ := reprX_some (d := .lst i) k3
      exact ⟨_, h5⟩
    | tup i =>
      obtain ⟨p, _, _, _, _, h5⟩ := reprX_some (d := .tup i) k3
      exact ⟨_, h5⟩
    | _ => cases k3
  obtain ⟨z, rfl⟩ := hy
  exact ⟨x, _, z, r1.mono S1.fh, k3, rfl, q _ F1 H1 S1 e1 Rep.str⟩
def catS : Str → List D → Option Str
  | acc, [] => some acc
  | acc, .str y :: r => if (acc ++ y).length ≤ 100000 then catS (acc ++ y) r else none
  | _, _ => none
def EvJ (K : Fr') (mg : Str → Option Value) (ts : List TE) (mL : M (List D)) : Prop := ∀ (B : Bs) (F H : Hp) (σ : L2.St) (sd : SD) (ds : List D) (sd' : SD), Sta K mg B F H σ sd → mL sd = some (ds, sd') →
  ∀ acc out, catS acc ds = some out → ∀ Q : Str → Hp → Prop, (∀ F' H', Sta K mg B F' H' σ sd' → Ex F F' → Q out H') → tJs ts acc σ H Q
def PJd (X : Cx) (es : List Expr) (ts : List TE) (mL : M (List D)) : Prop := PJ X es ts ∧ EvJ X.K X.mg ts mL
theorem pj_nild : PJd X [] [] mNil := by
  refine ⟨.nil, fun B F H σ sd ds sd' S h acc out ho Q q => ?_⟩
  obtain ⟨rfl, rfl⟩ := pur_some h
  cases ho
  exact q F H S (Evl.Ex.refl _)
theorem pj_consd {ts : List TE} {mL : M (List D)} (he : PEd X e te me) (hr : PJd X es ts mL) : PJd X (e :: es) (te :: ts) (mCons me mL) := by
  refine ⟨.cons he.1 hr.1, fun B F H σ sd ds sd' S h acc out ho Q q => ?_⟩
  obtain ⟨x, sd1, h1, h2⟩ := bnd_some h
  obtain ⟨ds2, sd2, h3, h4⟩ := bnd_some h2
  obtain ⟨rfl, rfl⟩ := pur_some h4
  refine he.2 B F H σ sd x sd1 S h1 _ fun v F1 H1 S1 e1 r1 => ?_
  cases x with
  | str y =>
    have ho2 : (if (acc ++ y).length ≤ 100000 then catS (acc ++ y) ds2 else none) = some out := ho
    by_cases l : (acc ++ y).length ≤ 100000
    case neg =>
      rw [if_neg l] at ho2
      cases ho2
    rw [if_pos l] at ho2
    exact ⟨y, r1.str', Evl.sz_of l, hr.2 B F1 H1 σ sd1 ds2 _ S1 h3 _ out ho2 Q fun F2 H2 S2 e2 => q F2 H2 S2 (e1.trans e2)⟩
  | _ => cases ho
def mJoined (mL : M (List D)) : M D := bnd mL fun ds => lft ((catS Str.empty ds).map D.str)
theorem pd_joined {v1 v2 : Expr} {rest : List Expr} {ts : List TE} {mL : M (List D)} (h : PJd X (v1 :: v2 :: rest) ts mL) : PEd X (.JoinedStr (v1 :: v2 :: rest) pos) (fun σ H Q => tJs ts Str.empty σ H fun out H1 => Q (.str out) H1) (mJoined mL) := by
  refine ⟨pe_joined h.1, fun B F H σ sd y sd' S hm Q q => ?_⟩
  obtain ⟨ds, sd1, h1, h2⟩ := bnd_some hm
  obtain ⟨h3, rfl⟩ := lft_some h2
  cases e : catS Str.empty ds with
  | none =>
    rw [e] at h3
    cases h3
  | some out =>
    rw [e] at h3
    cases h3
    exact h.2 B F H σ sd ds _ S h1 _ out e _ fun F' H' S' e' => q _ F' H' S' e' Rep.str
end
/-! ### repr of an object of the text -/
section
variable {X : Cx} {k : Nat} {f C : Addr} {fd : FuncData} {ps : List Str} {sp : Sp} {cls : Str} {mf : List D → Option D}
def rReprO (C : Addr) (sp : Sp) : List V → Hp → VK → Prop := fun xs H Q => ∃ (a : Addr) (dx : Addr) (fs : List (Str × V)), xs = [.ref a] ∧ H a = some (.ins C dx fs) ∧ sp [.ref a] H (fun v H' => ∃ y : Str, v = .str y ∧ Q v H') E0
open Builtin in
theorem call_reprO (T : PySem.W.findIn X.K (.ref C) "__repr__" = some (some (.ref f)) ∧ PySem.W.isFn X.K (.ref f) = true) (G0 : FnG X.prog X.w X.K X.mg X.base CX0 k f fd ps sp) (hr : Room (k + 1) X.A) (hgd : X.A.guards = some []) (hb : Binds X.K fd ps []) : CallR X (.builtin "repr") (rReprO C sp) := by
  intro pins s σ H xs us Q I r h
  obtain ⟨a, dx, fs, rfl, ha, hsp⟩ := h
  obtain ⟨u, rfl, ru⟩ := vals1 r
  obtain rfl : u = Value.ref a := ru
  obtain ⟨mA, O, _, _, _, _⟩ := ins_get I.hok ha
  obtain ⟨od, J, _⟩ := O.look
  have hl : ([Value.ref a] ++ []).length = ps.length := by
    rw [← G0.len _ _ _ _ hsp]
    rfl
  have units : X.A.in1.units < cLine := by
    have := hr.in1.units
    omega
  refine Calls.call_function_entry PySem.F.kind_repr PySem.F.plain_repr PySem.F.entry_repr (PySem.F.args_repr1 _) ?_
  unfold Builtin.«repr»
  refine wpAny_bind (m := oneArg "repr" _) (wpAny_pure ?_)
  refine wpAny_bind (wpAny_cRoomFor units ?_)
  have sp_ : PySem.W.Looks (model X.prog X.w) s.heap (specialOf (.ref a) "__repr__") (some (.ref f)) := by
    unfold specialOf
    exact J.type.andThen (PySem.W.looks_findIn I.kIn T.1)
  refine wpAny_bind (sp_.here ?_)
  show wpAny _ _ (if (some (Value.ref f)).isNone = true then _ else _) _ _ _
  rw [if_neg (by simp)]
  have run : wpAny (model X.prog X.w) X.A.in1 (call (.ref f) [.ref a]) (fun v s' => ∃ y t, v = .str y t ∧ EP X pins σ Q v s') X.xe s := by
    have hb' := hb s [Value.ref a] I.kIn hl
    refine wpAny_call (codeAny_mono (G0.go X.A.in1 X.stack s H ⟨[.ref a], []⟩ [.ref a] [.ref a] _ E0 hr.in1 hgd I.env0.in1 hb' (.cons rfl .nil) hsp) ?_)
    intro rr s' hq
    match rr, hq with
    | .error er, hq => exact hq.elim
    | .ok (.ret v), hq =>
      obtain ⟨x, H', I3, rv, y, rfl, q3⟩ := I.after hq
      obtain ⟨t, rfl⟩ := rv
      exact ⟨y, t, rfl, .str y, H', I3, ⟨t, rfl⟩, q3⟩
    | .ok .next, hq => exact hq.elim
    | .ok .brk, hq => exact hq.elim
    | .ok .cont, hq => exact hq.elim
  refine wpAny_bind (m := callSpecialIfBound? (.ref a) (Str.ofString "__repr__") _) (PySem.W.ifBound_K I.kIn J T.1 T.2 (wpAny_mono run ?_ fun _ _ z => z))
  rintro v s' ⟨y, t, rfl, q⟩
  refine wpAny_bind (wpAny_isInstance (T := "str") (b := true) (typeIs_str _ _ _) isSubtype_str_str ?_)
  first
    | exact wpAny_pure ⟨_, rfl, q⟩
    | exact wpAny_pure q
    | (rw [if_pos rfl]
       first
        | exact wpAny_pure ⟨_, rfl, q⟩
        | exact wpAny_pure q)
    | (simp only [if_true]
       first
        | exact wpAny_pure ⟨_, rfl, q⟩
        | exact wpAny_pure q)
def reprO (mf : List D → Option D) (cls : Str) : List D → Option D
  | [.ins c ns xs] => if c = cls then (match mf [.ins c ns xs] with
    | some (.str y) => some (.str y)
    | _ => none) else none
  | _ => none
theorem c_reprO (T : PySem.W.findIn X.K (.ref C) "__repr__" = some (some (.ref f)) ∧ PySem.W.isFn X.K (.ref f) = true) (F : FnG X.prog X.w X.K X.mg X.base CX0 k f fd ps (spP X.K X.mg 1 mf)) (hr : Room (k + 1) X.A) (hgd : X.A.guards = some []) (hb : Binds X.K fd ps []) (hm : X.mg cls = some (.ref C)) :
    CallD X (.builtin "repr") (rReprO C (spP X.K X.mg 1 mf)) (reprO mf cls) := ⟨call_reprO T F hr hgd hb, fun F0 H ds d vs fh r hd Q q => by
  match ds, hd, r with
  | [.ins c ns xs], hd, r =>
    have hd' : (if c = cls then (match mf [.ins c ns xs] with
      | some (.str y) => some (D.str y)
      | _ => none) else none) = some d := hd
    by_cases z : c = cls
    case neg =>
      rw [if_neg z] at hd'
      cases hd'
    rw [if_pos z] at hd'
    subst z
    obtain ⟨v, rfl, r1⟩ := r.one
    have r2 := r1
    unfold Rep at r2
    obtain ⟨a, C', dx, ws, rfl, k1, k2, k3, k4⟩ := r2
    rw [hm] at k1
    cases k1
    split at hd'
    · rename_i y e
      cases hd'
      refine ⟨a, dx, _, rfl, fh _ _ k2, F0, _, .str y, fh, RepL.cons r1 RepL.nil, rfl, e, fun v F' H' g rv => ⟨y, rv.str', ?_⟩⟩
      exact q v F' H' g rv
    · cases hd'⟩
end
end Mir
set_option linter.all false
set_option maxRecDepth 100000
set_option maxHeartbeats 4000001
namespace Mir
open PySem PySem.Spec L2
/-! ### clauses: text, reading and mirror at once -/
def SuiteD (X : Cx) (suite : List Stmt) (ts : TS3) (ms : Addr → Value → Option Addr → M Out) : Prop := ∀ (a : Addr) (oe : Obj) (cls : Value) (d : Option Addr) (pn : List (Addr × Obj)), Zc cls d oe → (∃ vs, oe.data = .fields vs) → PSsd (X.suite a ((a, oe) :: pn)) suite (ts a cls d) (ms a cls d)
inductive HdsD (X : Cx) : List ExceptHandler → List (Value × Option Nat × TS3) → List Hd → Prop
  | nil : HdsD X [] [] []
  | as {x n : Str} {c : Value} {i : Nat} {ts : TS3} {b0 : Stmt} {suite : List Stmt} {np pos' : Pos} {hds : List ExceptHandler} {l : List (Value × Option Nat × TS3)} {tab : List (Str × Bool)} {ms : Addr → Value → Option Addr → M Out} {hs : List Hd} (hc : Names X x c) (hN : X.N.Nodup) (hi : X.N[i]? = some n) (hln : X.env.kindOf n = some .local)
      (ht : XmOk X.K X.mg c tab) (hsu : SuiteD X (b0 :: suite) ts ms) (r : HdsD X hds l hs) : HdsD X (.ExceptHandler (some (.Name x np)) (some n) (b0 :: suite) pos' :: hds) ((c, some i, ts) :: l) (.as tab i ms :: hs)
  | pl {x : Str} {c : Value} {ts : TS3} {b0 : Stmt} {suite : List Stmt} {np pos' : Pos} {hds : List ExceptHandler} {l : List (Value × Option Nat × TS3)} {tab : List (Str × Bool)} {m : M Out} {hs : List Hd} (hc : Names X x c)
      (ht : XmOk X.K X.mg c tab) (hsu : SuiteD X (b0 :: suite) ts (fun _ _ _ => m)) (r : HdsD X hds l hs) : HdsD X (.ExceptHandler (some (.Name x np)) none (b0 :: suite) pos' :: hds) ((c, none, ts) :: l) (.pl tab m :: hs)
theorem HdsD.g {X : Cx} {hds : List ExceptHandler} {l : List (Value × Option Nat × TS3)} {hs : List Hd} (h : HdsD X hds l hs) : HdsG X hds l := by
  induction h with
  | nil => exact .nil
  | as hc hN hi hln ht hsu r ih => exact .as hc hN hi hln (fun a oe cls d pn hz hf => (hsu a oe cls d pn hz hf).1) ih
  | pl hc ht hsu r ih => exact .pl hc (fun a oe cls d pn hz hf => (hsu a oe cls d pn hz hf).1) ih
theorem HdsD.m {X : Cx} {hds : List ExceptHandler} {l : List (Value × Option Nat × TS3)} {hs : List Hd} (h : HdsD X hds l hs) : HdsM X l hs := by
  induction h with
  | nil => exact .nil
  | as hc hN hi hln ht hsu r ih => exact .as ht (fun a cls d => (hsu a { cls := cls, dict := d, data := .fields #[] } cls d [] ⟨rfl, rfl⟩ ⟨_, rfl⟩).2) ih
  | pl hc ht hsu r ih => exact .pl ht (fun a cls d => (hsu a { cls := cls, dict := d, data := .fields #[] } cls d [] ⟨rfl, rfl⟩ ⟨_, rfl⟩).2) ih
theorem ps_tryD {X : Cx} {body : List Stmt} {h0 : ExceptHandler} {hds : List ExceptHandler} {l : List (Value × Option Nat × TS3)} {pos : Pos} {tb : WX → TS} {m : M Out} {xm : MX} {hs : List Hd} (h1 : X.stack = X.env :: X.outer) (hf : X.env.frame = some X.env.locals)
    (hb : ∀ (W : WX) (pn : List (Addr × Obj)) (xe : Value → Shared → Prop), Takes (X.tr pn xe) W → PSsx (X.tr pn xe) W body (tb W) m xm) (hh : HdsD X (h0 :: hds) l hs) :
    PSd X (.Try body (h0 :: hds) [] [] pos) (fun E σ H => tb (wTry X.K (fun _ _ _ _ => False) E l) E σ H) (mTry m xm hs) := ps_tryd h1 hf hb hh.g hh.m
theorem PEx.cast {X : Cx} {W : WX} {e : Expr} {t t2 : TE} {m : M D} {xm : MX} (h : PEx X W e t m xm) (eq : t = t2) : PEx X W e t2 m xm := eq ▸ h
/-! what is looked at -/
def tyB (x : Str) (K : Fg) : Bool := decide (PySem.W.typeIn K (.ref (He.ga K x)) = some (.type "type"))
theorem tyB_ok {x : Str} {K : Fg} (h : tyB x K = true) : PySem.W.typeIn K (.ref (He.ga K x)) = some (.type "type") := of_decide_eq_true h
def xmB (u : Fg → Value) (tab : List (Str × Bool)) (K : Fg) : Bool := tab.all fun p => decide (PySem.W.exmOne K (.ref (He.ga K p.1)) (u K) = some p.2)
theorem xm_ok {u : Fg → Value} {tab : List (Str × Bool)} {all : List Str} {K : Fg} {mg : Str → Option Value} (kn : XKnown K mg all) (sub : ∀ p ∈ tab, p.1 ∈ all) (h : xmB u tab K = true) : XmOk K mg (u K) tab := by
  intro p hp C hm
  obtain ⟨k1, k2⟩ := kn.of p.1 (sub p hp)
  rw [k1] at hm
  cases hm
  exact of_decide_eq_true (List.all_eq_true.mp h p hp)
end Mir
set_option linter.all false
set_option maxRecDepth 100000
set_option maxHeartbeats 4000001
namespace Mir
open PySem PySem.Spec L2
open PyProof.Rows (envOfC)
/-! ### calls with keywords, with what is left out, with what is left over -/
/-- f, called by some values and by these keywords, keeps sp of all of them -/
structure CallG (P : Program) (w : World) (K : PySem.W.Frag) (mg : Str → Option Value) (base : Heap) (CX : CXT) (k : Nat) (f : Addr) (ks : List Str) (sp : Sp) : Prop where
  go : ∀ (A : Around) (outer : List Env) (s : Shared) (H : Hp) (us ws : List Value) (vs zs : List V) (Q : VK) (E : XK), Room k A → A.guards = some [] → Env0 P w K mg base A outer s H → Vals vs us → Vals zs ws → zs.length = ks.length → sp (vs ++ zs) H Q E →
    codeAny (model P w) A (.call (.ref f) ⟨us, ks.zip ws⟩) (CR CX outer P w H s Q E) s
section
variable (K : PySem.W.Frag) (mg : Str → Option Value)
/-- nothing that stood is changed; of any number of values -/
def spW (mf : List D → Option D) : Sp := fun vs H Q _ => ∃ (F : Hp) (ds : List D) (d : D), Ex F H ∧ RepL K mg F ds vs ∧ mf ds = some d ∧ ∀ v F' H', Grow F H F' H' → Rep K mg F' d v → Q v H'
def spIw (mf : Cell → List D → Option (D × Cell)) : Sp := fun vs H Q _ => ∃ (F : Hp) (p : Addr) (ws : HO) (us : List V) (cs : Cell) (ds : List D) (d : D) (cs' : Cell), vs = .ref p :: us ∧ Ex F H ∧ F p = none ∧ H p = some ws ∧ CellOk K mg F ws cs ∧ RepL K mg F ds us ∧
  mf cs ds = some (d, cs') ∧ ∀ v F' H' ws', Ex F F' → Ex F' H' → (∀ a o, a ≠ p → H a = some o → H' a = some o) → (∀ a, F' a ≠ none → F a ≠ none ∨ H a = none) → F' p = none → H' p = some ws' → CellOk K mg F' ws' cs' → Rep K mg F' d v → Q v H'
def spRw (mf xf : List D → Option D) : Sp := fun vs H Q E => ∃ (F : Hp) (ds : List D), Ex F H ∧ RepL K mg F ds vs ∧
  ((∃ d, mf ds = some d ∧ ∀ v F' H', Grow F H F' H' → Rep K mg F' d v → Q v H') ∨ (∃ x, xf ds = some x ∧ ∀ F' H' cls d, Grow F H F' H' → RepX K mg F' x cls d → E cls d H'))
end
/-- n values by place, m by keyword, arranged by g -/
def kwf {α : Type} (n m : Nat) (mf : List D → Option α) (g : List D → List D → List D) (ds : List D) : Option α := if ds.length = n + m then mf (g (ds.take n) (ds.drop n)) else none
theorem kwf_some {α : Type} {n m : Nat} {mf : List D → Option α} {g : List D → List D → List D} {ds : List D} {d : α} (h : kwf n m mf g ds = some d) : ∃ d1 d2, ds = d1 ++ d2 ∧ d1.length = n ∧ d2.length = m ∧ mf (g d1 d2) = some d := by
  unfold kwf at h
  by_cases z : ds.length = n + m
  · rw [if_pos z] at h
    exact ⟨_, _, (List.take_append_drop n ds).symm, by rw [List.length_take]; omega, by rw [List.length_drop]; omega, h⟩
  · rw [if_neg z] at h
    cases h
theorem RepL.parts {K : PySem.W.Frag} {mg : Str → Option Value} {F : Hp} : ∀ {d1 d2 : List D} {us vs : List V}, RepL K mg F (d1 ++ d2) (us ++ vs) → d2.length = vs.length → RepL K mg F d1 us ∧ RepL K mg F d2 vs
  | [], d2, [], vs, r, _ => ⟨RepL.nil, r⟩
  | [], d2, u :: us, vs, r, h => by
    have := r.len
    simp at this
    omega
  | d :: d1, d2, [], vs, r, h => by
    have := r.len
    simp at this
    omega
  | d :: d1, d2, u :: us, vs, r, h => by
    obtain ⟨v, vr, e, r1, r2⟩ := RepL.cons_inv (show RepL K mg F (d :: (d1 ++ d2)) (u :: (us ++ vs)) from r)
    cases e
    obtain ⟨k1, k2⟩ := RepL.parts r2 h
    exact ⟨RepL.cons r1 k1, k2⟩
section
variable {P : Program} {w : World} {K : PySem.W.Frag} {mg : Str → Option Value} {base : Heap} {CX : CXT} {k n : Nat} {f : Addr} {fd : FuncData} {ps ks : List Str} {sp : Sp} {g : List Value → List Value → List Value} {gV : List V → List V → List V} {gD : List D → List D → List D}
theorem CallG.mono {j : Nat} (F : CallG P w K mg base CX j f ks sp) (h : j ≤ k) : CallG P w K mg base CX k f ks sp := ⟨fun A o s H us ws vs zs Q E hr => F.go A o s H us ws vs zs Q E (hr.mono h)⟩
theorem CallG.arr {sp2 : Sp} (F : FnG P w K mg base CX k f fd ps sp) (hb : KBn K fd ps n ks g gV) (h : ∀ vs zs H Q E, zs.length = ks.length → sp2 (vs ++ zs) H Q E → vs.length = n ∧ sp (gV vs zs) H Q E) : CallG P w K mg base CX k f ks sp2 := by
  refine ⟨fun A outer s H us ws vs zs Q E hr hgd e0 r rz l2 hsp => ?_⟩
  obtain ⟨l1, q⟩ := h vs zs H Q E l2 hsp
  have KX : K.In s.heap := e0.mod.kin.keeps fun b o e => (e0.bs b o e).1
  exact F.go A outer s H ⟨us, ks.zip ws⟩ (g us ws) (gV vs zs) Q E hr hgd e0 (hb.to s us ws KX (by rw [← r.length]; exact l1) (by rw [← rz.length]; exact l2)) (hb.rel r rz) q
theorem CallG.ofP {mf : List D → Option D} {m : Nat} (F : FnG P w K mg base CX k f fd ps (spP K mg m mf)) (hb : KBn K fd ps n ks g gV) (hg : ∀ F ds vs es zs, RepL K mg F ds vs → RepL K mg F es zs → ds.length = n → es.length = ks.length → RepL K mg F (gD ds es) (gV vs zs) ∧ (gD ds es).length = m) :
    CallG P w K mg base CX k f ks (spW K mg (kwf n ks.length mf gD)) := CallG.arr F hb fun vs zs H Q E hz q => by
  obtain ⟨F0, ds, d, hF, r, hm, q⟩ := q
  obtain ⟨d1, d2, rfl, l1, l2, hm2⟩ := kwf_some hm
  obtain ⟨r1, r2⟩ := RepL.parts r (by rw [l2, hz])
  obtain ⟨r3, l3⟩ := hg F0 d1 vs d2 zs r1 r2 l1 l2
  exact ⟨by rw [← r1.len, l1], F0, _, d, hF, r3, l3, hm2, q⟩
theorem CallG.ofR {mf xf : List D → Option D} {m : Nat} (F : FnG P w K mg base CX k f fd ps (spR K mg m mf xf)) (hb : KBn K fd ps n ks g gV) (hg : ∀ F ds vs es zs, RepL K mg F ds vs → RepL K mg F es zs → ds.length = n → es.length = ks.length → RepL K mg F (gD ds es) (gV vs zs) ∧ (gD ds es).length = m) :
    CallG P w K mg base CX k f ks (spRw K mg (kwf n ks.length mf gD) (kwf n ks.length xf gD)) := CallG.arr F hb fun vs zs H Q E hz q => by
  obtain ⟨F0, ds, hF, r, hor⟩ := q
  have key : ∀ {α : Type} {h : List D → Option α} {d : α}, kwf n ks.length h gD ds = some d → ∃ d1 d2, ds = d1 ++ d2 ∧ vs.length = n ∧ RepL K mg F0 (gD d1 d2) (gV vs zs) ∧ (gD d1 d2).length = m ∧ h (gD d1 d2) = some d := fun {α h d} hm => by
    obtain ⟨d1, d2, e, l1, l2, hm2⟩ := kwf_some hm
    subst e
    obtain ⟨r1, r2⟩ := RepL.parts r (by rw [l2, hz])
    obtain ⟨r3, l3⟩ := hg F0 d1 vs d2 zs r1 r2 l1 l2
    exact ⟨d1, d2, rfl, by rw [← r1.len, l1], r3, l3, hm2⟩
  rcases hor with ⟨d, hm, q⟩ | ⟨x, hx, q⟩
  · obtain ⟨d1, d2, _, l, r3, l3, h3⟩ := key hm
    exact ⟨l, F0, _, hF, r3, l3, .inl ⟨d, h3, q⟩⟩
  · obtain ⟨d1, d2, _, l, r3, l3, h3⟩ := key hx
    exact ⟨l, F0, _, hF, r3, l3, .inr ⟨x, h3, q⟩⟩
/-- .. of a def that changes its first argument (n values by place besides) -/
theorem CallG.ofI {mi : Cell → List D → Option (D × Cell)} {m : Nat} {gV2 : List V → List V → List V} (F : FnG P w K mg base CX k f fd ps (spI K mg m mi)) (hb : KBn K fd ps (n + 1) ks g gV) (hc : ∀ x vs zs, vs.length = n → zs.length = ks.length → gV (x :: vs) zs = x :: gV2 vs zs)
    (hg : ∀ F ds vs es zs, RepL K mg F ds vs → RepL K mg F es zs → ds.length = n → es.length = ks.length → RepL K mg F (gD ds es) (gV2 vs zs) ∧ (gD ds es).length = m) :
    CallG P w K mg base CX k f ks (spIw K mg fun c => kwf n ks.length (mi c) gD) := CallG.arr F hb fun vs zs H Q E hz q => by
  obtain ⟨F0, p, wso, us, cs, ds, d, cs', e, hF, hp, hH, rc, r, hm, q⟩ := q
  obtain ⟨d1, d2, rfl, l1, l2, hm2⟩ := kwf_some hm
  have hne : vs ≠ [] := fun z => by
    rw [z, List.nil_append] at e
    have e1 := r.len
    rw [e, List.length_cons, ← e1, List.length_append] at hz
    omega
  obtain ⟨x, vs', rfl⟩ : ∃ x vs', vs = x :: vs' := by
    cases vs with
    | nil => exact absurd rfl hne
    | cons x l => exact ⟨x, l, rfl⟩
  rw [List.cons_append] at e
  cases e
  obtain ⟨r1, r2⟩ := RepL.parts r (by rw [l2, hz])
  have l3 : vs'.length = n := by rw [← r1.len, l1]
  obtain ⟨r3, l4⟩ := hg F0 d1 vs' d2 zs r1 r2 l1 l2
  rw [hc _ _ _ l3 hz]
  exact ⟨by rw [List.length_cons, l3], F0, p, wso, _, cs, _, d, cs', rfl, hF, hp, hH, rc, r3, l4, hm2, q⟩
end

/-! ### what is left over -/
/-- m values by keyword, at least n by place (just n if ex), those behind them as a tuple -/
def stf {α : Type} (n m : Nat) (ex : Bool) (mf : List D → Option α) (g : List D → List D → List D) (ds : List D) : Option α :=
  if n + m ≤ ds.length ∧ ds.length ≤ 100000 ∧ (ex = true → ds.length = n + m) then mf (g (ds.take n) (ds.drop (ds.length - m)) ++ [.tup ((ds.take (ds.length - m)).drop n)]) else none
theorem stf_some {α : Type} {n m : Nat} {ex : Bool} {mf : List D → Option α} {g : List D → List D → List D} {ds : List D} {d : α} (h : stf n m ex mf g ds = some d) :
    ∃ d1 d2, ds = d1 ++ d2 ∧ n ≤ d1.length ∧ d1.length ≤ 100000 ∧ (ex = true → d1.length = n) ∧ d2.length = m ∧ mf (g (d1.take n) d2 ++ [.tup (d1.drop n)]) = some d := by
  unfold stf at h
  by_cases z : n + m ≤ ds.length ∧ ds.length ≤ 100000 ∧ (ex = true → ds.length = n + m)
  · rw [if_pos z] at h
    obtain ⟨z1, z2, z3⟩ := z
    refine ⟨ds.take (ds.length - m), ds.drop (ds.length - m), (List.take_append_drop _ _).symm, by rw [List.length_take]; omega, by rw [List.length_take]; omega, fun e => by have := z3 e; rw [List.length_take]; omega, by rw [List.length_drop]; omega, ?_⟩
    rw [List.take_take, Nat.min_eq_left (by omega)]
    exact h
  · rw [if_neg z] at h
    cases h
section
variable {P : Program} {w : World} {K : PySem.W.Frag} {mg : Str → Option Value} {base : Heap} {k n : Nat} {f : Addr} {fd : FuncData} {ps ks N : List Str} {x qual pv : Str} {scope : Scope} {body : List Stmt} {params : Arguments} {dvs : List V} {kws : List (Str × V)} {ex : Bool} {g : {α : Type} → List α → List α → List α}
theorem sta_startI {F H : Hp} {p : Addr} {ws : HO} {us : List V} {cs : Cell} {ds : List D} (hF : Ex F H) (hp : F p = none) (hH : H p = some ws) (rc : CellOk K mg F ws cs) (r : RepL K mg F ds us) : Sta K mg ⟨F, H, [p], some p⟩ F H (start N (.ref p :: us)) (startI N cs ds) := by
  have hz : ∀ (i : Nat) (s : Slot), (startI N cs ds)[i]? = some s → (i = 0 ∧ s = .own cs) ∨ s = .no ∨ ∃ d j, i = j + 1 ∧ ds[j]? = some d ∧ s = .val d := by
    intro i s h
    cases i with
    | zero =>
      cases h
      exact .inl ⟨rfl, rfl⟩
    | succ j =>
      unfold startI at h
      rw [List.getElem?_cons_succ] at h
      by_cases hj : j < ds.length
      · rw [List.getElem?_append_left (by simpa using hj), List.getElem?_map] at h
        cases e : ds[j]? with
        | none => rw [e] at h; cases h
        | some d =>
          rw [e] at h
          cases h
          exact .inr (.inr ⟨d, j, rfl, e, rfl⟩)
      · rw [List.getElem?_append_right (by simpa using hj), List.getElem?_replicate] at h
        split at h
        · cases h
          exact .inr (.inl rfl)
        · cases h
  have only : ∀ {i : Nat} {c : Cell}, (startI N cs ds)[i]? = some (.own c) → i = 0 := by
    intro i c h
    rcases hz i _ h with ⟨e, _⟩ | e | ⟨_, _, _, _, e⟩
    · exact e
    · cases e
    · cases e
  refine ⟨hF, Evl.Ex.refl _, fun a o h _ => h, fun a h => .inl h, fun a ha => ?_, ?_, fun i s h => ?_, fun i j xs ys a h1 h2 _ _ => by rw [only h1, only h2], fun a ha => ?_⟩
  · obtain rfl : a = p := by simpa using ha
    rw [hH]
    exact fun z => nomatch z
  · unfold startI L2.start
    simp [r.len]
  · rcases hz i s h with ⟨rfl, rfl⟩ | rfl | ⟨d, j, rfl, h1, rfl⟩
    · exact ⟨some (.ref p), start_ix rfl, p, ws, rfl, hH, rc, hp, .inr (by simp)⟩
    · have hl : i < (start N (V.ref p :: us)).length := by
        have h2 := (List.getElem?_eq_some_iff.mp h).1
        unfold startI at h2
        unfold L2.start
        simp only [List.length_append, List.length_map, List.length_replicate, List.length_cons] at h2 ⊢
        rw [← r.len]
        omega
      exact ⟨_, List.getElem?_eq_getElem hl, True.intro⟩
    · obtain ⟨v, h2, h3⟩ := r.get h1
      exact ⟨some v, start_ix (by simpa using h2), v, rfl, h3⟩
  · cases ha
    exact ⟨start_ix rfl, cs, rfl⟩
/-- a suite that hands back, as a function of what it begins with -/
theorem ev_of {t : TS} {m : M Out} {F H : Hp} {vs : List V} {ds : List D} {d : D} {Q : VK} (ev : ExD K mg t m) (hF : Ex F H) (r : RepL K mg F ds vs) (hm : runP N m ds = some d) (q : ∀ v F' H', Grow F H F' H' → Rep K mg F' d v → Q v H') : t { nx := fun _ H' => Q .non H', rt := Q } (start N vs) H := by
  have S0 : Sta K mg ⟨F, H, [], none⟩ F H (start N vs) (startS N ds) := sta_start hF r
  have gr : ∀ {σ' : L2.St} {F' H' : Hp} {sd' : SD}, Sta K mg ⟨F, H, [], none⟩ F' H' σ' sd' → Grow F H F' H' := fun {σ' F' H' sd'} S' =>
    ⟨S'.f0, S'.fh, fun a u h => S'.keep a u h (fun z => nomatch z), fun a h => by
      rcases S'.fresh a h with h1 | h1 | h1
      · exact .inl h1
      · exact .inr h1
      · exact nomatch h1⟩
  unfold runP at hm
  cases e : m (startS N ds) with
  | none => rw [e] at hm; cases hm
  | some pr =>
    obtain ⟨o, sd'⟩ := pr
    rw [e] at hm
    refine ev _ F H _ _ o sd' S0 e _ ?_
    cases o with
    | nx =>
      cases hm
      exact fun σ' F' H' S' _ => q _ F' H' (gr S') (by unfold Rep; rfl)
    | rt d' =>
      cases hm
      exact fun v σ' F' H' S' _ rv => q v F' H' (gr S') rv
    | bk => cases hm
    | ct => cases hm
theorem evI_of {t : TS} {m : M Out} {F H : Hp} {p : Addr} {ws : HO} {us : List V} {cs cs' : Cell} {ds : List D} {d : D} {Q : VK} (ev : ExD K mg t m) (hF : Ex F H) (hp : F p = none) (hH : H p = some ws) (rc : CellOk K mg F ws cs) (r : RepL K mg F ds us) (hm : runI N m cs ds = some (d, cs'))
    (q : ∀ v F' H' ws', Ex F F' → Ex F' H' → (∀ a o, a ≠ p → H a = some o → H' a = some o) → (∀ a, F' a ≠ none → F a ≠ none ∨ H a = none) → F' p = none → H' p = some ws' → CellOk K mg F' ws' cs' → Rep K mg F' d v → Q v H') : t { nx := fun _ H' => Q .non H', rt := Q } (start N (.ref p :: us)) H := by
  have S0 := sta_startI (N := N) hF hp hH rc r
  unfold runI at hm
  cases e : m (startI N cs ds) with
  | none => rw [e] at hm; cases hm
  | some pr =>
    obtain ⟨o, sd'⟩ := pr
    rw [e] at hm
    have gr : ∀ {σ' : L2.St} {F' H' : Hp} {rest : SD}, sd' = .own cs' :: rest → Sta K mg ⟨F, H, [p], some p⟩ F' H' σ' sd' → ∀ v, Rep K mg F' d v → Q v H' := fun {σ' F' H' rest} hsd S' v rv => by
      obtain ⟨h1, _⟩ := S'.par p rfl
      obtain ⟨o1, h2, p', ws', rfl, h3, h4, h5, _⟩ := S'.slot 0 (.own cs') (by rw [hsd]; rfl)
      rw [h1] at h2
      cases h2
      refine q v F' H' ws' S'.f0 S'.fh (fun a u hne h => S'.keep a u h (by simpa using hne)) (fun a h => ?_) h5 h3 h4 rv
      rcases S'.fresh a h with h6 | h6 | h6
      · exact .inl h6
      · exact .inr h6
      · obtain rfl : a = p := by simpa using h6
        exact absurd h5 h
    refine ev _ F H _ _ o sd' S0 e _ ?_
    cases sd' with
    | nil => cases o <;> cases hm
    | cons s0 rest =>
      cases s0 with
      | no => cases o <;> cases hm
      | val d' => cases o <;> cases hm
      | own cs2 =>
        cases o with
        | nx =>
          cases hm
          exact fun σ' F' H' S' _ => gr rfl S' _ (by unfold Rep; rfl)
        | rt d' =>
          cases hm
          exact fun v σ' F' H' S' _ rv => gr rfl S' v rv
        | bk => cases hm
        | ct => cases hm
/-- how a def with a star binds -/
def StarB (n : Nat) (ks ps : List Str) (pv : Str) (ex : Bool) (g : {α : Type} → List α → List α → List α) (fd : FuncData) : Prop :=
  ∀ us ws : List Value, n ≤ us.length → (ex = true → us.length = n) → ws.length = ks.length → bindArgs fd ⟨us, ks.zip ws⟩ = (newTuple (us.drop n) >>= fun t => pure (ps.zip (g (us.take n) ws) ++ [(pv, t)]))
theorem starP {m : M Out} (F : L2.FunD K x qual params body scope [] kws f fd) (S : FnScope N (ps ++ [pv]) scope) (hb : ∀ (kV doc pm : Value) (an : Option Addr) (cdv ct : Value), StarB n ks ps pv ex (fun a b => g a b) (PySem.W.fnOf x qual params body scope .none kV doc pm an cdv ct))
    (hg : ∀ F ds vs es zs, RepL K mg F ds vs → RepL K mg F es zs → ds.length = n → es.length = ks.length → RepL K mg F (g ds es) (g vs zs)) (hv : ∀ (vs zs : List V) (us ws : List Value), Vals vs us → Vals zs ws → vs.length = n → zs.length = ks.length → Vals (g vs zs) (g us ws) ∧ (g vs zs).length = ps.length)
    (hbody : ∀ (cdv : Value) (A : Around) (outer : List Env) (s : Shared) (H : Hp) (E : XK), Room k (A.deeper (envOfC qual scope s.heap.objs.size f cdv)) → A.guards = some [] → ∃ t, PSsd (cxOf CX0 P w K mg base N qual scope f cdv A outer s H E).nox body t m) :
    CallG P w K mg base CX0 (k + 1) f ks (spW K mg (stf n ks.length ex (runP N m) fun a b => g a b)) := by
  obtain ⟨oc, od, dV, kV, doc, pm, an, cdv, ct, osl, rfl, lk, hcd, hD, _⟩ := F.ex
  rcases hD with ⟨_, rfl⟩ | ⟨e, _⟩
  case inr => exact absurd rfl e
  refine ⟨fun A outer s H us ws vs zs Q E hr hgd e0 r rz l2 hsp => ?_⟩
  obtain ⟨F0, ds, d, hF, rr, hm, q⟩ := hsp
  obtain ⟨d1, d2, rfl, l3, l4, lx, l5, hm2⟩ := stf_some hm
  obtain ⟨r1, r2⟩ := RepL.parts rr (by rw [l5, l2])
  have ld : d1.length = us.length := by rw [r1.len, r.length]
  have lv : d1.length = vs.length := r1.len
  have hn : H s.heap.objs.size = Option.none := e0.hok.fresh (Nat.le_refl _)
  have vt : Vals (vs.take n) (us.take n) ∧ Vals (vs.drop n) (us.drop n) := by
    have e := r
    rw [← List.take_append_drop n vs] at e
    obtain ⟨u1, u2, eu, k1, k2⟩ := StX.vals_split e
    have h1 : u1.length = n := by
      rw [← k1.length, List.length_take]
      omega
    subst eu
    rw [List.take_left' h1, List.drop_left' h1]
    exact ⟨k1, k2⟩
  have hl1 : (vs.take n).length = n := by
    rw [List.length_take]
    omega
  obtain ⟨hv1, hv2⟩ := hv _ _ _ _ vt.1 rz hl1 l2
  refine StX.run_bnd lk hcd S hr e0 (G := fun xs H2 => ∃ p, H p = Option.none ∧ xs = g (vs.take n) zs ++ [V.ref p] ∧ H2 = upd H p (.tup (vs.drop n))) (fun A' Ex Q' h => ?_) fun s2 H2 xs ⟨p, hp, ex, eH⟩ hr' => ?_
  · rw [hb kV doc pm an cdv ct us ws (by omega) (fun e => by rw [← ld]; exact lx e) (by rw [← rz.length, l2])]
    have hz : (us.drop n).length ≤ sizeLine := by
      rw [List.length_drop]
      have : sizeLine = 16777216 := by decide
      omega
    refine wpAny_bind (wpAny_newTuple (wpAny_pure ?_) hz)
    have new : ObjOk P w (upd H s.heap.objs.size (.tup (vs.drop n))) (s.heap.push ({ cls := .type "tuple", data := .seq (us.drop n).toArray } : Obj)) s.heap.objs.size (.tup (vs.drop n)) :=
      ⟨by rw [vt.2.length]; exact hz, us.drop n, vt.2, ⟨_, Heap.get?_push_size _ rfl, rfl, _, rfl⟩⟩
    have un := StX.un_laid (fs := frs outer) (s := s) (o := ({ cls := .type "tuple", data := .seq (us.drop n).toArray } : Obj)) (u := .tup (vs.drop n)) hn
    have z := h _ _ (g (vs.take n) zs ++ [V.ref s.heap.objs.size]) (g (us.take n) ws ++ [Value.ref s.heap.objs.size]) (StX.env0_laid e0 new) un rfl (fun e s' z => z) (hv1.append (.cons rfl .nil))
      (by rw [List.length_append, List.length_append, hv2] <;> rfl) ⟨_, hn, rfl, rfl⟩
    rw [List.zip_append (by rw [← hv1.length, hv2])] at z
    exact z
  · subst ex eH
    obtain ⟨t, pp, ev⟩ := hbody cdv A outer s2 (upd H p (.tup (vs.drop n))) E hr' hgd
    have gl : Grow F0 H (upd F0 p (.tup (vs.drop n))) (upd H p (.tup (vs.drop n))) := Grow.laid hF hp
    refine ⟨t, pp.nox, ev_of ev gl.fh ((hg _ _ _ _ _ ((r1.take n).mono gl.ff) (r2.mono gl.ff) (by rw [List.length_take]; omega) l5).append (RepL.cons ?_ RepL.nil)) hm2 fun v F' H' g2 rv => q v F' H' (gl.trans g2) rv⟩
    unfold Rep
    exact ⟨p, _, rfl, .inl (.inl upd_same), (r1.drop n).mono gl.ff⟩
/-- .. one that changes its first argument -/
theorem starI {m : M Out} {g2 : {α : Type} → List α → List α → List α} (F : L2.FunD K x qual params body scope [] kws f fd) (S : FnScope N (ps ++ [pv]) scope) (hb : ∀ (kV doc pm : Value) (an : Option Addr) (cdv ct : Value), StarB (n + 1) ks ps pv ex (fun a b => g a b) (PySem.W.fnOf x qual params body scope .none kV doc pm an cdv ct))
    (hc : ∀ {α : Type} (y : α) (us ws : List α), us.length = n → ws.length = ks.length → g (y :: us) ws = y :: g2 us ws)
    (hg : ∀ F ds vs es zs, RepL K mg F ds vs → RepL K mg F es zs → ds.length = n → es.length = ks.length → RepL K mg F (g2 ds es) (g2 vs zs)) (hv : ∀ (vs zs : List V) (us ws : List Value), Vals vs us → Vals zs ws → vs.length = n + 1 → zs.length = ks.length → Vals (g vs zs) (g us ws) ∧ (g vs zs).length = ps.length)
    (hbody : ∀ (cdv : Value) (A : Around) (outer : List Env) (s : Shared) (H : Hp) (E : XK), Room k (A.deeper (envOfC qual scope s.heap.objs.size f cdv)) → A.guards = some [] → ∃ t, PSsd (cxOf CX0 P w K mg base N qual scope f cdv A outer s H E).nox body t m) :
    CallG P w K mg base CX0 (k + 1) f ks (spIw K mg fun c => stf n ks.length ex (runI N m c) fun a b => g2 a b) := by
  obtain ⟨oc, od, dV, kV, doc, pm, an, cdv, ct, osl, rfl, lk, hcd, hD, _⟩ := F.ex
  rcases hD with ⟨_, rfl⟩ | ⟨e, _⟩
  case inr => exact absurd rfl e
  refine ⟨fun A outer s H us ws vs zs Q E hr hgd e0 r rz l2 hsp => ?_⟩
  obtain ⟨F0, p0, wso, us0, cs, ds, d, cs', ee, hF, hp0, hH0, rc, rr, hm, q⟩ := hsp
  obtain ⟨d1, d2, rfl, l3, l4, lx, l5, hm2⟩ := stf_some hm
  have hne : vs ≠ [] := fun z => by
    rw [z, List.nil_append] at ee
    have e1 := rr.len
    rw [ee, List.length_cons, ← e1, List.length_append] at l2
    omega
  obtain ⟨vs', rfl⟩ : ∃ vs', vs = V.ref p0 :: vs' := by
    cases vs with
    | nil => exact absurd rfl hne
    | cons y l =>
      rw [List.cons_append] at ee
      cases ee
      exact ⟨l, rfl⟩
  rw [List.cons_append] at ee
  cases ee
  obtain ⟨r1, r2⟩ := RepL.parts rr (by rw [l5, l2])
  have ld : d1.length + 1 = us.length := by rw [r1.len, ← r.length, List.length_cons]
  have lv : d1.length = vs'.length := r1.len
  have hn : H s.heap.objs.size = Option.none := e0.hok.fresh (Nat.le_refl _)
  have vt : Vals ((V.ref p0 :: vs').take (n + 1)) (us.take (n + 1)) ∧ Vals ((V.ref p0 :: vs').drop (n + 1)) (us.drop (n + 1)) := by
    have e := r
    rw [← List.take_append_drop (n + 1) (V.ref p0 :: vs')] at e
    obtain ⟨u1, u2, eu, k1, k2⟩ := StX.vals_split e
    have h1 : u1.length = n + 1 := by
      rw [← k1.length, List.length_take, List.length_cons]
      omega
    subst eu
    rw [List.take_left' h1, List.drop_left' h1]
    exact ⟨k1, k2⟩
  have hl1 : ((V.ref p0 :: vs').take (n + 1)).length = n + 1 := by
    rw [List.length_take, List.length_cons]
    omega
  obtain ⟨hv1, hv2⟩ := hv _ _ _ _ vt.1 rz hl1 l2
  refine StX.run_bnd lk hcd S hr e0 (G := fun xs H2 => ∃ p, H p = Option.none ∧ xs = g ((V.ref p0 :: vs').take (n + 1)) zs ++ [V.ref p] ∧ H2 = upd H p (.tup ((V.ref p0 :: vs').drop (n + 1)))) (fun A' Ex Q' h => ?_) fun s2 H2 xs ⟨p, hp, ex, eH⟩ hr' => ?_
  · rw [hb kV doc pm an cdv ct us ws (by omega) (fun e => by rw [← ld, lx e]) (by rw [← rz.length, l2])]
    have hz : (us.drop (n + 1)).length ≤ sizeLine := by
      rw [List.length_drop]
      have : sizeLine = 16777216 := by decide
      omega
    refine wpAny_bind (wpAny_newTuple (wpAny_pure ?_) hz)
    have new : ObjOk P w (upd H s.heap.objs.size (.tup ((V.ref p0 :: vs').drop (n + 1)))) (s.heap.push ({ cls := .type "tuple", data := .seq (us.drop (n + 1)).toArray } : Obj)) s.heap.objs.size (.tup ((V.ref p0 :: vs').drop (n + 1))) :=
      ⟨by rw [vt.2.length]; exact hz, us.drop (n + 1), vt.2, ⟨_, Heap.get?_push_size _ rfl, rfl, _, rfl⟩⟩
    have un := StX.un_laid (fs := frs outer) (s := s) (o := ({ cls := .type "tuple", data := .seq (us.drop (n + 1)).toArray } : Obj)) (u := .tup ((V.ref p0 :: vs').drop (n + 1))) hn
    have z := h _ _ (g ((V.ref p0 :: vs').take (n + 1)) zs ++ [V.ref s.heap.objs.size]) (g (us.take (n + 1)) ws ++ [Value.ref s.heap.objs.size]) (StX.env0_laid e0 new) un rfl (fun e s' z => z) (hv1.append (.cons rfl .nil))
      (by rw [List.length_append, List.length_append, hv2] <;> rfl) ⟨_, hn, rfl, rfl⟩
    rw [List.zip_append (by rw [← hv1.length, hv2])] at z
    exact z
  · subst ex eH
    obtain ⟨t, pp, ev⟩ := hbody cdv A outer s2 (upd H p (.tup ((V.ref p0 :: vs').drop (n + 1)))) E hr' hgd
    have gl : Grow F0 H (upd F0 p (.tup ((V.ref p0 :: vs').drop (n + 1)))) (upd H p (.tup ((V.ref p0 :: vs').drop (n + 1)))) := Grow.laid hF hp
    have hpp : p0 ≠ p := fun z => by
      rw [z, hp] at hH0
      cases hH0
    have e1 : g ((V.ref p0 :: vs').take (n + 1)) zs = V.ref p0 :: g2 (vs'.take n) zs := by
      rw [List.take_succ_cons, hc _ _ _ (by rw [List.length_take]; omega) l2]
    rw [e1, List.cons_append]
    refine ⟨t, pp.nox, evI_of ev gl.fh (by rw [upd_ne hpp]; exact hp0) (by rw [upd_ne hpp]; exact hH0) (rc.mono gl.ff) ((hg _ _ _ _ _ ((r1.take n).mono gl.ff) (r2.mono gl.ff) (by rw [List.length_take]; omega) l5).append (RepL.cons ?_ RepL.nil)) hm2 fun v F' H' ws' ff fh oth new nF hH' rc' rv => ?_⟩
    · unfold Rep
      exact ⟨p, _, rfl, .inl (.inl upd_same), (r1.drop n).mono gl.ff⟩
    · refine q v F' H' ws' (gl.ff.trans ff) fh (fun a o hne e => oth a o hne (gl.hh a o e)) (fun a ha => ?_) nF hH' rc' rv
      rcases new a ha with h1 | h1
      · exact gl.new a h1
      · refine .inr ?_
        cases e : H a with
        | none => rfl
        | some o =>
          rw [gl.hh a o e] at h1
          cases h1
end

/-! ### arguments -/
structure ArgsG (X : Cx) (pos : Pos) (es : List Expr) (kws : List Keyword) (ks : List Str) (t : TA) : Prop where
  go : ∀ (f : Value) (first : List Value) (pins : List (Addr × Obj)) (s : Shared) (σ : L2.St) (H : Hp) (Qt : List V → Hp → Prop) (Q : Value → Shared → Prop), PySem.W.keepIn X.K f = true → Inv X pins σ H s → t σ H Qt →
    (∀ (us ws : List Value) (vs zs : List V) (H1 : Hp) (s1 : Shared), Inv X pins σ H1 s1 → Vals vs us → Vals zs ws → zs.length = ks.length → Qt (vs ++ zs) H1 → wpAny (model X.prog X.w) X.A (call f (first ++ us) (ks.zip ws)) Q X.xe s1) →
    wpAny (model X.prog X.w) X.A (callWith pos f first (backTo pos (starEach es X.env)) (backToKw pos (keywordEach kws X.env))) Q X.xe s
def tKw (n : Nat) (t tk : TA) : TA := fun σ H Q => t σ H fun vs H1 => tk σ H1 fun zs H2 => zs.length = n ∧ Q (vs ++ zs) H2
def mKw (n : Nat) (mL mK : M (List D)) : M (List D) := bnd mL fun ds => bnd mK fun es => if es.length = n then pur (ds ++ es) else fun _ => none
section
variable {X : Cx} {pos sp_ : Pos} {e : Expr} {es : List Expr} {kws : List Keyword} {ks : List Str} {t tk : TA} {te : TE}
theorem ag_plain (ha : PA X (e :: es) t) (he : starEach (e :: es) X.env = (false, eval e X.env) :: starEach es X.env := by rfl) (hpl : (backTo pos (starEach es X.env)).any (·.1) = false := by rfl) : ArgsG X pos (e :: es) [] [] t :=
  ⟨fun f first pins s σ H Qt Q hk I h q => PySem.W.callWith_K (first := first) (h₀ := X.base) I.ok.mod.kin hk (thn (ha.run pos pins s σ H _ I h) fun us s1 ⟨vs, H1, I1, r, z⟩ => ⟨I1.kIn, q us [] vs [] H1 s1 I1 r .nil rfl (by rw [List.append_nil]; exact z)⟩) he hpl⟩
theorem ag_nil : ArgsG X pos [] [] [] tNil :=
  ⟨fun f first pins s σ H Qt Q hk I h q => PySem.W.callWith_K0 (first := first) I.kIn hk (q [] [] [] [] H s I .nil .nil rfl h)⟩
theorem ag_kw (ha : PA X (e :: es) t) (hkw : PK X kws tk) (hall : (backToKw pos (keywordEach kws X.env)).all (·.1.isSome) = true := by rfl) (hks : (backToKw pos (keywordEach kws X.env)).filterMap (·.1) = ks := by rfl)
    (he : starEach (e :: es) X.env = (false, eval e X.env) :: starEach es X.env := by rfl) (hpl : ((backTo pos (starEach (e :: es) X.env)).any (·.1) || (backToKw pos (keywordEach kws X.env)).any (·.1.isNone)) = false := by rfl) : ArgsG X pos (e :: es) kws ks (tKw ks.length t tk) :=
  ⟨fun f first pins s σ H Qt Q hk I h q => PySem.W.callWith_KW (first := first) (h₀ := X.base) I.ok.mod.kin hk hall (thn (ha.run pos pins s σ H _ I h) fun us s1 ⟨vs, H1, I1, r, z⟩ =>
    thn (hkw.run pos pins s1 σ H1 _ I1 z) fun ws s2 ⟨zs, H2, I2, rz, l, z2⟩ => ⟨I2.kIn, by rw [hks]; exact q us ws vs zs H2 s2 I2 r rz l z2⟩) hpl he⟩
theorem ag_kw0 (hkw : PK X kws tk) (hall : (backToKw pos (keywordEach kws X.env)).all (·.1.isSome) = true := by rfl) (hks : (backToKw pos (keywordEach kws X.env)).filterMap (·.1) = ks := by rfl)
    (hpl : ((backTo pos (starEach [] X.env)).any (·.1) || (backToKw pos (keywordEach kws X.env)).any (·.1.isNone)) = false := by rfl) : ArgsG X pos [] kws ks (tKw ks.length tNil tk) :=
  ⟨fun f first pins s σ H Qt Q hk I h q => PySem.W.callWith_KW0 (first := first) (h₀ := X.base) I.ok.mod.kin hk hall
    (thn (hkw.run pos pins s σ H _ I h) fun ws s2 ⟨zs, H2, I2, rz, l, z2⟩ => ⟨I2.kIn, by rw [hks]; exact q [] ws [] zs H2 s2 I2 .nil rz l z2⟩) hpl⟩
theorem ag_star (ha : PA X (e :: es) t) (he : starEach (e :: es) X.env = (false, eval e X.env) :: starEach es X.env := by rfl) (hst : (backTo pos (starEach es X.env)).any (·.1) = true := by rfl) : ArgsG X pos (e :: es) [] [] t :=
  ⟨fun f first pins s σ H Qt Q hk I h q => PySem.W.callWith_S2 (first := first) (h₀ := X.base) I.ok.mod.kin hk (thn (ha.run pos pins s σ H _ I h) fun us s1 ⟨vs, H1, I1, r, z⟩ => ⟨I1.kIn, q us [] vs [] H1 s1 I1 r .nil rfl (by rw [List.append_nil]; exact z)⟩) he hst⟩
theorem ag_star1 (he : PE X e te) (hst : starEach [.Starred e sp_] X.env = [(true, eval e X.env)] := by rfl) : ArgsG X pos [.Starred e sp_] [] [] (StX.tStar X.K te tNil) := by
  refine ⟨fun f first pins s σ H Qt Q hk I h q => PySem.W.callWith_S (first := first) (h₀ := X.base) I.ok.mod.kin hk (thn (he.run pins s σ H _ I h) fun v s1 ⟨y, H1, I1, ry, a, xs, ey, hxs, z⟩ => ?_) hst⟩
  subst ey
  obtain rfl : v = Value.ref a := ry
  exact StX.star_any I1 hxs fun us s2 I2 rv => ⟨I2.kIn, q us [] xs [] H1 s2 I2 rv .nil rfl z⟩
end
section
variable {K : PySem.W.Frag} {mg : Str → Option Value}
theorem ev_kw {n : Nat} {t tk : TA} {mL mK : M (List D)} (h : EvL K mg t mL) (hk : EvL K mg tk mK) : EvL K mg (tKw n t tk) (mKw n mL mK) := fun B F H σ sd ds sd' S hm Q q => by
  obtain ⟨d1, sd1, h1, h2⟩ := bnd_some hm
  obtain ⟨d2, sd2, h3, h4⟩ := bnd_some h2
  by_cases z : d2.length = n
  case neg =>
    rw [if_neg z] at h4
    cases h4
  rw [if_pos z] at h4
  obtain ⟨rfl, rfl⟩ := pur_some h4
  refine h B F H σ sd d1 sd1 S h1 _ fun vs F1 H1 S1 e1 r1 => ?_
  refine hk B F1 H1 σ sd1 d2 _ S1 h3 _ fun zs F2 H2 S2 e2 r2 => ⟨by rw [← r2.len, z], q _ F2 H2 S2 (e1.trans e2) ((r1.mono e2).append r2)⟩
/-- *e among arguments -/
def mStar (me : M D) (mL : M (List D)) : M (List D) := bnd me fun d => bnd (lft (itemsD d)) fun xs => bnd mL fun ds => pur (xs ++ ds)
theorem ev_star {te : TE} {t : TA} {me : M D} {mL : M (List D)} (he : EvD K mg te me) (h : EvL K mg t mL) : EvL K mg (StX.tStar K te t) (mStar me mL) := fun B F H σ sd ds sd' S hm Q q => by
  obtain ⟨d, sd1, h1, h2⟩ := bnd_some hm
  obtain ⟨xs, sd2, h3, h4⟩ := bnd_some h2
  obtain ⟨h5, rfl⟩ := lft_some h3
  obtain ⟨d2, sd3, h6, h7⟩ := bnd_some h4
  obtain ⟨rfl, rfl⟩ := pur_some h7
  refine he B F H σ sd d _ S h1 _ fun v F1 H1 S1 e1 r1 => ?_
  cases d with
  | lst ys =>
    cases h5
    obtain ⟨a, vs, rfl, k1, k2⟩ := r1.lst'
    refine ⟨a, vs, rfl, .inr (Evl.sq_of (S1.fh _ _ k1)), ?_⟩
    exact h B F1 H1 σ _ d2 _ S1 h6 _ fun zs F2 H2 S2 e2 r2 => q _ F2 H2 S2 (e1.trans e2) ((k2.mono e2).append r2)
  | tup ys =>
    cases h5
    obtain ⟨a, vs, rfl, k1, k2⟩ := r1.tup'
    refine ⟨a, vs, rfl, .inl (Evl.ex_t S1.fh k1), ?_⟩
    exact h B F1 H1 σ _ d2 _ S1 h6 _ fun zs F2 H2 S2 e2 r2 => q _ F2 H2 S2 (e1.trans e2) ((k2.mono e2).append r2)
  | _ => cases h5
end
section
variable {X : Cx} {p pos apos spos : Pos} {e o : Expr} {es : List Expr} {kws : List Keyword} {ks : List Str} {t : TA} {te ta : TE} {x m cls : Str} {k : Nat} {f C : Addr} {sp : Sp} {mf xf : List D → Option D} {mi : Cell → List D → Option (D × Cell)} {mL : M (List D)} {me mo : M D} {CX : CXT} {E : XK}
theorem pa_stard (he : PEd X e te me) (hr : PAd X es t mL) (hs : starEach (.Starred e p :: es) X.env = (true, eval e X.env) :: starEach es X.env := by rfl) : PAd X (.Starred e p :: es) (StX.tStar X.K te t) (mStar me mL) := ⟨StX.pa_star he.1 hr.1 hs, ev_star he.2 hr.2⟩
theorem run_cg {pins : List (Addr × Obj)} {σ : L2.St} {H : Hp} {s : Shared} {Q : VK} {us ws : List Value} {vs zs : List V} (F : CallG X.prog X.w X.K X.mg X.base CX k f ks sp) (hr : Room k X.A) (hgd : X.A.guards = some []) (hx : PassesAt CX X σ E)
    (I : Inv X pins σ H s) (r : Vals vs us) (rz : Vals zs ws) (l2 : zs.length = ks.length) (h : sp (vs ++ zs) H Q E) : wpAny (model X.prog X.w) X.A (call (.ref f) us (ks.zip ws)) (EP X pins σ Q) X.xe s := by
  refine wpAny_call (codeAny_mono (F.go X.A X.stack s H us ws vs zs Q E hr hgd I.env0 r rz l2 h) ?_)
  intro r s' hq
  match r, hq with
  | .error e, hq => exact hx pins H s e s' I hq
  | .ok (.ret u), hq => exact I.after hq
  | .ok .next, hq => exact hq.elim
  | .ok .brk, hq => exact hq.elim
  | .ok .cont, hq => exact hq.elim
/-- f(..), with a wish behind errors -/
def tGF (sp : Sp) (E : L2.St → XK) (t : TA) : TE := fun σ H Q => t σ H fun vs H1 => sp vs H1 Q (E σ)
theorem pg_cg {E : L2.St → XK} (F : CallG X.prog X.w X.K X.mg X.base CX k f ks sp) (hr : Room k X.A) (hgd : X.A.guards = some []) (hg : Gl X x) (hm : X.mg x = some (.ref f)) (hk : PySem.W.keepIn X.K (.ref f) = true) (hx : ∀ σ, PassesAt CX X σ (E σ)) (hA : ArgsG X pos es kws ks t)
    (hdb : (x == ("__debug__" : Str)) = false := by decide) : PE X (.Call (.Name x p) es kws pos) (tGF sp E t) := by
  constructor
  intro pins s σ H Q I h
  refine wpAny_Call_Name_kw (ld_glob I hg hm ?_ hdb)
  exact hA.go (.ref f) [] pins s σ H _ _ hk I h fun us ws vs zs H1 s1 I1 r rz l q => run_cg F hr hgd (hx σ) I1 r rz l q
/-- o.m(..) -/
def tGM (C : Addr) (m : Str) (sp : Sp) (E : L2.St → XK) (ta : TE) (t : TA) : TE := fun σ H Q => ta σ H fun x H1 => ∃ a dx fs, x = .ref a ∧ H1 a = some (.ins C dx fs) ∧ fs.lookup m = none ∧ t σ H1 fun vs H2 => sp (.ref a :: vs) H2 Q (E σ)
theorem pg_cgM {pl : Sem Bool} {E : L2.St → XK} (F : CallG X.prog X.w X.K X.mg X.base CX k f ks sp) (he : PE X o ta) (c : Cls X.K C) (hm : Meth X.K C m f) (hr : Room k X.A) (hgd : X.A.guards = some []) (hx : ∀ σ, PassesAt CX X σ (E σ)) (hA : ArgsG X pos es kws ks t)
    (ht : eval (.Call (.Attribute o m apos) es kws pos) X.env = (do
      let obj ← eval o X.env
      standAt apos.atName
      let (fn, own) ← holding [obj] (getMethod obj m pl)
      callWith pos fn own (backTo pos (starEach es X.env)) (backToKw pos (keywordEach kws X.env))) := by rfl) : PE X (.Call (.Attribute o m apos) es kws pos) (tGM C m sp E ta t) := by
  constructor
  intro pins s σ H Q I h
  refine PySem.W.methodCall_KW (pl := pl) (thn (he.run pins s σ H _ I h) ?_) ht
  rintro u s1 ⟨x, H1, I1, rx, a, dx, fs, rfl, ea, l, q⟩
  obtain rfl : u = Value.ref a := rx
  refine getmeth_ok I1 ea c hm l ?_
  exact hA.go _ [.ref a] pins s1 σ H1 _ _ hm.kp I1 q fun us ws vs zs H2 s2 I2 r rz l2 q2 => run_cg (us := .ref a :: us) (vs := .ref a :: vs) F hr hgd (hx σ) I2 (.cons rfl r) rz l2 q2
/-- C(..) -/
def tGC (C : Addr) (sp : Sp) (E : L2.St → XK) (t : TA) : TE := fun σ H Q => t σ H fun vs H1 => ∀ x dx, H1 x = none → H1 dx = none → dx ≠ x → sp (.ref x :: vs) (upd (upd H1 dx (.own x)) x (.ins C dx [])) (fun v H2 => v = .non ∧ Q (.ref x) H2) (E σ)
theorem make_guardsK {A : Around} {C : Addr} {us : List Value} {kw : List (Str × Value)} (h : A.guards = some []) : (A.under (.builtin "type.__call__" ⟨.ref C :: us, kw⟩)).guards = some [] := make_guards h
theorem run_cgC {pins : List (Addr × Obj)} {σ : L2.St} {H : Hp} {s : Shared} {Q : VK} {us ws : List Value} {vs zs : List V} (Mk0 : Mk X.K C f) (F : CallG X.prog X.w X.K X.mg X.base CX k f ks sp) (hr : Room (k + 1) X.A) (hgd : X.A.guards = some []) (hx : PassesAt CX X σ E)
    (I : Inv X pins σ H s) (r : Vals vs us) (rz : Vals zs ws) (l2 : zs.length = ks.length)
    (h : ∀ x dx, H x = none → H dx = none → dx ≠ x → sp (.ref x :: (vs ++ zs)) (upd (upd H dx (.own x)) x (.ins C dx [])) (fun v H2 => v = .non ∧ Q (.ref x) H2) E) : wpAny (model X.prog X.w) X.A (call (.ref C) us (ks.zip ws)) (EP X pins σ Q) X.xe s := by
  have hq := h (s.heap.objs.size + 1) s.heap.objs.size (I.hok.fresh (Nat.le_succ _)) (I.hok.fresh (Nat.le_refl _)) (Nat.ne_of_lt (Nat.lt_succ_self _))
  have J := Inv.made (C := C) I
  refine wpAny_call (make_map (f := f) I.kIn Mk0.makes Mk0.init (beq_iff_eq.mp Mk0.fn) (codeAny_mono (F.go _ X.stack _ _ (Value.ref (s.heap.objs.size + 1) :: us) ws (V.ref (s.heap.objs.size + 1) :: vs) zs _ E (hr.make C us (ks.zip ws)) (make_guards hgd)
    (J.env0.make C us (ks.zip ws)) (.cons rfl r) rz l2 hq) ?_))
  intro r s' hq'
  match r, hq' with
  | .error e, hq' => exact hx pins _ _ e s' J hq'
  | .ok (.ret u), hq' =>
    obtain ⟨v, H', I3, rv, rfl, q3⟩ := J.after hq'
    exact ⟨rv, V.ref (s.heap.objs.size + 1), H', I3, rfl, q3⟩
  | .ok .next, hq' => exact hq'.elim
  | .ok .brk, hq' => exact hq'.elim
  | .ok .cont, hq' => exact hq'.elim
theorem pg_cgC {E : L2.St → XK} (Mk0 : Mk X.K C f) (F : CallG X.prog X.w X.K X.mg X.base CX k f ks sp) (hr : Room (k + 1) X.A) (hgd : X.A.guards = some []) (hg : Gl X x) (hm : X.mg x = some (.ref C)) (hx : ∀ σ, PassesAt CX X σ (E σ)) (hA : ArgsG X pos es kws ks t)
    (hdb : (x == ("__debug__" : Str)) = false := by decide) : PE X (.Call (.Name x p) es kws pos) (tGC C sp E t) := by
  constructor
  intro pins s σ H Q I h
  refine wpAny_Call_Name_kw (ld_glob I hg hm ?_ hdb)
  exact hA.go (.ref C) [] pins s σ H _ _ Mk0.kp I h fun us ws vs zs H1 s1 I1 r rz l q => run_cgC Mk0 F hr hgd (hx σ) I1 r rz l fun x dx a b c => q x dx a b c
/-! ### as mirrors -/
def ArgsD (X : Cx) (pos : Pos) (es : List Expr) (kws : List Keyword) (ks : List Str) (t : TA) (m : M (List D)) : Prop := ArgsG X pos es kws ks t ∧ EvL X.K X.mg t m
theorem ad_plain (ha : PAd X (e :: es) t mL) (he : starEach (e :: es) X.env = (false, eval e X.env) :: starEach es X.env := by rfl) (hpl : (backTo pos (starEach es X.env)).any (·.1) = false := by rfl) : ArgsD X pos (e :: es) [] [] t mL := ⟨ag_plain ha.1 he hpl, ha.2⟩
theorem ad_nil : ArgsD X pos [] [] [] tNil mNil := ⟨ag_nil, (pa_nild (X := X)).2⟩
theorem ad_kw {tk : TA} {mK : M (List D)} (ha : PAd X (e :: es) t mL) (hkw : PKd X kws tk mK) (hall : (backToKw pos (keywordEach kws X.env)).all (·.1.isSome) = true := by rfl) (hks : (backToKw pos (keywordEach kws X.env)).filterMap (·.1) = ks := by rfl)
    (he : starEach (e :: es) X.env = (false, eval e X.env) :: starEach es X.env := by rfl) (hpl : ((backTo pos (starEach (e :: es) X.env)).any (·.1) || (backToKw pos (keywordEach kws X.env)).any (·.1.isNone)) = false := by rfl) : ArgsD X pos (e :: es) kws ks (tKw ks.length t tk) (mKw ks.length mL mK) :=
  ⟨ag_kw ha.1 hkw.1 hall hks he hpl, ev_kw ha.2 hkw.2⟩
theorem ad_kw0 {tk : TA} {mK : M (List D)} (hkw : PKd X kws tk mK) (hall : (backToKw pos (keywordEach kws X.env)).all (·.1.isSome) = true := by rfl) (hks : (backToKw pos (keywordEach kws X.env)).filterMap (·.1) = ks := by rfl)
    (hpl : ((backTo pos (starEach [] X.env)).any (·.1) || (backToKw pos (keywordEach kws X.env)).any (·.1.isNone)) = false := by rfl) : ArgsD X pos [] kws ks (tKw ks.length tNil tk) (mKw ks.length mNil mK) :=
  ⟨ag_kw0 hkw.1 hall hks hpl, ev_kw (pa_nild (X := X)).2 hkw.2⟩
theorem ad_star (ha : PAd X (e :: es) t mL) (he : starEach (e :: es) X.env = (false, eval e X.env) :: starEach es X.env := by rfl) (hst : (backTo pos (starEach es X.env)).any (·.1) = true := by rfl) : ArgsD X pos (e :: es) [] [] t mL := ⟨ag_star ha.1 he hst, ha.2⟩
theorem ad_star1 (he : PEd X e te me) (hst : starEach [.Starred e spos] X.env = [(true, eval e X.env)] := by rfl) : ArgsD X pos [.Starred e spos] [] [] (StX.tStar X.K te tNil) (mStar me mNil) := ⟨ag_star1 he.1 hst, ev_star he.2 (pa_nild (X := X)).2⟩
theorem pd_gF (F : CallG X.prog X.w X.K X.mg X.base CX0 k f ks (spW X.K X.mg mf)) (hr : Room k X.A) (hgd : X.A.guards = some []) (hg : Gl X x) (hm : X.mg x = some (.ref f)) (hk : PySem.W.keepIn X.K (.ref f) = true) (hA : ArgsD X pos es kws ks t mL)
    (hdb : (x == ("__debug__" : Str)) = false := by decide) : PEd X (.Call (.Name x p) es kws pos) (tGF (spW X.K X.mg mf) (fun _ => E0) t) (mCall mf mL) := by
  refine ⟨pg_cg F hr hgd hg hm hk (fun σ pins H s e s' I z => z.elim) hA.1 hdb, fun B F0 H σ sd d sd' S hm' Q q => ?_⟩
  obtain ⟨ds, sd1, h1, h2⟩ := bnd_some hm'
  obtain ⟨h3, rfl⟩ := lft_some h2
  exact hA.2 B F0 H σ sd ds _ S h1 _ fun vs F1 H1 S1 e1 r1 => ⟨F1, ds, d, S1.fh, r1, h3, fun v F2 H2 g r2 => q v F2 H2 (S1.grow g) (e1.trans g.ff) r2⟩
def mMethV (mf : List D → Option D) (cls m : Str) (mo : M D) (mL : M (List D)) : M D := bnd mo fun o => if isC cls m o = true then bnd mL fun ds => lft (mf (o :: ds)) else fun _ => none
theorem pd_gM {pl : Sem Bool} (F : CallG X.prog X.w X.K X.mg X.base CX0 k f ks (spW X.K X.mg mf)) (c : Cls X.K C) (hM : Meth X.K C m f) (hr : Room k X.A) (hgd : X.A.guards = some []) (hmg : X.mg cls = some (.ref C)) (ho : PEd X o ta mo) (hA : ArgsD X pos es kws ks t mL)
    (ht : eval (.Call (.Attribute o m apos) es kws pos) X.env = (do
      let obj ← eval o X.env
      standAt apos.atName
      let (fn, own) ← holding [obj] (getMethod obj m pl)
      callWith pos fn own (backTo pos (starEach es X.env)) (backToKw pos (keywordEach kws X.env))) := by rfl) : PEd X (.Call (.Attribute o m apos) es kws pos) (tGM C m (spW X.K X.mg mf) (fun _ => E0) ta t) (mMethV mf cls m mo mL) := by
  refine ⟨pg_cgM (pl := pl) F ho.1 c hM hr hgd (fun σ pins H s e s' I z => z.elim) hA.1 ht, fun B F0 H σ sd d sd' S hm' Q q => ?_⟩
  obtain ⟨ob, sd1, h1, h2⟩ := bnd_some hm'
  refine ho.2 B F0 H σ sd ob sd1 S h1 _ fun v F1 H1 S1 e1 r1 => ?_
  by_cases z : isC cls m ob = true
  case neg =>
    rw [if_neg z] at h2
    cases h2
  rw [if_pos z] at h2
  obtain ⟨ns, xs, rfl, hno⟩ := isC_some z
  obtain ⟨ds, sd2, h3, h4⟩ := bnd_some h2
  obtain ⟨h5, rfl⟩ := lft_some h4
  have r1' := r1
  unfold Rep at r1'
  obtain ⟨a, C', dx, vs, rfl, k1, k2, k3, k4⟩ := r1'
  rw [hmg] at k1
  cases k1
  refine ⟨a, dx, _, rfl, S1.fh _ _ k2, lookup_zip_none hno, ?_⟩
  refine hA.2 B F1 H1 σ sd1 ds _ S1 h3 _ fun vs2 F2 H2 S2 e2 r2 => ?_
  exact ⟨F2, _, d, S2.fh, RepL.cons (r1.mono e2) r2, h5, fun v F3 H3 g r3 => q v F3 H3 (S2.grow g) ((e1.trans e2).trans g.ff) r3⟩
def mMakeV (mi : Cell → List D → Option (D × Cell)) (cls : Str) (mL : M (List D)) : M D := bnd mL fun ds => match mi (.ins cls [] []) ds with
  | some (.non, c') => pur c'.d
  | _ => fun _ => none
theorem pd_gC (Mk0 : Mk X.K C f) (F : CallG X.prog X.w X.K X.mg X.base CX0 k f ks (spIw X.K X.mg mi)) (hr : Room (k + 1) X.A) (hgd : X.A.guards = some []) (hg : Gl X x) (hm : X.mg x = some (.ref C)) (hA : ArgsD X pos es kws ks t mL)
    (hdb : (x == ("__debug__" : Str)) = false := by decide) : PEd X (.Call (.Name x p) es kws pos) (tGC C (spIw X.K X.mg mi) (fun _ => E0) t) (mMakeV mi x mL) := by
  refine ⟨pg_cgC Mk0 F hr hgd hg hm (fun σ pins H s e s' I z => z.elim) hA.1 hdb, fun B F0 H σ sd d sd' S hm' Q q => ?_⟩
  obtain ⟨ds, sd1, h1, h2⟩ := bnd_some hm'
  cases hmf : mi (.ins x [] []) ds with
  | none => rw [hmf] at h2; cases h2
  | some pr =>
    obtain ⟨d1, c'⟩ := pr
    rw [hmf] at h2
    cases d1 with
    | non =>
      obtain ⟨rfl, rfl⟩ := pur_some h2
      refine hA.2 B F0 H σ sd ds _ S h1 _ fun vs F1 H1 S1 e1 r1 => fun a dx ha0 hdx hne => ?_
      have hF : F1 a = none := Evl.fresh_back S1.fh ha0
      have ex1 : Ex H1 (upd (upd H1 dx (.own a)) a (.ins C dx [])) := fun b u e => by
        rw [upd_ne (ne_of_none e ha0), upd_ne (ne_of_none e hdx)]
        exact e
      refine ⟨F1, a, .ins C dx [], vs, .ins x [] [], ds, .non, c', rfl, S1.fh.trans ex1, hF, upd_same, ⟨C, dx, [], rfl, rfl, hm, RepL.nil⟩, r1, hmf, fun v F2 H2 ws' ff fh oth new n' h' r' rv => ?_⟩
      unfold Rep at rv
      refine ⟨rv, ?_⟩
      have e2 : Ex F2 (upd F2 a ws') := Evl.Ex.new n'
      have g : Grow F1 H1 (upd F2 a ws') H2 := by
        refine ⟨ff.trans e2, fun b u e => ?_, fun b u e => oth b u (ne_of_none e ha0) (ex1 b u e), fun b hb => ?_⟩
        · by_cases z : b = a
          · subst z
            rw [upd_same] at e
            cases e
            exact h'
          · rw [upd_ne z] at e
            exact fh b u e
        · by_cases z : b = a
          · subst z
            exact .inr ha0
          · rw [upd_ne z] at hb
            rcases new b hb with h | h
            · exact .inl h
            · exact .inr (Evl.fresh_back ex1 h)
      exact q _ _ H2 (S1.grow g) (e1.trans g.ff) ((r'.mono e2).rep upd_same)
    | _ => cases h2
end

/-! ### arrangements -/
/-- the values at these places of four lists: by place, defaults, defaults of keywords, by keyword -/
def pickA {α : Type} (a b c d : List α) : Nat → List α
  | 0 => a
  | 1 => b
  | 2 => c
  | _ => d
def arrL {α : Type} : List (Nat × Nat) → List α → List α → List α → List α → List α
  | [], _, _, _, _ => []
  | (w, i) :: ix, a, b, c, d => match (pickA a b c d w)[i]? with
    | none => arrL ix a b c d
    | some v => v :: arrL ix a b c d
theorem vals_arr {a b c d : List V} {a' b' c' d' : List Value} (ha : Vals a a') (hb : Vals b b') (hc : Vals c c') (hd : Vals d d') : ∀ ix : List (Nat × Nat), Vals (arrL ix a b c d) (arrL ix a' b' c' d')
  | [] => .nil
  | (w, i) :: ix => by
    have ih := vals_arr ha hb hc hd ix
    have get : ∀ {x : List V} {y : List Value}, Vals x y → ∀ i : Nat, (x[i]? = none ∧ y[i]? = none) ∨ ∃ v u, x[i]? = some v ∧ y[i]? = some u ∧ RelV v u := by
      intro x y h
      induction h with
      | nil => exact fun i => .inl ⟨rfl, rfl⟩
      | cons r _ ih =>
        intro i
        cases i with
        | zero => exact .inr ⟨_, _, rfl, rfl, r⟩
        | succ i => exact ih i
    have hw : Vals (pickA a b c d w) (pickA a' b' c' d' w) := by
      match w with
      | 0 => exact ha
      | 1 => exact hb
      | 2 => exact hc
      | n + 3 => exact hd
    unfold arrL
    rcases get hw i with ⟨h1, h2⟩ | ⟨v, u, h1, h2, r⟩
    · rw [h1, h2]; exact ih
    · rw [h1, h2]; exact .cons r ih
section
variable {K : PySem.W.Frag} {mg : Str → Option Value} {F : Hp}
theorem rep_arr {a b c d : List D} {a' b' c' d' : List V} (ha : RepL K mg F a a') (hb : RepL K mg F b b') (hc : RepL K mg F c c') (hd : RepL K mg F d d') : ∀ ix : List (Nat × Nat), RepL K mg F (arrL ix a b c d) (arrL ix a' b' c' d')
  | [] => RepL.nil
  | (w, i) :: ix => by
    have ih := rep_arr ha hb hc hd ix
    have hw : RepL K mg F (pickA a b c d w) (pickA a' b' c' d' w) := by
      match w with
      | 0 => exact ha
      | 1 => exact hb
      | 2 => exact hc
      | n + 3 => exact hd
    unfold arrL
    cases e : (pickA a b c d w)[i]? with
    | none =>
      have e2 : (pickA a' b' c' d' w)[i]? = none := by
        rw [List.getElem?_eq_none_iff] at e ⊢
        rw [← hw.len]
        exact e
      rw [e2]
      exact ih
    | some v =>
      obtain ⟨u, e2, r⟩ := hw.get e
      rw [e2]
      exact RepL.cons r ih
end
section
variable {P : Program} {w : World} {K : PySem.W.Frag} {mg : Str → Option Value} {base : Heap} {CX : CXT} {k n m : Nat} {f : Addr} {fd : FuncData} {ps ks : List Str} {dvs mvs : List V} {d0 m0 : List D} {ix ix2 : List (Nat × Nat)} {x qual : Str} {params : Arguments} {body : List Stmt} {scope : Scope} {kws : List (Str × V)}
/-- how a call of these many values and these keywords binds -/
def BindA (K : PySem.W.Frag) (fd : FuncData) (ps : List Str) (n : Nat) (ks : List Str) (ix : List (Nat × Nat)) (dvs mvs : List V) : Prop := ∃ its mv : List Value, KBn K fd ps n ks (fun us ws => arrL ix us its mv ws) (fun vs zs => arrL ix vs dvs mvs zs)
theorem CallG.ofArr {mf : List D → Option D} (F : FnG P w K mg base CX k f fd ps (spP K mg m mf)) (hb : BindA K fd ps n ks ix dvs mvs) (hd : ∀ F, RepL K mg F d0 dvs) (hm : ∀ F, RepL K mg F m0 mvs) (hl : ∀ ds es : List D, ds.length = n → es.length = ks.length → (arrL ix ds d0 m0 es).length = m) :
    CallG P w K mg base CX k f ks (spW K mg (kwf n ks.length mf fun ds es => arrL ix ds d0 m0 es)) := by
  obtain ⟨its, mv, hb⟩ := hb
  exact CallG.ofP F hb fun F ds vs es zs r s l1 l2 => ⟨rep_arr r (hd F) (hm F) s ix, hl ds es l1 l2⟩
theorem CallG.ofArrR {mf xf : List D → Option D} (F : FnG P w K mg base CX k f fd ps (spR K mg m mf xf)) (hb : BindA K fd ps n ks ix dvs mvs) (hd : ∀ F, RepL K mg F d0 dvs) (hm : ∀ F, RepL K mg F m0 mvs) (hl : ∀ ds es : List D, ds.length = n → es.length = ks.length → (arrL ix ds d0 m0 es).length = m) :
    CallG P w K mg base CX k f ks (spRw K mg (kwf n ks.length mf fun ds es => arrL ix ds d0 m0 es) (kwf n ks.length xf fun ds es => arrL ix ds d0 m0 es)) := by
  obtain ⟨its, mv, hb⟩ := hb
  exact CallG.ofR F hb fun F ds vs es zs r s l1 l2 => ⟨rep_arr r (hd F) (hm F) s ix, hl ds es l1 l2⟩
theorem CallG.ofArrI {mi : Cell → List D → Option (D × Cell)} (F : FnG P w K mg base CX k f fd ps (spI K mg m mi)) (hb : BindA K fd ps (n + 1) ks ix dvs mvs) (hd : ∀ F, RepL K mg F d0 dvs) (hm : ∀ F, RepL K mg F m0 mvs) (hl : ∀ ds es : List D, ds.length = n → es.length = ks.length → (arrL ix2 ds d0 m0 es).length = m)
    (hc : ∀ y (vs zs : List V), vs.length = n → zs.length = ks.length → arrL ix (y :: vs) dvs mvs zs = y :: arrL ix2 vs dvs mvs zs) :
    CallG P w K mg base CX k f ks (spIw K mg fun c => kwf n ks.length (mi c) fun ds es => arrL ix2 ds d0 m0 es) := by
  obtain ⟨its, mv, hb⟩ := hb
  exact CallG.ofI F hb hc fun F ds vs es zs r s l1 l2 => ⟨rep_arr r (hd F) (hm F) s ix2, hl ds es l1 l2⟩
theorem bindA_e (F : L2.FunD K x qual params body scope [] kws f fd) (n : Nat) (ks : List Str) (ix : List (Nat × Nat))
    (h : ∀ (kV doc pm : Value) (an : Option Addr) (cdv ct : Value) (us ws : List Value), us.length = n → ws.length = ks.length → bindArgs (PySem.W.fnOf x qual params body scope .none kV doc pm an cdv ct) ⟨us, ks.zip ws⟩ = pure (ps.zip (arrL ix us [] [] ws))) : BindA K fd ps n ks ix [] [] :=
  ⟨[], [], kbindsE F n ks (fun us ws => arrL ix us [] [] ws) (fun r1 r2 => vals_arr r1 .nil .nil r2 ix) h⟩
theorem bindA_d (F : L2.FunD K x qual params body scope dvs kws f fd) (n : Nat) (ks : List Str) (ix : List (Nat × Nat)) (hd : dvs ≠ [])
    (h : ∀ (T : Addr) (kV doc pm : Value) (an : Option Addr) (cdv ct : Value) (us its ws : List Value), us.length = n → its.length = dvs.length → ws.length = ks.length →
      ∃ k, bindArgs (PySem.W.fnOf x qual params body scope (.ref T) kV doc pm an cdv ct) ⟨us, ks.zip ws⟩ = seqItems? (.ref T) >>= k ∧ k (some its.toArray) = pure (ps.zip (arrL ix us its [] ws))) : BindA K fd ps n ks ix dvs [] := by
  obtain ⟨its, hb⟩ := FunD.kbindsD F n ks (fun us its ws => arrL ix us its [] ws) hd (fun r1 r2 r3 => vals_arr r1 r2 .nil r3 ix) h
  exact ⟨its, [], hb⟩
theorem bindA_0 (F : L2.FunD K x qual params body scope [] kws f fd) (n : Nat) (ks : List Str) (ms : List (Str × V)) (ix : List (Nat × Nat)) (hk : kws ≠ []) (hms : ∀ q ∈ ms, q ∈ kws)
    (h : ∀ (D : Addr) (doc pm : Value) (an : Option Addr) (cdv ct : Value) (us mv ws : List Value), us.length = n → mv.length = ms.length → ws.length = ks.length →
      KwChain D ((ms.map (·.1)).zip mv) (bindArgs (PySem.W.fnOf x qual params body scope .none (.ref D) doc pm an cdv ct) ⟨us, ks.zip ws⟩) (ps.zip (arrL ix us [] mv ws))) : BindA K fd ps n ks ix [] (ms.map (·.2)) := by
  obtain ⟨mv, hb⟩ := FunD.kbinds0 F n ks ms (fun us mv ws => arrL ix us [] mv ws) hk hms (fun r1 r2 r3 => vals_arr r1 .nil r2 r3 ix) h
  exact ⟨[], mv, hb⟩
end
/-- a call with keywords, seen as one by place -/
class KwEq {α : Type} (g : List D → Option α) (ds : List D) (f : outParam (List D → Option α)) (es : outParam (List D)) : Prop where
  eq : g ds = f es
end Mir
set_option linter.all false
set_option maxRecDepth 100000
set_option maxHeartbeats 4000001
namespace Mir
open PySem PySem.Spec L2
/-! ### sorted -/
def leS (a b : Str) : Bool := !ltCps b.cps.toList a.cps.toList
theorem leS_iff {a b : Str} : leS a b = true ↔ a.cps.toList ≤ b.cps.toList := by
  unfold leS
  rw [PyProof.Rows.ltCps_eq, Bool.not_eq_true', decide_eq_false_iff_not]
  exact List.not_lt
theorem leS_trans (a b c : Str) (h : leS a b = true) (k : leS b c = true) : leS a c = true := leS_iff.mpr (List.le_trans (leS_iff.mp h) (leS_iff.mp k))
theorem leS_total (a b : Str) : (leS a b || leS b a) = true := by
  rw [Bool.or_eq_true, leS_iff, leS_iff]
  exact List.le_total _ _
theorem str_ext {a b : Str} (h : a.cps.toList = b.cps.toList) : a = b := by
  obtain ⟨⟨x⟩⟩ := a
  obtain ⟨⟨y⟩⟩ := b
  simp at h
  rw [h]
theorem leS_anti {a b : Str} (h : leS a b = true) (k : leS b a = true) : a = b := str_ext (List.le_antisymm (leS_iff.mp h) (leS_iff.mp k))
def sortS (l : List Str) : List Str := l.mergeSort leS
theorem sortS_perm (l : List Str) : (sortS l).Perm l := List.mergeSort_perm l leS
theorem sortS_pw (l : List Str) : (sortS l).Pairwise fun a b => leS a b = true := List.pairwise_mergeSort leS_trans leS_total l
theorem rising_pw : ∀ (l : List Str) (p : Str), PyProof.Rows.risingS p l = true → (p :: l).Pairwise fun a b => leS a b = true
  | [], p, _ => by simp
  | x :: r, p, h => by
    have h' : (!ltCps x.cps.toList p.cps.toList && PyProof.Rows.risingS x r) = true := h
    rw [Bool.and_eq_true] at h'
    have ih := rising_pw r x h'.2
    have hx : leS p x = true := h'.1
    refine List.Pairwise.cons (fun y hy => ?_) ih
    rcases List.mem_cons.mp hy with rfl | hy
    · exact hx
    · exact leS_trans _ _ _ hx (List.rel_of_pairwise_cons ih hy)
theorem sortS_uniq {l ys : List Str} (h : ys.Perm l) (hs : PyProof.Rows.sortedS ys = true) : ys = sortS l := by
  refine List.Perm.eq_of_pairwise (le := fun a b => leS a b = true) (fun a b _ _ h1 h2 => leS_anti h1 h2) ?_ (sortS_pw l) (h.trans (sortS_perm l).symm)
  cases ys with
  | nil => exact List.Pairwise.nil
  | cons x r => exact rising_pw r x hs
theorem sortS_eq {a b : List Str} : sortS a = sortS b ↔ a.Perm b := by
  constructor
  · intro h
    exact (sortS_perm a).symm.trans (h ▸ sortS_perm b)
  · intro h
    refine List.Perm.eq_of_pairwise (le := fun a b => leS a b = true) (fun a b _ _ h1 h2 => leS_anti h1 h2) (sortS_pw a) (sortS_pw b) ((sortS_perm a).trans (h.trans (sortS_perm b).symm))
def sortI (l : List Int) : List Int := l.mergeSort fun a b => decide (a ≤ b)
theorem sortI_perm (l : List Int) : (sortI l).Perm l := List.mergeSort_perm l _
theorem sortI_pw (l : List Int) : (sortI l).Pairwise fun a b => a ≤ b := by
  have h := List.pairwise_mergeSort (le := fun a b : Int => decide (a ≤ b)) (fun a b c h k => by simp at *; omega) (fun a b => by simp; omega) l
  exact h.imp fun h => by simpa using h
theorem sortI_uniq {l ys : List Int} (h : ys.Perm l) (hs : ys.Pairwise (· ≤ ·)) : ys = sortI l :=
  List.Perm.eq_of_pairwise (le := fun a b => a ≤ b) (fun a b _ _ h1 h2 => Int.le_antisymm h1 h2) hs (sortI_pw l) (h.trans (sortI_perm l).symm)
theorem obj_there {P : Program} {w : World} {H : Hp} {h : Heap} {a : Addr} {o : HO} (x : ObjOk P w H h a o) : ∃ ob, h.get? a = some ob := by
  cases o with
  | lst _ => obtain ⟨_, _, _, _, e⟩ := x; exact ⟨_, e⟩
  | tup _ => obtain ⟨_, _, _, ⟨_, e, _⟩⟩ := x; exact ⟨_, e⟩
  | dK _ => obtain ⟨_, _, _, _, _, _, _, e, _⟩ := x; exact ⟨_, e⟩
  | dT _ => obtain ⟨_, _, _, _, _, _, _, e, _⟩ := x; exact ⟨_, e⟩
  | set _ _ => obtain ⟨_, _, _, _, e, _⟩ := x; exact ⟨_, e⟩
  | ins _ _ _ => obtain ⟨_, _, _, e, _⟩ := x; exact ⟨_, e⟩
  | own _ => obtain ⟨_, e⟩ := x; exact ⟨_, e⟩
  | xd _ => obtain ⟨_, ⟨_, _, _, e, _⟩, _⟩ := x; exact ⟨_, e⟩
  | rng _ _ => obtain ⟨_, _, _, e⟩ := x; exact ⟨_, e⟩
  | frz _ _ => obtain ⟨e, _⟩ := x; exact ⟨_, e⟩
  | tbl _ => exact ⟨_, (show h.get? a = some _ from x)⟩
  | met _ _ => exact ⟨_, (show h.get? a = some _ from x)⟩
  | ext _ => obtain ⟨_, ⟨_, e⟩, _⟩ := x; exact ⟨_, e⟩
section
variable {X : Cx}
/-- sorted of a list or a tuple: a new list behind the heap that stood -/
theorem sorted_seqK {P : Program} {w : World} {A : Around} {E : Value → Shared → Prop} {s : Shared} {κ : PyProof.Rows.KeyKind} (hO : κ.OneLt) {it : Addr} {T : String} {o : Obj} {vs : List Value} {n : Nat} {Q : Value → Shared → Prop} (hT : T = "list" ∨ T = "tuple") (ho : s.heap.get? it = some o) (hc : o.cls = .type T)
    (hd : o.data = .seq vs.toArray n) (h0 : PyProof.Rows.KeysOf κ (PyProof.Rows.pairsOf vs)) (hkk : ∀ v₁ v₂ rest, vs = v₁ :: v₂ :: rest → PyProof.Rows.keyKind' (v₁ :: v₂ :: rest).toArray = pure PyProof.Rows.oneType') (hL : vs.length ≤ sizeLine)
    (h : ∀ (st' : PyProof.Rows.SortSt) (h' : Heap) (p ep : Nat), (PyProof.Rows.arrOf st').Perm (PyProof.Rows.pairsOf vs) → PyProof.Rows.SortedToK κ (PyProof.Rows.arrOf st') (PyProof.Rows.pairsOf vs).size → (∀ b ob, s.heap.get? b = some ob → h'.get? b = some ob) → s.heap.get? p = none →
      h'.get? p = some (PyProof.Rows.seqObj "list" ((PyProof.Rows.arrOf st').map (·.2)) ep) → Q (.ref p) { s with heap := h' }) :
    wpAny (model P w) A (call (.builtin "sorted") [.ref it]) Q E s := by
  refine Calls.call_function_entry PyProof.Rows.kind_sorted PyProof.Rows.plain_sorted PyProof.Rows.entry_sorted (PyProof.Rows.args_sorted1 _) ?_
  unfold Builtin.«sorted»
  refine wpAny_bind (m := checkCount "sorted" 1 1 _) (wpAny_pure ?_)
  refine wpAny_bind (wpAny_collect_seq it hT ho hc hd (fun h1 k1 => ?_) (by rw [List.size_toArray]; exact hL))
  have e1 : vs.toArray.toList = vs := by simp
  rw [e1]
  refine wpAny_bind (wpAny_newList ?_ hL)
  have hoL : (h1.push ({ cls := .type "list", data := .seq vs.toArray } : Obj)).get? h1.objs.size = some (PyProof.Rows.seqObj "list" vs.toArray 0) := Heap.get?_push_size _ rfl
  refine wpAny_bind (wpAny_holding (wpAny_call_entry PyProof.Rows.slot_list_sort ⟨_, hoL, rfl⟩ PyProof.Rows.entry_list_sort (PyProof.Rows.list_sort_treeKAny hO hoL h0 hkk hL fun st' a1 a2 => ⟨_, rfl, ?_⟩) (PyProof.Rows.args_list_sort _)))
  obtain ⟨ep, he⟩ := PyProof.Rows.sortedHeap_at (vs := vs) (out := (PyProof.Rows.arrOf st').map (·.2)) hoL
  refine wpAny_pure ⟨_, rfl, h st' _ _ ep a1 a2 (fun b ob hb => ?_) ?_ he⟩
  · have hb1 := k1 b ob hb
    have hne : b ≠ h1.objs.size := Nat.ne_of_lt (Heap.lt_size hb1)
    have hb2 : (h1.push ({ cls := .type "list", data := .seq vs.toArray } : Obj)).get? b = some ob := Heap.get?_push_of_some _ hb1
    rw [PyProof.Rows.sortedHeap_old hne (Heap.lt_size hb2)]
    exact hb2
  · cases e : s.heap.get? h1.objs.size with
    | none => rfl
    | some ob => exact absurd (Heap.lt_size (k1 _ _ e)) (Nat.lt_irrefl _)
def sortD : List D → Option D
  | [d] => match itemsD d with
    | some ds => if ds.length ≤ 100000 then (match strsD ds with
      | some zs => some (.lst ((sortS zs).map .str))
      | none => match intsD ds with
        | some ns => some (.lst ((sortI ns).map .int))
        | none => none) else none
    | none => none
  | _ => none
/-- a list or a tuple stands there -/
def SqA (K : PySem.W.Frag) (H : Hp) (a : Addr) (vs : List V) : Prop := SqL K H a vs ∨ SqT K H a vs
def rSortA (K : PySem.W.Frag) : List V → Hp → VK → Prop := fun xs H Q => ∃ a, xs = [.ref a] ∧
  ((∃ zs : List Str, SqA K H a (zs.map V.str) ∧ zs.length ≤ sizeLine ∧ ∀ l, H l = none → Q (.ref l) (upd H l (.lst ((sortS zs).map V.str)))) ∨
   (∃ ns : List Int, SqA K H a (ns.map V.int) ∧ ns.length ≤ sizeLine ∧ ∀ l, H l = none → Q (.ref l) (upd H l (.lst ((sortI ns).map V.int)))))
theorem seq_at {pins : List (Addr × Obj)} {σ : L2.St} {H : Hp} {s : Shared} {a : Addr} {vs : List V} (I : Inv X pins σ H s) (h : SqA X.K H a vs) : ∃ (us : List Value) (o : Obj) (T : String) (n : Nat), Vals vs us ∧ (T = "list" ∨ T = "tuple") ∧ s.heap.get? a = some o ∧ o.cls = .type T ∧ o.data = .seq us.toArray n := by
  rcases h with h | h
  · obtain ⟨its, rv, hl, _⟩ := I.list h
    obtain ⟨o, ho, hc, n, hd⟩ := hl.isList
    exact ⟨its, o, "list", n, rv, .inl rfl, ho, hc, hd⟩
  · obtain ⟨its, rv, ⟨o, ho, hc, n, hd⟩, _⟩ := I.tuple h
    exact ⟨its, o, "tuple", n, rv, .inr rfl, ho, hc, hd⟩
theorem cr_sortA : CallR X (.builtin "sorted") (rSortA X.K) := by
  intro pins s σ H vs us Q I r h
  obtain ⟨a, rfl, h⟩ := h
  rw [Vals.ref1 r]
  have done : ∀ (ys : List V) (out : List Value) (h' : Heap) (p ep : Nat), Vals ys out → ys.length ≤ sizeLine → (∀ b ob, s.heap.get? b = some ob → h'.get? b = some ob) → s.heap.get? p = none → h'.get? p = some (PyProof.Rows.seqObj "list" out.toArray ep) → (∀ l, H l = none → Q (.ref l) (upd H l (.lst ys))) → EP X pins σ Q (.ref p) { s with heap := h' } := by
    intro ys out h' p ep rv hlen hk hp hp2 q
    have hn : H p = none := by
      cases e : H p with
      | none => rfl
      | some u =>
        obtain ⟨ob, e2⟩ := obj_there (I.hok p u e)
        rw [e2] at hp
        cases hp
    exact ⟨.ref p, upd H p (.lst ys), I.laidN (t' := s.toks) hk hp hn ⟨hlen, out, ep, rv, hp2⟩, rfl, q p hn⟩
  rcases h with ⟨zs, hs, hz, q⟩ | ⟨ns, hs, hz, q⟩
  · obtain ⟨its, o, T, n, rv, hT, ho, hc, hd⟩ := seq_at I hs
    have hl := rv.length
    rw [List.length_map] at hl
    have hS := rv.strs
    refine sorted_seqK PyProof.Rows.strKind_oneLt hT ho hc hd hS.keysOf (fun v₁ v₂ rest e => PyProof.Rows.keyKind_strs (by rw [← e]; exact hS)) (by rw [← hl]; exact hz) fun st' h' p ep a1 a2 hk hp hp2 => ?_
    obtain ⟨ys, h1, h2, h3⟩ := PyProof.Rows.sorted_out_str hS a1 a2
    obtain rfl := sortS_uniq h2 h3
    refine done ((sortS zs).map V.str) ((PyProof.Rows.arrOf st').map (·.2)).toList h' p ep (vals_of_strs h1) ?_ hk hp (by rw [hp2]) q
    rw [List.length_map, (sortS_perm zs).length_eq]
    exact hz
  · obtain ⟨its, o, T, n, rv, hT, ho, hc, hd⟩ := seq_at I hs
    have hl := rv.length
    rw [List.length_map] at hl
    have hI := rv.ints
    refine sorted_seqK PyProof.Rows.intKind_oneLt hT ho hc hd hI.keysOfInt (fun v₁ v₂ rest e => PyProof.Rows.keyKind_ints (by rw [← e]; exact hI)) (by rw [← hl]; exact hz) fun st' h' p ep a1 a2 hk hp hp2 => ?_
    obtain ⟨ys, h1, h2, h3⟩ := PyProof.Rows.sorted_out hI a1 (PyProof.Rows.sortedTo_of_int a2)
    obtain rfl := sortI_uniq h2 h3
    refine done ((sortI ns).map V.int) ((PyProof.Rows.arrOf st').map (·.2)).toList h' p ep (vals_of_ints h1) ?_ hk hp (by rw [hp2]) q
    rw [List.length_map, (sortI_perm ns).length_eq]
    exact hz
theorem repL_strs {K : PySem.W.Frag} {mg : Str → Option Value} {F : Hp} : ∀ l : List Str, RepL K mg F (l.map .str) (l.map V.str)
  | [] => RepL.nil
  | x :: l => RepL.cons Rep.str (repL_strs l)
theorem c_sorted : CallD X (.builtin "sorted") (rSortA X.K) sortD := ⟨cr_sortA, fun F H ds d vs fh r hd Q q => by
  match ds, hd, r with
  | [y], hd, r =>
    obtain ⟨v, rfl, r1⟩ := r.one
    have hd' : (match itemsD y with
      | some ds => if ds.length ≤ 100000 then (match strsD ds with
        | some zs => some (D.lst ((sortS zs).map .str))
        | none => match intsD ds with
          | some ns => some (.lst ((sortI ns).map .int))
          | none => none) else none
      | none => none) = some d := hd
    have main : ∀ (a : Addr) (xs : List D) (ws : List V), SqA X.K H a ws → RepL X.K X.mg F xs ws → (if xs.length ≤ 100000 then (match strsD xs with
        | some zs => some (D.lst ((sortS zs).map .str))
        | none => match intsD xs with
          | some ns => some (.lst ((sortI ns).map .int))
          | none => none) else none) = some d → rSortA X.K [.ref a] H Q := by
      intro a xs ws hs rx hx
      have sl : sizeLine = 16777216 := by decide
      by_cases z : xs.length ≤ 100000
      case neg =>
        rw [if_neg z] at hx
        cases hx
      rw [if_pos z] at hx
      cases e1 : strsD xs with
      | some zs =>
        rw [e1] at hx
        cases hx
        obtain rfl := strs_rep e1 rx
        have hl := rx.len
        rw [List.length_map] at hl
        refine ⟨a, rfl, .inl ⟨zs, hs, by omega, fun l hl => ?_⟩⟩
        have g := Grow.laid (o := .lst ((sortS zs).map V.str)) fh hl
        exact q _ _ _ g (rep_lst upd_same (repL_strs _))
      | none =>
        cases e2 : intsD xs with
        | none =>
          rw [e1, e2] at hx
          cases hx
        | some ns =>
          rw [e1, e2] at hx
          cases hx
          obtain rfl := ints_rep e2 rx
          have hl := rx.len
          rw [List.length_map] at hl
          refine ⟨a, rfl, .inr ⟨ns, hs, by omega, fun l hl => ?_⟩⟩
          have g := Grow.laid (o := .lst ((sortI ns).map V.int)) fh hl
          exact q _ _ _ g (rep_lst upd_same (repL_ints _))
    cases y with
    | lst xs =>
      obtain ⟨p, ws, rfl, h1, h2⟩ := r1.lst'
      exact main p xs ws (.inl (Evl.sq_of (fh _ _ h1))) h2 hd'
    | tup xs =>
      obtain ⟨p, ws, rfl, h1, h2⟩ := r1.tup'
      exact main p xs ws (.inr (Evl.ex_t fh h1)) h2 hd'
    | _ => cases hd'⟩
end
end Mir
set_option linter.all false
set_option maxRecDepth 100000
set_option maxHeartbeats 4000001
namespace Mir
open PySem PySem.Spec L2
/-! ### a default that is the empty tuple -/
def dtupB (p : Str × Option Str) (i : Nat) (K : Fg) : Bool := match K.lookup (He.dflAt p i K) with
  | some o => decide (o.cls = .type "tuple") && (match o.data with
    | .seq its _ => its.toList.isEmpty
    | _ => false)
  | none => false
theorem dtupB_ok {p : Str × Option Str} {i : Nat} {K : Fg} {mg : Str → Option Value} (h : dtupB p i K = true) : ∀ F : Hp, Rep K mg F (.tup []) (.ref (He.dflAt p i K)) := by
  intro F
  unfold dtupB at h
  cases e : K.lookup (He.dflAt p i K) with
  | none => rw [e] at h; cases h
  | some o =>
    rw [e] at h
    obtain ⟨cls, dict, data, sl⟩ := o
    rw [Bool.and_eq_true] at h
    obtain ⟨h1, h2⟩ := h
    cases data with
    | seq its n =>
      have h3 : its.toList = [] := by
        have h4 : its.toList.isEmpty = true := h2
        exact List.isEmpty_iff.mp h4
      have hz : its.size = 0 := by
        rw [← Array.length_toList, h3]
        rfl
      unfold Rep
      exact ⟨_, [], rfl, .inr ⟨_, its, n, e, of_decide_eq_true h1, rfl, by omega, by rw [h3]; exact .nil⟩, RepL.nil⟩
    | _ => cases h2
/-! ### x.upper() -/
def upperD : D → Option D
  | .str x => if x.length ≤ 100000 then some (.str (Txt.upper x)) else none
  | _ => none
section
variable {X : Cx} {o : Expr} {to : TE} {mo : M D} {pos apos : Pos}
theorem pd_upper (ho : PEd X o to mo) (hbase : attributeBase o "upper" X.env (eval o X.env) = eval o X.env := by rfl) (hline : (apos.endLine == pos.line) = true := by rfl) :
    PEd X (.Call (.Attribute o "upper" apos) [] [] pos) (tM0 (fun x xs H Q => ∃ a, x = .str a ∧ xs = [] ∧ a.length ≤ 5592405 ∧ Q (.str (Txt.upper a)) H) to) (op1 upperD mo) := by
  refine ⟨pe_upper ho.1 hbase hline, fun B F H σ sd d sd' S hm Q q => ?_⟩
  obtain ⟨x, sd1, h1, h2⟩ := bnd_some hm
  obtain ⟨h3, rfl⟩ := lft_some h2
  refine ho.2 B F H σ sd x _ S h1 _ fun v F1 H1 S1 e1 r1 => ?_
  cases x with
  | str a =>
    have h4 : (if a.length ≤ 100000 then some (D.str (Txt.upper a)) else none) = some d := h3
    by_cases z : a.length ≤ 100000
    · rw [if_pos z] at h4
      cases h4
      exact ⟨⟨a, r1.str'⟩, a, r1.str', rfl, Nat.le_trans z (by decide), q _ F1 H1 S1 e1 Rep.str⟩
    · rw [if_neg z] at h4
      cases h4
  | _ => cases h3
end

/-! ### new things that are nobody's yet -/
def EvN (K : PySem.W.Frag) (mg : Str → Option Value) (te : TE) (m : M Cell) : Prop := ∀ (B : Bs) (F H : Hp) (σ : L2.St) (sd : SD) (c : Cell) (sd' : SD), Sta K mg B F H σ sd → m sd = some (c, sd') →
  ∀ Q : VK, (∀ F' H' p ws, Sta K mg B F' H' σ sd' → Ex F F' → H' p = none → CellOk K mg F' ws c → Q (.ref p) (upd H' p ws)) → te σ H Q
def PNd (X : Cx) (e : Expr) (te : TE) (m : M Cell) : Prop := PE X e te ∧ EvN X.K X.mg te m
def mNewL (mL : M (List D)) : M Cell := bnd mL fun ds => lft (match listD ds with
  | some (.lst xs) => some (.lst xs)
  | _ => none)
section
variable {X : Cx} {e : Expr} {te : TE} {t : TA} {mL : M (List D)} {p pos : Pos}
theorem pn_list (hg : Gl X "list") (hm : X.mg "list" = none) (hv : bootBuiltins "list" = some (.type "list")) (ha : PAd X [e] t mL) (he : starEach [e] X.env = [(false, eval e X.env)] := by rfl) : PNd X (.Call (.Name "list" p) [e] [] pos) (tCB (rListA X.K) t) (mNewL mL) := by
  refine ⟨pe_callTy (c_list (X := X)).1 hg hm hv ha.1 (by decide) (by decide) he rfl, fun B F H σ sd c sd' S hm' Q q => ?_⟩
  obtain ⟨ds, sd1, h1, h2⟩ := bnd_some hm'
  obtain ⟨h3, rfl⟩ := lft_some h2
  refine ha.2 B F H σ sd ds _ S h1 _ fun vs F1 H1 S1 e1 r1 => ?_
  match ds, h3, r1 with
  | [.lst xs], h3, r1 =>
    cases h3
    obtain ⟨v, rfl, r2⟩ := r1.one
    obtain ⟨a, ws, rfl, k1, k2⟩ := r2.lst'
    exact ⟨a, ws, rfl, .inl (Evl.sq_of (S1.fh _ _ k1)), fun l hl => q F1 H1 l (.lst ws) S1 e1 hl ⟨ws, rfl, k2⟩⟩
  | [.tup xs], h3, r1 =>
    cases h3
    obtain ⟨v, rfl, r2⟩ := r1.one
    obtain ⟨a, ws, rfl, k1, k2⟩ := r2.tup'
    exact ⟨a, ws, rfl, .inr (Evl.ex_t S1.fh k1), fun l hl => q F1 H1 l (.lst ws) S1 e1 hl ⟨ws, rfl, k2⟩⟩
  | [.scr ns], h3, r1 =>
    cases h3
    obtain ⟨v, rfl, r2⟩ := r1.one
    unfold Rep at r2
    obtain ⟨a, rfl, k1⟩ := r2
    exact ⟨a, _, rfl, .inl (Evl.ex_l S1.fh k1), fun l hl => q F1 H1 l (.lst (ns.map V.int)) S1 e1 hl ⟨_, rfl, repL_ints ns⟩⟩
end
/-- a, b = two new things, both to be changed later -/
def mParN (i j : Nat) (m1 m2 : M Cell) : M Out := bnd m1 fun c1 => bnd m2 fun c2 => if i ≠ 0 ∧ j ≠ 0 then bnd (mPut j c2) fun _ => bnd (mPut i c1) fun _ => pur .nx else fun _ => none
section
variable {X : Cx} {a b : Expr} {ta tb : TE} {m1 m2 : M Cell} {pos : Pos}
theorem ps_parN {i j : Nat} {x y : Str} {px py pt : Pos} {kt k2 pt2} (hc : X.calm = true) (hN : X.N.Nodup) (hi : X.N[i]? = some x) (hj : X.N[j]? = some y) (hij : i ≠ j) (hx : X.env.scope.names.lookup x = some .local) (hy : X.env.scope.names.lookup y = some .local) (ha : PNd X a ta m1) (hb : PNd X b tb m2)
    (hw : swappedStores [.Tuple [.Name x px, .Name y py] kt pt] (.Tuple [a, b] k2 pt2) X.env = pure (some [x, y])) (hs : swapsWithSole [.Tuple [.Name x px, .Name y py] kt pt] (.Tuple [a, b] k2 pt2) pos.line X.env = pure false := by rfl)
    (h1 : starEach [a, b] X.env = (false, eval a X.env) :: starEach [b] X.env := by rfl) (h2 : starEach [b] X.env = (false, eval b X.env) :: starEach [] X.env := by rfl) :
    PSd X (.Assign [.Tuple [.Name x px, .Name y py] kt pt] (.Tuple [a, b] k2 pt2) pos) (tPar i j (tCons ta (tCons tb tNil))) (mParN i j m1 m2) := by
  refine ⟨ps_par hc hN hi hj hij hx hy (pa_cons ha.1 (pa_cons hb.1 pa_nil h2) h1) hw hs, fun B F H σ sd o sd' S hm E w => ?_⟩
  obtain ⟨c1, sd1, k1, k2⟩ := bnd_some hm
  obtain ⟨c2, sd2, k3, k4⟩ := bnd_some k2
  by_cases z : i ≠ 0 ∧ j ≠ 0
  case neg =>
    rw [if_neg z] at k4
    cases k4
  rw [if_pos z] at k4
  obtain ⟨⟨⟩, sd3, k5, k6⟩ := bnd_some k4
  cases k5
  obtain ⟨⟨⟩, sd4, k7, k8⟩ := bnd_some k6
  cases k7
  obtain ⟨rfl, rfl⟩ := pur_some k8
  refine ha.2 B F H σ sd c1 sd1 S k1 _ fun F1 H1 p1 w1 S1 e1 hp1 rc1 => ?_
  obtain ⟨S1b, nO1, nF1⟩ := S1.beside (o := w1) hp1
  refine hb.2 _ F1 _ σ sd1 c2 sd2 S1b.down k3 _ fun F2 H2 p2 w2 S2' e2 hp2 rc2 => ?_
  have S2 := S1b.up S2'
  obtain ⟨g1, g2⟩ := S2'.kept.val p1 w1 upd_same nO1
  have g3 := S2'.kept.off p1 w1 upd_same nO1 nF1
  have hne : p1 ≠ p2 := fun z => by
    rw [z, hp2] at g1
    cases g1
  have S3 := S2.newOwn hp2 rc2 z.2
  have nO : ¬ Owns (sd2.set j (.own c2)) (σ.set j (some (.ref p2))) p1 := by
    rintro ⟨m, cc, m1, m2⟩
    by_cases zz : j = m
    · subst zz
      have hl : j < σ.length := by
        have := (List.getElem?_eq_some_iff.mp m2).1
        simpa using this
      rw [List.getElem?_set_self hl] at m2
      cases m2
      exact hne rfl
    · rw [List.getElem?_set_ne zz] at m1 m2
      exact g2 ⟨m, cc, m1, m2⟩
  have S4 := S3.adopt (i := i) (p := p1) (o := w1) (by rw [upd_ne hne]; exact g1) nO g3 (S1.h0 hp1) (rc1.mono e2) z.1
  rw [List.set_comm _ _ hij.symm] at S4
  exact ⟨.ref p1, .ref p2, rfl, w _ F2 _ S4 (e1.trans e2)⟩
end
/-! ### f(g(..)): g makes a thing, f changes it -/
def mFnF (n : Nat) (mi : Cell → List D → Option (D × Cell)) (mo : List D → Option Cell) (mL : M (List D)) : M D := bnd mL fun ds => if ds.length = n then bnd (lft (mo ds)) fun c => bnd (lft (mi c [])) fun r => pur r.1 else fun _ => none
section
variable {X : Cx} {k k2 n : Nat} {f g : Addr} {fd gd : FuncData} {ps qs : List Str} {x y : Str} {p p2 pos pos2 : Pos} {e : Expr} {es : List Expr} {t : TA} {mL : M (List D)} {mi : Cell → List D → Option (D × Cell)} {mo : List D → Option Cell}
theorem pd_fnF (F : FnG X.prog X.w X.K X.mg X.base CX0 k f fd ps (spI X.K X.mg 0 mi)) (hr : Room k X.A) (hgd : X.A.guards = some []) (hg : Gl X x) (hm : X.mg x = some (.ref f)) (hk : PySem.W.keepIn X.K (.ref f) = true) (hb : Binds X.K fd ps [])
    (G : FnG X.prog X.w X.K X.mg X.base CX0 k2 g gd qs (spO X.K X.mg n mo)) (hr2 : Room k2 X.A) (hg2 : Gl X y) (hm2 : X.mg y = some (.ref g)) (hk2 : PySem.W.keepIn X.K (.ref g) = true) (hb2 : Binds X.K gd qs [])
    (ha : PAd X (e :: es) t mL) (hdb : (x == ("__debug__" : Str)) = false := by decide) (hdb2 : (y == ("__debug__" : Str)) = false := by decide) (he : starEach (e :: es) X.env = (false, eval e X.env) :: starEach es X.env := by rfl) (hpl : (backTo pos2 (starEach es X.env)).any (·.1) = false := by rfl)
    (he2 : starEach [.Call (.Name y p2) (e :: es) [] pos2] X.env = (false, eval (.Call (.Name y p2) (e :: es) [] pos2) X.env) :: starEach [] X.env := by rfl) (hpl2 : (backTo pos (starEach [] X.env)).any (·.1) = false := by rfl) :
    PEd X (.Call (.Name x p) [.Call (.Name y p2) (e :: es) [] pos2] [] pos) (tCall (spI X.K X.mg 0 mi) [] E0 (tCons (tCall (spO X.K X.mg n mo) [] E0 t) tNil)) (mFnF n mi mo mL) := by
  refine ⟨pg_call F hr hgd hg hm hk hb .nil pass0 (pa_cons (pg_call G hr2 hgd hg2 hm2 hk2 hb2 .nil pass0 ha.1 hdb2 he hpl) pa_nil he2) hdb he2 hpl2, fun B F0 H σ sd d sd' S hm' Q q => ?_⟩
  obtain ⟨ds, sd1, h1, h2⟩ := bnd_some hm'
  by_cases hl : ds.length = n
  case neg =>
    rw [if_neg hl] at h2
    cases h2
  rw [if_pos hl] at h2
  obtain ⟨c, sd2, h3, h4⟩ := bnd_some h2
  obtain ⟨h5, rfl⟩ := lft_some h3
  obtain ⟨⟨d1, c'⟩, sd3, h6, h7⟩ := bnd_some h4
  obtain ⟨h8, rfl⟩ := lft_some h6
  obtain ⟨rfl, rfl⟩ := pur_some h7
  refine ha.2 B F0 H σ sd ds _ S h1 _ fun vs F1 H1 S1 e1 r1 => ?_
  refine ⟨F1, ds, c, S1.fh, by rw [List.append_nil]; exact r1, hl, h5, fun a F2 H2 o gr nF hq ho rc => ?_⟩
  let Hx : Hp := fun b => if b = a then none else H2 b
  have hx : ∀ {b : Addr}, b ≠ a → Hx b = H2 b := fun {b} z => if_neg z
  have hxa : Hx a = none := if_pos rfl
  have g1 : Grow F1 H1 F2 Hx := by
    refine ⟨gr.ff, fun b u e => ?_, fun b u e => ?_, fun b h => ?_⟩
    · rw [hx (fun z => by rw [z, nF] at e; cases e)]
      exact gr.fh b u e
    · rw [hx (fun z => by rw [z, hq] at e; cases e)]
      exact gr.hh b u e
    · exact gr.new b h
  have S2 := S1.grow gr
  refine ⟨F2, a, o, [], c, [], _, c', rfl, S2.fh, nF, ho, rc, RepL.nil, rfl, h8, fun v F3 H3 ws' ff fh oth new n' h' r' rv => ?_⟩
  have g2 : Grow F2 Hx F3 H3 := by
    refine ⟨ff, fh, fun b u e => ?_, fun b h => ?_⟩
    · have z : b ≠ a := fun z => by
        rw [z, hxa] at e
        cases e
      rw [hx z] at e
      exact oth b u z e
    · rcases new b h with h1 | h1
      · exact .inl h1
      · refine .inr ?_
        by_cases z : b = a
        · rw [z]; exact hxa
        · rw [hx z]; exact h1
  exact q v F3 H3 ((S1.grow g1).grow g2) ((e1.trans g1.ff).trans g2.ff) rv
end

/-! ### {x!r} -/
def fmtRD : D → Option D
  | .str x => reprX [.str x]
  | .int i => reprX [.int i]
  | _ => none
section
variable {X : Cx} {e : Expr} {te : TE} {me : M D} {pos : Pos}
theorem pd_fmtR (he : PEd X e te me) : PEd X (.FormattedValue e 114 none pos) (tFmtR te) (op1 fmtRD me) := by
  refine ⟨pe_fmtR he.1, fun B F H σ sd y sd' S h Q q => ?_⟩
  obtain ⟨x, sd1, k1, k2⟩ := bnd_some h
  obtain ⟨k3, rfl⟩ := lft_some k2
  refine he.2 B F H σ sd x _ S k1 _ fun v F1 H1 S1 e1 r1 => ?_
  cases x with
  | str w =>
    obtain ⟨p, h1, h2, h3, h4, h5⟩ := reprX_some (d := .str w) k3
    have e1' : some (PyData.str w) = some p := by simpa [pyE] using h1
    cases e1'
    cases h5
    exact .inl ⟨w, r1.str', Nat.le_trans h4 (by decide), q _ F1 H1 S1 e1 Rep.str⟩
  | int i =>
    obtain ⟨p, h1, h2, h3, h4, h5⟩ := reprX_some (d := .int i) k3
    have e1' : some (PyData.int i) = some p := by simpa [pyE] using h1
    cases e1'
    cases h5
    exact .inr ⟨i, r1.int', by simpa [PyData.showable] using h2, q _ F1 H1 S1 e1 Rep.str⟩
  | _ => cases k3
end
end Mir
set_option linter.all false
set_option maxRecDepth 100000
set_option maxHeartbeats 4000001
namespace Mir
open PySem PySem.Spec L2
/-! ### several things at once, some of them new -/
inductive It1 where
  | v (d : D) | n (c : Cell)
def PendOk (K : PySem.W.Frag) (mg : Str → Option Value) (B : Bs) (F H : Hp) (σ : L2.St) (sd : SD) : It1 → V → Prop
  | .v d, v => Rep K mg F d v
  | .n c, v => ∃ p ws, v = .ref p ∧ H p = some ws ∧ CellOk K mg F ws c ∧ ¬ Owns sd σ p ∧ F p = none ∧ B.H0 p = none
/-- each as it is told, no two new ones the same -/
inductive Pends (K : PySem.W.Frag) (mg : Str → Option Value) (B : Bs) (F H : Hp) (σ : L2.St) (sd : SD) : List It1 → List V → List Addr → Prop
  | nil : Pends K mg B F H σ sd [] [] []
  | v {d : D} {v : V} {is : List It1} {vs : List V} {ps : List Addr} (r : Rep K mg F d v) (h : Pends K mg B F H σ sd is vs ps) : Pends K mg B F H σ sd (.v d :: is) (v :: vs) ps
  | n {c : Cell} {p : Addr} {ws : HO} {is : List It1} {vs : List V} {ps : List Addr} (hp : H p = some ws) (rc : CellOk K mg F ws c) (nO : ¬ Owns sd σ p) (nF : F p = none) (h0 : B.H0 p = none) (hn : p ∉ ps) (h : Pends K mg B F H σ sd is vs ps) : Pends K mg B F H σ sd (.n c :: is) (.ref p :: vs) (p :: ps)
section
variable {K : PySem.W.Frag} {mg : Str → Option Value} {B B2 : Bs} {F F' H H' : Hp} {σ σ' : L2.St} {sd sd' : SD}
theorem Pends.len {is : List It1} {vs : List V} {ps : List Addr} (h : Pends K mg B F H σ sd is vs ps) : is.length = vs.length := by
  induction h with
  | nil => rfl
  | v _ _ ih => rw [List.length_cons, List.length_cons, ih]
  | n _ _ _ _ _ _ _ ih => rw [List.length_cons, List.length_cons, ih]
theorem Pends.mono {is : List It1} {vs : List V} {ps : List Addr} (h : Pends K mg B F H σ sd is vs ps) (ff : Ex F F') (k : ∀ p ws, p ∈ ps → H p = some ws → ¬ Owns sd σ p → F p = none → B.H0 p = none → H' p = some ws ∧ ¬ Owns sd' σ' p ∧ F' p = none ∧ B2.H0 p = none) : Pends K mg B2 F' H' σ' sd' is vs ps := by
  induction h with
  | nil => exact .nil
  | v r _ ih => exact .v (r.mono ff) (ih k)
  | n hp rc nO nF h0 hn _ ih =>
    obtain ⟨k1, k2, k3, k4⟩ := k _ _ List.mem_cons_self hp nO nF h0
    exact .n k1 (rc.mono ff) k2 k3 k4 hn (ih fun p ws hm => k p ws (List.mem_cons_of_mem _ hm))
def EvI (K : PySem.W.Frag) (mg : Str → Option Value) (t : TA) (m : M (List It1)) : Prop := ∀ (B : Bs) (F H : Hp) (σ : L2.St) (sd : SD) (is : List It1) (sd' : SD), Sta K mg B F H σ sd → m sd = some (is, sd') →
  ∀ Q : List V → Hp → Prop, (∀ vs ps F' H', Sta K mg B F' H' σ sd' → Ex F F' → Pends K mg B F' H' σ sd' is vs ps → (∀ p ∈ ps, H p = none) → Q vs H') → t σ H Q
def mINil : M (List It1) := pur []
def mIV (m : M D) (n : M (List It1)) : M (List It1) := bnd m fun d => bnd n fun is => pur (.v d :: is)
def mIN (m : M Cell) (n : M (List It1)) : M (List It1) := bnd m fun c => bnd n fun is => pur (.n c :: is)
theorem evi_nil : EvI K mg tNil mINil := fun B F H σ sd is sd' S hm Q q => by
  obtain ⟨rfl, rfl⟩ := pur_some hm
  exact q [] [] F H S (Evl.Ex.refl _) .nil (fun p hp => nomatch hp)
theorem evi_v {te : TE} {t : TA} {m : M D} {n : M (List It1)} (h : EvD K mg te m) (r : EvI K mg t n) : EvI K mg (tCons te t) (mIV m n) := fun B F H σ sd is sd' S hm Q q => by
  obtain ⟨d, sd1, h1, h2⟩ := bnd_some hm
  obtain ⟨is2, sd2, h3, h4⟩ := bnd_some h2
  obtain ⟨rfl, rfl⟩ := pur_some h4
  refine h _ F H σ sd d sd1 S.down h1 _ fun v F1 H1 S1' e1 r1 => ?_
  have S1 := S.up S1'
  refine r _ F1 H1 σ sd1 is2 _ S1.down h3 _ fun vs ps F2 H2 S2' e2 pn new => ?_
  refine q (v :: vs) ps F2 H2 (S1.up S2') (e1.trans e2) (.v (r1.mono e2) (pn.mono (Evl.Ex.refl _) fun p ws _ k1 k2 k3 k4 => ⟨k1, k2, k3, S1.h0 k4⟩)) fun p hp => ?_
  cases e : H p with
  | none => rfl
  | some u =>
    by_cases hO : Owns sd σ p
    · have hm : p ∈ owned sd σ := mem_owned.mpr hO
      exact absurd (new p hp) (S1'.io p hm)
    · have hk := S1'.keep p u e (fun hm => hO (mem_owned.mp hm))
      rw [new p hp] at hk
      cases hk
theorem evi_n {te : TE} {t : TA} {m : M Cell} {n : M (List It1)} (h : EvN K mg te m) (r : EvI K mg t n) : EvI K mg (tCons te t) (mIN m n) := fun B F H σ sd is sd' S hm Q q => by
  obtain ⟨c, sd1, h1, h2⟩ := bnd_some hm
  obtain ⟨is2, sd2, h3, h4⟩ := bnd_some h2
  obtain ⟨rfl, rfl⟩ := pur_some h4
  refine h _ F H σ sd c sd1 S.down h1 _ fun F1 H1 p1 w1 S1' e1 hp1 rc1 => ?_
  have S1 := S.up S1'
  obtain ⟨S1b, nO1, nF1⟩ := S1.beside (o := w1) hp1
  have back : ∀ {p : Addr}, H1 p = none → H p = none := fun {p} hp => by
    cases e : H p with
    | none => rfl
    | some u =>
      by_cases hO : Owns sd σ p
      · have hm : p ∈ owned sd σ := mem_owned.mpr hO
        exact absurd hp (S1'.io p hm)
      · have hk := S1'.keep p u e (fun hm => hO (mem_owned.mp hm))
        rw [hp] at hk
        cases hk
  refine r _ F1 _ σ sd1 is2 _ S1b.down h3 _ fun vs ps F2 H2 S2' e2 pn new => ?_
  obtain ⟨g1, g2⟩ := S2'.kept.val p1 w1 upd_same nO1
  have g3 := S2'.kept.off p1 w1 upd_same nO1 nF1
  have hn : p1 ∉ ps := fun z => by
    have := new p1 z
    rw [upd_same] at this
    cases this
  have off : ∀ p ∈ ps, H1 p = none := fun p hp => by
    have h5 := new p hp
    rw [upd_ne (fun z => hn (by rw [← z]; exact hp))] at h5
    exact h5
  refine q (.ref p1 :: vs) (p1 :: ps) F2 H2 (S1b.up S2') (e1.trans e2) (.n g1 (rc1.mono e2) g2 g3 (S1.h0 hp1) hn (pn.mono (Evl.Ex.refl _) fun p ws hm k1 k2 k3 k4 => ⟨k1, k2, k3, S1.h0 (off p hm)⟩)) fun p hp => ?_
  rcases List.mem_cons.mp hp with rfl | hp
  · exact back hp1
  · exact back (off p hp)
/-- .. given to slots -/
def mSetI : List Nat → List It1 → M Unit
  | [], [] => pur ()
  | i :: is, .v d :: r => bnd (mSet i d) fun _ => mSetI is r
  | i :: is, .n c :: r => if i ≠ 0 then bnd (mPut i c) fun _ => mSetI is r else fun _ => none
  | _, _ => fun _ => none
def setV (σ : L2.St) : List Nat → List V → L2.St
  | i :: is, v :: vs => setV (σ.set i (some v)) is vs
  | _, _ => σ
theorem sta_setI : ∀ {ix : List Nat} {is : List It1} {vs : List V} {ps : List Addr} {σ : L2.St} {sd sd' : SD}, Sta K mg B F H σ sd → Pends K mg B F H σ sd is vs ps → mSetI ix is sd = some ((), sd') → Sta K mg B F H (setV σ ix vs) sd'
  | [], [], vs, ps, σ, sd, sd', S, pn, hm => by
    cases pn
    obtain ⟨_, rfl⟩ := pur_some hm
    exact S
  | i :: ix, .v d :: is, vs, ps, σ, sd, sd', S, pn, hm => by
    cases pn with
    | v r h =>
      obtain ⟨⟨⟩, sd1, h1, h2⟩ := bnd_some (show (bnd (mSet i d) fun _ => mSetI ix is) sd = _ from hm)
      obtain ⟨f0, rfl⟩ := mSet_some h1
      show Sta K mg B F H (setV (σ.set i (some _)) ix _) sd'
      refine sta_setI (S.set i r f0) (h.mono (Evl.Ex.refl _) fun p ws _ k1 k2 k3 k4 => ⟨k1, ?_, k3, k4⟩) h2
      rintro ⟨j, c, m1, m2⟩
      by_cases z : i = j
      · subst z
        have hl := (List.getElem?_eq_some_iff.mp m1).1
        rw [List.getElem?_set_self (by simpa using hl)] at m1
        cases m1
      · rw [List.getElem?_set_ne z] at m1 m2
        exact k2 ⟨j, c, m1, m2⟩
  | i :: ix, .n c :: is, vs, ps, σ, sd, sd', S, pn, hm => by
    cases pn with
    | @n _ p ws _ vs2 ps2 hp rc nO nF h0 hn h =>
      have hm' : (if i ≠ 0 then bnd (mPut i c) fun _ => mSetI ix is else fun _ => none) sd = some ((), sd') := hm
      by_cases z : i ≠ 0
      case neg =>
        rw [if_neg z] at hm'
        cases hm'
      rw [if_pos z] at hm'
      obtain ⟨⟨⟩, sd1, h1, h2⟩ := bnd_some hm'
      cases h1
      show Sta K mg B F H (setV (σ.set i (some (V.ref p))) ix _) sd'
      refine sta_setI (S.adopt hp nO nF h0 rc z) (h.mono (Evl.Ex.refl _) fun q ws2 hq k1 k2 k3 k4 => ⟨k1, ?_, k3, k4⟩) h2
      rintro ⟨j, c2, m1, m2⟩
      by_cases zz : i = j
      · subst zz
        have hl := (List.getElem?_eq_some_iff.mp m2).1
        rw [List.getElem?_set_self (by simpa using hl)] at m2
        cases m2
        exact hn hq
      · rw [List.getElem?_set_ne zz] at m1 m2
        exact k2 ⟨j, c2, m1, m2⟩
  | [], .v _ :: _, _, _, _, _, _, _, _, hm => by cases hm
  | [], .n _ :: _, _, _, _, _, _, _, _, hm => by cases hm
  | _ :: _, [], _, _, _, _, _, _, _, hm => by cases hm
theorem mSetI_len : ∀ {ix : List Nat} {is : List It1} {sd : SD} {r : Unit × SD}, mSetI ix is sd = some r → ix.length = is.length
  | [], [], _, _, _ => rfl
  | i :: ix, .v d :: is, sd, r, h => by
    obtain ⟨_, _, _, k⟩ := bnd_some (show (bnd (mSet i d) fun _ => mSetI ix is) sd = _ from h)
    rw [List.length_cons, List.length_cons, mSetI_len k]
  | i :: ix, .n c :: is, sd, r, h => by
    have h' : (if i ≠ 0 then bnd (mPut i c) fun _ => mSetI ix is else fun _ => none) sd = some r := h
    by_cases z : i ≠ 0
    · rw [if_pos z] at h'
      obtain ⟨_, _, _, k⟩ := bnd_some h'
      rw [List.length_cons, List.length_cons, mSetI_len k]
    · rw [if_neg z] at h'
      cases h'
  | [], .v _ :: _, _, _, h => by cases h
  | [], .n _ :: _, _, _, h => by cases h
  | _ :: _, [], _, _, h => by cases h
end
def mParI (ix : List Nat) (m : M (List It1)) : M Out := bnd m fun is => bnd (mSetI ix is) fun _ => pur .nx
def PIs (X : Cx) (es : List Expr) (t : TA) (m : M (List It1)) : Prop := PA X es t ∧ EvI X.K X.mg t m
def mNewD (mL : M (List D)) : M Cell := bnd mL fun ds => lft (lim ds.length (.lst ds))
section
variable {X : Cx} {e : Expr} {es : List Expr} {te : TE} {t : TA} {m : M D} {mc : M Cell} {n : M (List It1)} {mL : M (List D)} {pos : Pos}
theorem pis_nil : PIs X [] tNil mINil := ⟨pa_nil, evi_nil⟩
theorem pis_v (h : PEd X e te m) (r : PIs X es t n) (hs : starEach (e :: es) X.env = (false, eval e X.env) :: starEach es X.env := by rfl) : PIs X (e :: es) (tCons te t) (mIV m n) := ⟨pa_cons h.1 r.1 hs, evi_v h.2 r.2⟩
theorem pis_n (h : PNd X e te mc) (r : PIs X es t n) (hs : starEach (e :: es) X.env = (false, eval e X.env) :: starEach es X.env := by rfl) : PIs X (e :: es) (tCons te t) (mIN mc n) := ⟨pa_cons h.1 r.1 hs, evi_n h.2 r.2⟩
theorem pn_lst (h : PAd X es t mL) : PNd X (.List es pos) (tLst t) (mNewD mL) := by
  refine ⟨pe_lst h.1, fun B F H σ sd c sd' S hm Q q => ?_⟩
  obtain ⟨ds, sd1, h1, h2⟩ := bnd_some hm
  obtain ⟨h3, rfl⟩ := lft_some h2
  obtain ⟨rfl, hl⟩ := lim_some h3
  refine h.2 B F H σ sd ds _ S h1 _ fun vs F1 H1 S1 e1 r1 => ⟨Evl.sz_of (by rw [← r1.len]; exact hl), fun p hp => ?_⟩
  exact q F1 H1 p (.lst vs) S1 e1 hp ⟨vs, rfl, r1⟩
/-- two names -/
theorem ps_par2I {i j : Nat} {x y : Str} {a b : Expr} {px py pt : Pos} {kt k2 pt2} (hc : X.calm = true) (hN : X.N.Nodup) (hi : X.N[i]? = some x) (hj : X.N[j]? = some y) (hij : i ≠ j) (hx : X.env.scope.names.lookup x = some .local) (hy : X.env.scope.names.lookup y = some .local) (ha : PIs X [a, b] t n)
    (hw : swappedStores [.Tuple [.Name x px, .Name y py] kt pt] (.Tuple [a, b] k2 pt2) X.env = pure (some [x, y])) (hs : swapsWithSole [.Tuple [.Name x px, .Name y py] kt pt] (.Tuple [a, b] k2 pt2) pos.line X.env = pure false := by rfl) :
    PSd X (.Assign [.Tuple [.Name x px, .Name y py] kt pt] (.Tuple [a, b] k2 pt2) pos) (tPar i j t) (mParI [i, j] n) := by
  refine ⟨ps_par hc hN hi hj hij hx hy ha.1 hw hs, fun B F H σ sd o sd' S hm E w => ?_⟩
  obtain ⟨is, sd1, h1, h2⟩ := bnd_some hm
  obtain ⟨⟨⟩, sd2, h3, h4⟩ := bnd_some h2
  obtain ⟨rfl, rfl⟩ := pur_some h4
  refine ha.2 B F H σ sd is sd1 S h1 _ fun vs ps F1 H1 S1 e1 pn _ => ?_
  have S2 := sta_setI S1 pn h3
  have hl : vs.length = 2 := by rw [← pn.len, ← mSetI_len h3]; rfl
  match vs, hl with
  | [u, v], _ => exact ⟨u, v, rfl, w _ F1 H1 S2 e1⟩
/-- three names -/
theorem ps_par3I {i j l : Nat} {x y z : Str} {a b c : Expr} {px py pz pt : Pos} {kt k2 pt2} (hc : X.calm = true) (hN : X.N.Nodup) (hi : X.N[i]? = some x) (hj : X.N[j]? = some y) (hl : X.N[l]? = some z) (hij : i ≠ j) (hil : i ≠ l) (hjl : j ≠ l)
    (hx : X.env.scope.names.lookup x = some .local) (hy : X.env.scope.names.lookup y = some .local) (hz : X.env.scope.names.lookup z = some .local) (ha : PIs X [a, b, c] t n)
    (hw : swappedStores [.Tuple [.Name x px, .Name y py, .Name z pz] kt pt] (.Tuple [a, b, c] k2 pt2) X.env = pure (some [x, y, z])) (hs : swapsWithSole [.Tuple [.Name x px, .Name y py, .Name z pz] kt pt] (.Tuple [a, b, c] k2 pt2) pos.line X.env = pure false := by rfl) :
    PSd X (.Assign [.Tuple [.Name x px, .Name y py, .Name z pz] kt pt] (.Tuple [a, b, c] k2 pt2) pos) (tPar3 i j l t) (mParI [i, j, l] n) := by
  refine ⟨ps_par3 hc hN hi hj hl hij hil hjl hx hy hz ha.1 hw hs, fun B F H σ sd o sd' S hm E w => ?_⟩
  obtain ⟨is, sd1, h1, h2⟩ := bnd_some hm
  obtain ⟨⟨⟩, sd2, h3, h4⟩ := bnd_some h2
  obtain ⟨rfl, rfl⟩ := pur_some h4
  refine ha.2 B F H σ sd is sd1 S h1 _ fun vs ps F1 H1 S1 e1 pn _ => ?_
  have S2 := sta_setI S1 pn h3
  have hl : vs.length = 3 := by rw [← pn.len, ← mSetI_len h3]; rfl
  match vs, hl with
  | [u, v, q], _ => exact ⟨u, v, q, rfl, w _ F1 H1 S2 e1⟩
/-- names, through a tuple -/
inductive NamesAt (X : Cx) : List Nat → List Expr → TGs → Prop
  | nil : NamesAt X [] [] gNil
  | cons {i : Nat} {x : Str} {px : Pos} {ix : List Nat} {es : List Expr} {g : TGs} (h : PG X (.Name x px) (gName i)) (r : NamesAt X ix es g) (hp : PGs X (.Name x px :: es) (gCons (gName i) g)) : NamesAt X (i :: ix) (.Name x px :: es) (gCons (gName i) g)
theorem NamesAt.pgs {ix : List Nat} {es : List Expr} {g : TGs} (h : NamesAt X ix es g) : PGs X es g := by
  cases h with
  | nil => exact pgs_nil
  | cons _ _ hp => exact hp
theorem NamesAt.run {ix : List Nat} {es : List Expr} {g : TGs} (h : NamesAt X ix es g) : ∀ {vs : List V} {σ : L2.St} {H : Hp} {Q : L2.St → Hp → Prop}, vs.length = ix.length → Q (setV σ ix vs) H → g vs σ H Q := by
  induction h with
  | nil =>
    intro vs σ H Q hl q
    have : vs = [] := List.length_eq_zero_iff.mp hl
    subst this
    exact ⟨rfl, q⟩
  | cons _ _ _ ih =>
    intro vs σ H Q hl q
    cases vs with
    | nil => simp at hl
    | cons v vs => exact ⟨v, vs, rfl, ih (by simpa using hl) q⟩
theorem ps_parTI {ix : List Nat} {es2 : List Expr} {g : TGs} {pt : Pos} {kt k2 pt2} (hc : X.calm = true) (hg : NamesAt X ix es2 g) (ha : PIs X es t n) (hsz : ix.length ≤ sizeLine) (hw : swappedStores [.Tuple es2 kt pt] (.Tuple es k2 pt2) X.env = pure none) (hs : swapsWithSole [.Tuple es2 kt pt] (.Tuple es k2 pt2) pos.line X.env = pure false := by rfl)
    (h1 : (assignEach [.Tuple es2 kt pt] X.env).map (·.2) = [assign (.Tuple es2 kt pt) X.env] := by rfl) (hn : (assignEach es2 X.env).length = ix.length := by rfl) (hst : (assignEach es2 X.env).findIdx? (·.1) = none := by rfl) :
    PSd X (.Assign [.Tuple es2 kt pt] (.Tuple es k2 pt2) pos) (tAsg (tTup t) (gTup X.K ix.length g)) (mParI ix n) := by
  refine ⟨ps_asg (pe_tup ha.1) (pg_tup hc hg.pgs hn hst) hs hw h1, fun B F H σ sd o sd' S hm E w => ?_⟩
  obtain ⟨is, sd1, h1, h2⟩ := bnd_some hm
  obtain ⟨⟨⟩, sd2, h3, h4⟩ := bnd_some h2
  obtain ⟨rfl, rfl⟩ := pur_some h4
  refine ha.2 B F H σ sd is sd1 S h1 _ fun vs ps F1 H1 S1 e1 pn _ => ?_
  have hl : vs.length = ix.length := by rw [← pn.len, ← mSetI_len h3]
  refine ⟨?_, fun p hp => ?_⟩
  · rw [hl]
    exact hsz
  · obtain ⟨S1b, nO, nF⟩ := S1.beside (o := .tup vs) hp
    have pn2 : Pends X.K X.mg B F1 (upd H1 p (.tup vs)) σ sd1 is vs ps := pn.mono (Evl.Ex.refl _) fun q ws _ k1 k2 k3 k4 => ⟨by rw [upd_ne (fun z => by rw [z, hp] at k1; cases k1)]; exact k1, k2, k3, k4⟩
    exact ⟨p, vs, rfl, SqT.of upd_same, hl, hg.run hl (w _ F1 _ (sta_setI S1b pn2 h3) e1)⟩
theorem na_cons {i : Nat} {x : Str} {px : Pos} {ix : List Nat} {es2 : List Expr} {g : TGs} (h : PG X (.Name x px) (gName i)) (r : NamesAt X ix es2 g) (hs : (assignEach (.Name x px :: es2) X.env).map (·.2) = assign (.Name x px) X.env :: (assignEach es2 X.env).map (·.2) := by rfl) : NamesAt X (i :: ix) (.Name x px :: es2) (gCons (gName i) g) := .cons h r (pgs_cons h r.pgs hs)
end
end Mir
set_option linter.all false
set_option maxRecDepth 100000
set_option maxHeartbeats 4000001
namespace Mir
open PySem PySem.Spec L2
/-! ### texts compared -/
def leSD : D → D → Option D
  | .str i, .str j => some (.bl (leS i j))
  | _, _ => none
def ltSD : D → D → Option D
  | .str i, .str j => some (.bl (!leS j i))
  | _, _ => none
def geSD : D → D → Option D
  | .str i, .str j => some (.bl (leS j i))
  | _, _ => none
def rTxt (g : Str → Str → Bool) : V → V → Hp → VK → Prop := fun x y H Q => ∃ i j, x = .str i ∧ y = .str j ∧ Q (.bl (g i j)) H
section
variable {X : Cx}
theorem leS_dec (i j : Str) : (!decide (j.cps.toList < i.cps.toList)) = leS i j := by
  unfold leS
  rw [PyProof.Rows.ltCps_eq]
theorem op_txt {f : Value → Value → Sem Value} {g : Str → Str → Bool} {G : D → D → Option D} (h : OpR X f (rTxt g)) (hg : ∀ d1 d2 d, G d1 d2 = some d → ∃ i j, d1 = .str i ∧ d2 = .str j ∧ d = .bl (g i j)) : OpD X f (rTxt g) G :=
  ⟨h, fun F H d1 d2 d v1 v2 fh r1 r2 hd Q q => by
    obtain ⟨i, j, rfl, rfl, rfl⟩ := hg d1 d2 d hd
    exact ⟨i, j, r1.str', r2.str', q _ F H (Grow.refl fh) Rep.bl⟩⟩
theorem o_leS : OpD X (compareOp .LtE) (rTxt leS) leSD := op_txt (fun pins s σ H x y v u Q I rx ry ⟨i, j, e1, e2, q⟩ => op_le_str pins s σ H x y v u Q I rx ry ⟨i, j, e1, e2, by rw [leS_dec]; exact q⟩) fun d1 d2 d h => by
  cases d1 <;> cases d2 <;> first | (cases h; done) | (cases h; exact ⟨_, _, rfl, rfl, rfl⟩)
theorem o_geS : OpD X (compareOp .GtE) (rTxt fun i j => leS j i) geSD := op_txt (fun pins s σ H x y v u Q I rx ry ⟨i, j, e1, e2, q⟩ => op_ge_str pins s σ H x y v u Q I rx ry ⟨i, j, e1, e2, by rw [leS_dec]; exact q⟩) fun d1 d2 d h => by
  cases d1 <;> cases d2 <;> first | (cases h; done) | (cases h; exact ⟨_, _, rfl, rfl, rfl⟩)
theorem o_ltS : OpD X (compareOp .Lt) (rTxt fun i j => !leS j i) ltSD := op_txt (fun pins s σ H x y v u Q I rx ry ⟨i, j, e1, e2, q⟩ => op_lt_str pins s σ H x y v u Q I rx ry ⟨i, j, e1, e2, by have q2 : Q (V.bl (!leS j i)) H := q; rw [← leS_dec] at q2; simpa using q2⟩) fun d1 d2 d h => by
  cases d1 <;> cases d2 <;> first | (cases h; done) | (cases h; exact ⟨_, _, rfl, rfl, rfl⟩)
/-! ### x is True, x is not False -/
def isBD : D → D → Option D
  | .bl a, .bl b => some (.bl (decide (a = b)))
  | _, _ => none
def notBD : D → D → Option D
  | .bl a, .bl b => some (.bl (!decide (a = b)))
  | _, _ => none
theorem o_isB : OpD X (compareOp .Is) rIsB isBD := ⟨op_isBl, fun F H d1 d2 d v1 v2 fh r1 r2 hd Q q => by
  cases d1 <;> cases d2 <;> first | (cases hd; done) | skip
  cases hd
  exact ⟨_, _, r1.bl', r2.bl', q _ F H (Grow.refl fh) Rep.bl⟩⟩
theorem o_notB : OpD X (compareOp .IsNot) rNotB notBD := ⟨op_notBl, fun F H d1 d2 d v1 v2 fh r1 r2 hd Q q => by
  cases d1 <;> cases d2 <;> first | (cases hd; done) | skip
  cases hd
  exact ⟨_, _, r1.bl', r2.bl', q _ F H (Grow.refl fh) Rep.bl⟩⟩
end
end Mir
set_option linter.all false
set_option maxRecDepth 100000
set_option maxHeartbeats 4000001
namespace Mir
open PySem PySem.Spec L2
/-! ### own lists are passed, what comes holds no list: they stay one's own -/
mutual
def noL : D → Bool
  | .non => true
  | .bl _ => true
  | .int _ => true
  | .str _ => true
  | .tup xs => noLs xs
  | .ins _ _ xs => noLs xs
  | _ => false
def noLs : List D → Bool
  | [] => true
  | x :: xs => noL x && noLs xs
end
def looked : Slot → Slot
  | .own (.lst xs) => .val (.lst xs)
  | .own _ => .no
  | s => s
def mPeekN (m : M D) : M D := fun sd => match m (sd.map looked) with
  | some (d, _) => if noL d = true then some (d, sd) else none
  | none => none
section
variable {K : PySem.W.Frag} {mg : Str → Option Value} {B : Bs} {F F' H H' : Hp} {σ : St'} {sd : SD}
/-- one's own lists -/
def OwnL (sd : SD) (σ : St') (a : Addr) : Prop := ∃ (i : Nat) (xs : List D), sd[i]? = some (.own (.lst xs)) ∧ σ[i]? = some (some (V.ref a))
open Classical in
/-- .. stay as they are for a while -/
noncomputable def held (F H : Hp) (sd : SD) (σ : St') : Hp := fun a => if OwnL sd σ a then H a else F a
open Classical in
noncomputable def freed (F : Hp) (sd : SD) (σ : St') : Hp := fun a => if OwnL sd σ a then none else F a
theorem OwnL.at (S : Sta K mg B F H σ sd) {a : Addr} (h : OwnL sd σ a) : F a = none ∧ ∃ vs, H a = some (.lst vs) := by
  obtain ⟨i, xs, h1, h2⟩ := h
  obtain ⟨o, k1, p, u, rfl, k2, ⟨vs, rfl, _⟩, k4, _⟩ := S.slot i _ h1
  rw [h2] at k1
  cases k1
  exact ⟨k4, vs, k2⟩
theorem held_ex (S : Sta K mg B F H σ sd) : Ex F (held F H sd σ) := fun a o e => by
  unfold held
  by_cases z : OwnL sd σ a
  · rw [(OwnL.at S z).1] at e
    cases e
  · rw [if_neg z]
    exact e
theorem Sta.look (S : Sta K mg B F H σ sd) : Sta K mg ⟨held F H sd σ, H, [], none⟩ (held F H sd σ) H σ (sd.map looked) := by
  have e1 := held_ex S
  have hz : ∀ (j : Nat) (s : Slot), (sd.map looked)[j]? = some s → (∃ xs, sd[j]? = some (.own (.lst xs)) ∧ s = .val (.lst xs)) ∨ s = .no ∨ ∃ d, sd[j]? = some (.val d) ∧ s = .val d := fun j s hs => by
    rw [List.getElem?_map] at hs
    cases e : sd[j]? with
    | none => rw [e] at hs; cases hs
    | some s' =>
      rw [e] at hs
      cases s' with
      | no => cases hs; exact .inr (.inl rfl)
      | own c =>
        cases c with
        | lst xs => cases hs; exact .inl ⟨xs, rfl, rfl⟩
        | ins _ _ _ => cases hs; exact .inr (.inl rfl)
      | val d => cases hs; exact .inr (.inr ⟨d, rfl, rfl⟩)
  refine ⟨fun a w e => ?_, Evl.Ex.refl _, fun a o h _ => h, fun a h => .inl h, fun p hp => (nomatch hp), ?_, fun j s hs => ?_, fun j k xs ys q g1 _ _ _ => ?_, fun p hp => (nomatch hp)⟩
  · unfold held at e
    by_cases z : OwnL sd σ a
    · rw [if_pos z] at e
      exact e
    · rw [if_neg z] at e
      exact S.fh a w e
  · simp [S.len]
  · rcases hz j s hs with ⟨xs, h6, rfl⟩ | rfl | ⟨d, h6, rfl⟩
    · obtain ⟨o, h1, p, u, rfl, h2, h3, h4, h5⟩ := S.slot j _ h6
      have ow : OwnL sd σ p := ⟨j, xs, h6, h1⟩
      refine ⟨_, h1, .ref p, rfl, ?_⟩
      refine CellOk.rep (c := .lst xs) (h3.mono e1) ?_
      unfold held
      rw [if_pos ow]
      exact h2
    · have hl : j < σ.length := by
        have := (List.getElem?_eq_some_iff.mp hs).1
        rw [← S.len]
        simpa using this
      exact ⟨_, List.getElem?_eq_getElem hl, True.intro⟩
    · obtain ⟨v, k1, k2⟩ := S.val h6
      exact ⟨some v, k1, v, rfl, k2.mono e1⟩
  · rcases hz j _ g1 with ⟨_, _, h6⟩ | h6 | ⟨_, _, h6⟩
    · cases h6
    · cases h6
    · cases h6
theorem freed_eq {F : Hp} {a : Addr} (h : ¬OwnL sd σ a) : freed F sd σ a = F a := by
  unfold freed
  rw [if_neg h]
section
variable (ok : ∀ a, OwnL sd σ a → ∃ vs, F a = some (.lst vs))
include ok
theorem freed_at {a : Addr} {o : HO} (h : F a = some o) (n : ∀ vs, o ≠ .lst vs) : freed F sd σ a = some o := by
  rw [freed_eq fun z => ?_]
  · exact h
  · obtain ⟨vs, e⟩ := ok a z
    rw [h] at e
    cases e
    exact n vs rfl
mutual
theorem Rep.freed : ∀ {d : D} {v : V}, noL d = true → Rep K mg F d v → Rep K mg (freed F sd σ) d v
  | .non, v, _, h => by unfold Rep at h ⊢; exact h
  | .bl b, v, _, h => by unfold Rep at h ⊢; exact h
  | .int b, v, _, h => by unfold Rep at h ⊢; exact h
  | .str b, v, _, h => by unfold Rep at h ⊢; exact h
  | .tup xs, v, n, h => by
    unfold Rep at h ⊢
    obtain ⟨a, vs, h1, h2, h3⟩ := h
    refine ⟨a, vs, h1, ?_, RepL.freed (by simpa [noL] using n) h3⟩
    rcases h2 with (h2 | ⟨o, h2⟩) | h2
    · exact .inl (.inl (freed_at ok h2 fun _ z => by cases z))
    · exact .inl (.inr ⟨o, freed_at ok h2 fun _ z => by cases z⟩)
    · exact .inr h2
  | .ins c ns xs, v, n, h => by
    unfold Rep at h ⊢
    obtain ⟨a, C, dx, vs, h1, h2, h3, h4, h5⟩ := h
    exact ⟨a, C, dx, vs, h1, h2, freed_at ok h3 (fun _ z => by cases z), h4, RepL.freed (by simpa [noL] using n) h5⟩
  | .lst _, v, n, h => by simp [noL] at n
  | .scr _, v, n, h => by simp [noL] at n
  | .ty _, v, n, h => by simp [noL] at n
  | .cls _, v, n, h => by simp [noL] at n
  | .dct _ _, v, n, h => by simp [noL] at n
  | .exn _ _ _, v, n, h => by simp [noL] at n
  | .hot _ _ _ _ _ _, v, n, h => by simp [noL] at n
theorem RepL.freed : ∀ {ds : List D} {vs : List V}, noLs ds = true → RepL K mg F ds vs → RepL K mg (freed F sd σ) ds vs
  | [], vs, _, h => by unfold RepL at h ⊢; exact h
  | d :: ds, vs, n, h => by
    unfold RepL at h ⊢
    obtain ⟨v, r, h1, h2, h3⟩ := h
    have n' : noL d = true ∧ noLs ds = true := by simpa [noLs] using n
    exact ⟨v, r, h1, Rep.freed n'.1 h2, RepL.freed n'.2 h3⟩
end
end
end
section
variable {X : Cx} {e : Expr} {te : TE} {me : M D}
theorem pd_peekN (h : PEd X e te me) : PEd X e te (mPeekN me) := by
  refine ⟨h.1, fun B F H σ sd d sd' S hm Q q => ?_⟩
  have hm2 : (match me (sd.map looked) with
    | some (d, _) => if noL d = true then some (d, sd) else none
    | none => none) = some (d, sd') := hm
  cases e1 : me (sd.map looked) with
  | none => rw [e1] at hm2; cases hm2
  | some pr =>
    obtain ⟨d1, sd2⟩ := pr
    rw [e1] at hm2
    have hm3 : (if noL d1 = true then some (d1, sd) else none) = some (d, sd') := hm2
    by_cases z : noL d1 = true
    case neg =>
      rw [if_neg z] at hm3
      cases hm3
    rw [if_pos z] at hm3
    cases hm3
    have hx := held_ex S
    refine h.2 _ (held F H sd σ) H σ _ _ sd2 S.look e1 Q fun v F2 H2 S2 e3 r => ?_
    have hh : Ex H H2 := fun a o ho => S2.keep a o ho (fun z => nomatch z)
    have ok : ∀ a, OwnL sd σ a → ∃ vs, F2 a = some (.lst vs) := fun a w => by
      obtain ⟨_, vs, k⟩ := OwnL.at S w
      refine ⟨vs, e3 a _ ?_⟩
      unfold held
      rw [if_pos w]
      exact k
    have ff : Ex F (freed F2 sd σ) := fun a o ho => by
      have nw : ¬OwnL sd σ a := fun w => by
        rw [(OwnL.at S w).1] at ho
        cases ho
      rw [freed_eq nw]
      exact e3 a o (hx a o ho)
    have g : Grow F H (freed F2 sd σ) H2 := ⟨ff, fun a o ho => by
      by_cases w : OwnL sd σ a
      · unfold freed at ho
        rw [if_pos w] at ho
        cases ho
      · rw [freed_eq w] at ho
        exact S2.fh a o ho, hh, fun a ha => by
      by_cases w : OwnL sd σ a
      · unfold freed at ha
        rw [if_pos w] at ha
        exact absurd rfl ha
      · rw [freed_eq w] at ha
        rcases S2.fresh a ha with h1 | h1 | h1
        · refine .inl ?_
          have h2 : held F H sd σ a ≠ none := h1
          unfold held at h2
          rw [if_neg w] at h2
          exact h2
        · exact .inr h1
        · exact nomatch h1⟩
    exact q v _ H2 (S.grow g) g.ff (Rep.freed ok z r)
end
end Mir
set_option linter.all false
set_option maxRecDepth 100000
namespace Mir
open PySem L2
theorem big_of {x : Int} (h1 : -4294967296 < x) (h2 : x < 4294967296) : x.natAbs < big := by
  have : (2:Nat)^32 ≤ big := Nat.pow_le_pow_right (by decide) (by decide)
  omega
theorem big_nat {n : Nat} (h : n < 4294967296) : n < big := by
  have : (2:Nat)^32 ≤ big := Nat.pow_le_pow_right (by decide) (by decide)
  omega
/-- a step of a mirror, told by what it gives -/
theorem bnd_eq {α β : Type} {m : M α} {k : α → M β} {sd sd1 : SD} {a : α} (h : m sd = some (a, sd1)) : bnd m k sd = k a sd1 := by
  unfold bnd
  rw [h]
theorem mSeq_nx {m n : M Out} {sd sd1 : SD} (h : m sd = some (.nx, sd1)) : mSeq m n sd = n sd1 := by
  unfold mSeq
  rw [bnd_eq h]
theorem mSeq_rt {m n : M Out} {sd sd1 : SD} {d : D} (h : m sd = some (.rt d, sd1)) : mSeq m n sd = some (.rt d, sd1) := by
  unfold mSeq
  rw [bnd_eq h]
  rfl
theorem mRet_eq {m : M D} {sd sd1 : SD} {d : D} (h : m sd = some (d, sd1)) : mRet m sd = some (.rt d, sd1) := by
  unfold mRet
  rw [bnd_eq h]
  rfl
theorem mCons_eq {m : M D} {n : M (List D)} {sd sd1 sd2 : SD} {d : D} {ds : List D} (h : m sd = some (d, sd1)) (k : n sd1 = some (ds, sd2)) : mCons m n sd = some (d :: ds, sd2) := by
  unfold mCons
  rw [bnd_eq h, bnd_eq k]
  rfl
theorem mNil_eq {sd : SD} : mNil sd = some ([], sd) := rfl
theorem mFn_eq {n : Nat} {mf : List D → Option D} {mL : M (List D)} {sd sd1 : SD} {ds : List D} {d : D} (h : mL sd = some (ds, sd1)) (hl : ds.length = n) (k : mf ds = some d) : mFn n mf [] mL sd = some (d, sd1) := by
  unfold mFn
  rw [bnd_eq h, List.append_nil, if_pos hl, k]
  rfl
theorem rng1_int {j : Int} (h0 : 0 ≤ j) (h1 : j < 1000000) : rng1D [.int j] = some ((List.range j.toNat).map fun i : Nat => D.int (i : Int)) := by
  have ok : okR j = true := by
    simp [okR]
    omega
  simp [rng1D, ok]
/-! ### loops -/
/-- one turn of a for -/
def turn (g : D → M Unit) (b : M Out) (d : D) : M Out := bnd (g d) fun _ => b
theorem forM_nx {g : D → M Unit} {b : M Out} {d : D} {r : List D} {sd sd1 : SD} (h : turn g b d sd = some (.nx, sd1)) : forM g b (d :: r) sd = forM g b r sd1 := by
  unfold turn at h
  obtain ⟨u, sd2, h1, h2⟩ := bnd_some h
  show bnd (g d) _ sd = _
  rw [bnd_eq h1, bnd_eq h2]
theorem forM_rt {g : D → M Unit} {b : M Out} {d v : D} {r : List D} {sd sd1 : SD} (h : turn g b d sd = some (.rt v, sd1)) : forM g b (d :: r) sd = some (.rt v, sd1) := by
  unfold turn at h
  obtain ⟨u, sd2, h1, h2⟩ := bnd_some h
  show bnd (g d) _ sd = _
  rw [bnd_eq h1, bnd_eq h2]
  rfl
/-- a loop as a fold: I s sd says how the slots hold the state s -/
theorem forM_fold {α S : Type} {g : D → M Unit} {b : M Out} (enc : α → D) (st : S → α → S) (I : S → SD → Prop) : ∀ (l : List α) (s : S) (sd : SD),
    (∀ s a sd, a ∈ l → I s sd → ∃ sd', turn g b (enc a) sd = some (.nx, sd') ∧ I (st s a) sd') → I s sd → ∃ sd', forM g b (l.map enc) sd = some (.nx, sd') ∧ I (l.foldl st s) sd'
  | [], s, sd, _, h => ⟨sd, rfl, h⟩
  | a :: l, s, sd, hs, h => by
    obtain ⟨sd1, h1, h2⟩ := hs s a sd List.mem_cons_self h
    rw [List.map_cons, forM_nx h1]
    exact forM_fold enc st I l (st s a) sd1 (fun s x sd hx => hs s x sd (List.mem_cons_of_mem _ hx)) h2
/-- a comprehension as a map, where the turns leave the slots as I says -/
theorem compL_map {α β : Type} {vs : List Nat} {g : D → M Unit} {e : M D} (enc : α → D) (enc2 : β → D) (f : α → β) (I : SD → Prop) : ∀ (l : List α) (sd : SD),
    (∀ a sd, a ∈ l → I sd → ∃ sd', bnd (g (enc a)) (fun _ => e) (wipeS sd vs) = some (enc2 (f a), sd') ∧ I sd') → I sd → ∃ sd', compL vs g (pur true) e (l.map enc) sd = some ((l.map f).map enc2, sd') ∧ I sd'
  | [], sd, _, h => ⟨sd, rfl, h⟩
  | a :: l, sd, hs, h => by
    obtain ⟨sd1, h1, h2⟩ := hs a sd List.mem_cons_self h
    obtain ⟨sd2, h3, h4⟩ := compL_map enc enc2 f I l sd1 (fun x sd hx => hs x sd (List.mem_cons_of_mem _ hx)) h2
    refine ⟨sd2, ?_, h4⟩
    obtain ⟨u, sdg, k1, k2⟩ := bnd_some h1
    rw [List.map_cons]
    show bnd (g (enc a)) _ (wipeS sd vs) = _
    rw [bnd_eq k1]
    show bnd e _ sdg = _
    rw [bnd_eq k2, bnd_eq h3]
    rfl
/-! ### pairs of ints -/
abbrev Pr := Int × Int
def pr (p : Pr) : D := .tup [.int p.1, .int p.2]
def prs (l : List Pr) : List D := l.map pr
theorem eqD_int {a b : Int} : eqD (.int a) (.int b) = some (.bl (decide (a = b))) := by
  simp [eqD, pyD, PyData.eqv]
  rfl
theorem pyL_prs : ∀ {n : Nat} {l : List Pr}, pyL (n + 1) (prs l) = some (l.map fun p => .tuple [.int p.1, .int p.2])
  | n, [] => by simp [prs, pyL]
  | n, p :: l => by
    have ih := pyL_prs (n := n) (l := l)
    unfold prs at ih ⊢
    rw [List.map_cons]
    unfold pyL
    rw [ih]
    simp [pr, pyD, pyL]
theorem pyD_lst {l : List Pr} : pyD 12 (.lst (prs l)) = some (.list (l.map fun p => .tuple [.int p.1, .int p.2])) := by
  unfold pyD
  rw [pyL_prs]
  rfl
theorem pyD_tup {l : List Pr} : pyD 12 (.tup (prs l)) = some (.tuple (l.map fun p => .tuple [.int p.1, .int p.2])) := by
  unfold pyD
  rw [pyL_prs]
  rfl
theorem neD_nil {l : List Pr} : neD (.lst (prs l)) (.lst []) = some (.bl (!l.isEmpty)) := by
  have h : pyD 12 (.lst []) = some (.list []) := by simp [pyD, pyL]
  unfold neD
  rw [pyD_lst, h]
  cases l with
  | nil => simp [PyData.eqv, PyData.eqvAll]
  | cons p l => simp [PyData.eqv, PyData.eqvAll]
theorem ixN_last {n : Nat} (h : 0 < n) : ixN n (-1) = some (n - 1) := by
  unfold ixN
  rw [if_neg (by omega), if_pos (by omega)]
  congr 1
  omega
theorem ixN_nat {n i : Nat} (h : i < n) : ixN n (i : Int) = some i := by
  unfold ixN
  rw [if_pos (by omega), if_pos (by omega)]
  simp
theorem atI_nat {α : Type} {xs : List α} {i : Nat} {x : α} (h : xs[i]? = some x) : atI xs (i : Int) = some x := by
  unfold atI
  rw [ixN_nat (List.getElem?_eq_some_iff.mp h).1]
  exact h
theorem atI_last {α : Type} {xs : List α} {x : α} (h : xs.getLast? = some x) : atI xs (-1) = some x := by
  have hn : 0 < xs.length := by
    cases xs with
    | nil => cases h
    | cons => simp
  unfold atI
  rw [ixN_last hn]
  rw [List.getLast?_eq_getElem?] at h
  exact h
/-- a loop over a list that is known: I says of what has been gone through how the slots hold it -/
theorem forM_pre {α : Type} {g : D → M Unit} {b : M Out} (enc : α → D) (I : List α → SD → Prop) (l : List α) : ∀ (r don : List α) (sd : SD), l = don ++ r →
    (∀ don a r sd, l = don ++ a :: r → I don sd → ∃ sd', turn g b (enc a) sd = some (.nx, sd') ∧ I (don ++ [a]) sd') → I don sd → ∃ sd', forM g b (r.map enc) sd = some (.nx, sd') ∧ I l sd'
  | [], don, sd, e, _, h => ⟨sd, rfl, by rw [e, List.append_nil]; exact h⟩
  | a :: r, don, sd, e, hs, h => by
    obtain ⟨sd1, h1, h2⟩ := hs don a r sd e h
    rw [List.map_cons, forM_nx h1]
    exact forM_pre enc I l r (don ++ [a]) sd1 (by rw [e]; simp) hs h2
/-- legs that follow each other with the same pace, as one -/
def mrg (acc : List Pr) (r : Pr) : List Pr := match acc.getLast? with
  | some q => if q.2 = r.2 then acc.dropLast ++ [(q.1 + r.1, r.2)] else acc ++ [r]
  | none => acc ++ [r]
def rle (l : List Pr) : List Pr := l.foldl mrg []
theorem mrg_len (acc : List Pr) (r : Pr) : (mrg acc r).length ≤ acc.length + 1 := by
  unfold mrg
  cases e : acc.getLast? with
  | none => simp
  | some q =>
    by_cases h : q.2 = r.2
    · simp [h] <;> omega
    · simp [h]
theorem rle_snoc (l : List Pr) (r : Pr) : rle (l ++ [r]) = mrg (rle l) r := by
  unfold rle
  rw [List.foldl_append]
  rfl
theorem rle_len (l : List Pr) : (rle l).length ≤ l.length := by
  have h : ∀ (l acc : List Pr), (l.foldl mrg acc).length ≤ acc.length + l.length := by
    intro l
    induction l with
    | nil => simp
    | cons a l ih =>
      intro acc
      have h1 := ih (mrg acc a)
      have h2 := mrg_len acc a
      rw [List.foldl_cons, List.length_cons]
      omega
  have := h l []
  unfold rle
  simpa using this
theorem getLast_prs {l : List Pr} {q : Pr} (h : l.getLast? = some q) : (prs l).getLast? = some (pr q) := by
  unfold prs
  rw [List.getLast?_map, h]
  rfl
theorem atI_0 {α : Type} {x : α} {xs : List α} : atI (x :: xs) 0 = some x := atI_nat (i := 0) rfl
theorem atI_1 {α : Type} {x y : α} {xs : List α} : atI (x :: y :: xs) 1 = some y := atI_nat (i := 1) rfl
theorem atI_2 {α : Type} {x y z : α} {xs : List α} : atI (x :: y :: z :: xs) 2 = some z := atI_nat (i := 2) rfl
theorem set_last {α : Type} {x : α} : ∀ {l : List α}, l ≠ [] → l.set (l.length - 1) x = l.dropLast ++ [x]
  | [], h => absurd rfl h
  | [a], _ => rfl
  | a :: b :: l, _ => by
    have ih := set_last (x := x) (l := b :: l) (by simp)
    simp at ih ⊢
    exact ih
/-- a way: where it is behind steps of these paces; all its points -/
def wend (p : Pr) (vs : List Int) : Pr := (p.1 + vs.length, p.2 + vs.sum)
def way (p : Pr) : List Int → List Pr
  | [] => [p]
  | v :: vs => p :: way (p.1 + 1, p.2 + v) vs
theorem way_snoc (v : Int) : ∀ (vs : List Int) (p : Pr), way p (vs ++ [v]) = way p vs ++ [wend p (vs ++ [v])]
  | [], p => by simp [way, wend]
  | u :: vs, p => by
    have ih := way_snoc v vs (p.1 + 1, p.2 + u)
    rw [List.cons_append, way, ih, way]
    simp [wend]
    omega
theorem way_len : ∀ (vs : List Int) (p : Pr), (way p vs).length = vs.length + 1
  | [], p => rfl
  | v :: vs, p => by rw [way, List.length_cons, way_len vs, List.length_cons]
theorem wend_snoc (p : Pr) (vs : List Int) (v : Int) : wend p (vs ++ [v]) = ((wend p vs).1 + 1, (wend p vs).2 + v) := by
  simp [wend]
  omega
/-- rows as paces -/
def expand (rows : List Pr) : List Int := rows.flatMap fun r => List.replicate r.1.toNat r.2
theorem expand_snoc (rows : List Pr) (r : Pr) : expand (rows ++ [r]) = expand rows ++ List.replicate r.1.toNat r.2 := by
  simp [expand]
theorem expand_pre {l don r : List Pr} (h : l = don ++ r) : (expand don).length ≤ (expand l).length := by
  rw [h]
  simp [expand]
/-- paces as legs -/
def legs (vs : List Int) : List Pr := rle (vs.map fun v => (1, v))
theorem mrg_mrg (acc : List Pr) (a b v : Int) : mrg (mrg acc (a, v)) (b, v) = mrg acc (a + b, v) := by
  have hl : ∀ (xs : List Pr) (q : Pr), (xs ++ [q]).getLast? = some q := by simp
  have hd : ∀ (xs : List Pr) (q : Pr), (xs ++ [q]).dropLast = xs := by simp
  unfold mrg
  cases e : acc.getLast? with
  | none => simp
  | some q =>
    by_cases h : q.2 = v
    · simp [h, Int.add_assoc]
    · simp [h]
theorem mrg_repl (v : Int) : ∀ (n : Nat) (acc : List Pr), (List.replicate (n + 1) ((1 : Int), v)).foldl mrg acc = mrg acc ((n : Int) + 1, v)
  | 0, acc => by simp
  | n + 1, acc => by
    rw [List.replicate_succ', List.foldl_append, mrg_repl v n acc]
    simp only [List.foldl_cons, List.foldl_nil]
    rw [mrg_mrg]
    simp
theorem legs_app (vs : List Int) (n : Nat) (v : Int) : legs (vs ++ List.replicate (n + 1) v) = mrg (legs vs) ((n : Int) + 1, v) := by
  unfold legs rle
  rw [List.map_append, List.foldl_append, List.map_replicate, mrg_repl]
theorem rle_expand : ∀ (n : Nat) (rows : List Pr), rows.length = n → (∀ r ∈ rows, 1 ≤ r.1) → rle rows = legs (expand rows)
  | 0, rows, hn, _ => by
    have : rows = [] := List.length_eq_zero_iff.mp hn
    subst this
    rfl
  | n + 1, rows, hn, h => by
    have hne : rows ≠ [] := fun z => by rw [z] at hn; cases hn
    obtain ⟨don, r, rfl⟩ : ∃ don r, rows = don ++ [r] := ⟨rows.dropLast, rows.getLast hne, (List.dropLast_concat_getLast hne).symm⟩
    have hr := h r (by simp)
    have ih := rle_expand n don (by simpa using hn) fun x hx => h x (by simp [hx])
    rw [rle_snoc, expand_snoc, ih]
    obtain ⟨m, hm⟩ : ∃ m : Nat, r.1 = (m : Int) + 1 := ⟨(r.1 - 1).toNat, by omega⟩
    obtain ⟨r1, r2⟩ := r
    have hm' : r1 = (m : Int) + 1 := hm
    subst hm'
    have e : ((m : Int) + 1).toNat = m + 1 := by omega
    show mrg _ _ = legs (_ ++ List.replicate ((m : Int) + 1).toNat r2)
    rw [e, legs_app]
theorem way_get : ∀ (vs : List Int) (p : Pr) (k : Nat), k ≤ vs.length → (way p vs)[k]? = some (wend p (vs.take k))
  | [], p, k, h => by
    have : k = 0 := by simpa using h
    subst this
    simp [way, wend]
  | v :: vs, p, 0, h => by simp [way, wend]
  | v :: vs, p, k + 1, h => by
    rw [way, List.getElem?_cons_succ, way_get vs _ k (by simpa using h)]
    simp [wend]
    omega
/-- corners: where it is behind legs; all corners -/
def cend (p : Pr) (ls : List Pr) : Pr := wend p (expand ls)
def corn (p : Pr) (ls : List Pr) : List Pr := (List.range (ls.length + 1)).map fun k => cend p (ls.take k)
theorem corn_snoc (p : Pr) (ls : List Pr) (r : Pr) : corn p (ls ++ [r]) = corn p ls ++ [cend p (ls ++ [r])] := by
  unfold corn
  rw [List.length_append, List.length_singleton, List.range_succ, List.map_append, List.map_singleton]
  congr 1
  · apply List.map_congr_left
    intro k hk
    rw [List.mem_range] at hk
    rw [List.take_append_of_le_length (by omega)]
  · rw [List.take_of_length_le (by simp)]
theorem corn_len (p : Pr) (ls : List Pr) : (corn p ls).length = ls.length + 1 := by simp [corn]
theorem corn_nil (p : Pr) : corn p [] = [p] := by simp [corn, cend, wend, expand]
/-- all counts are one at least -/
def Pos (ls : List Pr) : Prop := ∀ r ∈ ls, 1 ≤ r.1
theorem mrg_pos {acc : List Pr} {r : Pr} (h : Pos acc) (hr : 1 ≤ r.1) : Pos (mrg acc r) := by
  unfold mrg
  cases e : acc.getLast? with
  | none =>
    intro x hx
    simp at hx
    rcases hx with hx | hx
    · exact h x hx
    · rw [hx]; exact hr
  | some q =>
    have hq : q ∈ acc := List.mem_of_getLast? e
    have h1 := h q hq
    by_cases z : q.2 = r.2
    · intro x hx
      simp [z] at hx
      rcases hx with hx | hx
      · exact h x ((List.dropLast_sublist acc).subset hx)
      · rw [hx]
        show 1 ≤ q.1 + r.1
        omega
    · intro x hx
      simp [z] at hx
      rcases hx with hx | hx
      · exact h x hx
      · rw [hx]; exact hr
theorem expand_mrg {acc : List Pr} {r : Pr} (h : Pos acc) (hr : 1 ≤ r.1) : expand (mrg acc r) = expand acc ++ List.replicate r.1.toNat r.2 := by
  unfold mrg
  cases e : acc.getLast? with
  | none => simp [expand]
  | some q =>
    have hq : q ∈ acc := List.mem_of_getLast? e
    have h1 := h q hq
    by_cases z : q.2 = r.2
    · have hne : acc ≠ [] := fun y => by rw [y] at e; cases e
      have ea : acc = acc.dropLast ++ [q] := by
        have := List.dropLast_concat_getLast hne
        rw [List.getLast?_eq_some_getLast hne] at e
        cases e
        exact this.symm
      have en : (q.1 + r.1).toNat = q.1.toNat + r.1.toNat := by omega
      show expand (if q.2 = r.2 then acc.dropLast ++ [(q.1 + r.1, r.2)] else acc ++ [r]) = _
      rw [if_pos z]
      conv => rhs; rw [ea]
      rw [expand_snoc, expand_snoc, en, ← List.replicate_append_replicate, z, List.append_assoc]
    · show expand (if q.2 = r.2 then acc.dropLast ++ [(q.1 + r.1, r.2)] else acc ++ [r]) = _
      rw [if_neg z, expand_snoc]
theorem rle_pos_expand : ∀ (rows acc : List Pr), Pos rows → Pos acc → Pos (rows.foldl mrg acc) ∧ expand (rows.foldl mrg acc) = expand acc ++ expand rows
  | [], acc, _, ha => ⟨ha, by simp [expand]⟩
  | r :: rows, acc, hr, ha => by
    have h1 := hr r List.mem_cons_self
    obtain ⟨k1, k2⟩ := rle_pos_expand rows (mrg acc r) (fun x hx => hr x (List.mem_cons_of_mem _ hx)) (mrg_pos ha h1)
    refine ⟨k1, ?_⟩
    rw [List.foldl_cons, k2, expand_mrg ha h1]
    simp [expand]
theorem expand_unit : ∀ vs : List Int, expand (vs.map fun v => ((1 : Int), v)) = vs
  | [] => rfl
  | v :: vs => by
    have ih := expand_unit vs
    simp [expand] at ih ⊢
    exact ih
theorem legs_pos (vs : List Int) : Pos (legs vs) := (rle_pos_expand _ [] (fun r hr => by
  obtain ⟨v, _, rfl⟩ := List.mem_map.mp hr
  exact Int.le_refl 1) (fun r hr => nomatch hr)).1
theorem legs_expand (vs : List Int) : expand (legs vs) = vs := by
  have h := (rle_pos_expand (vs.map fun v => ((1 : Int), v)) [] (fun r hr => by
    obtain ⟨v, _, rfl⟩ := List.mem_map.mp hr
    exact Int.le_refl 1) (fun r hr => nomatch hr)).2
  rw [expand_unit] at h
  simpa [expand, legs, rle] using h
theorem sum_repl (v : Int) : ∀ n : Nat, (List.replicate n v).sum = (n : Int) * v
  | 0 => by simp
  | n + 1 => by
    rw [List.replicate_succ, List.sum_cons, sum_repl v n]
    have : ((n + 1 : Nat) : Int) = (n : Int) + 1 := by omega
    rw [this, Int.add_mul]
    omega
theorem cend_snoc {p : Pr} {ls : List Pr} {n v : Int} (h : 0 ≤ n) : cend p (ls ++ [(n, v)]) = ((cend p ls).1 + n, (cend p ls).2 + n * v) := by
  unfold cend
  rw [expand_snoc]
  have e : ((n.toNat : Nat) : Int) = n := by omega
  simp only [wend, List.length_append, List.length_replicate, List.sum_append_int, sum_repl, e]
  refine Prod.ext ?_ ?_
  · show p.1 + (((expand ls).length + n.toNat : Nat) : Int) = _
    simp only
    omega
  · show p.2 + ((expand ls).sum + n * v) = _
    simp only
    omega
end Mir
set_option linter.all false
set_option maxRecDepth 100000
namespace Mir
open PySem L2
/-! ### the text of data that holds ints alone -/
def okS (x : Str) : Prop := ∀ c ∈ x.cps.toList, c < 0x110000
theorem okS_str (s : String) : okS (Str.ofString s) := by
  intro c hc
  rw [Str.ofString_eq_toList] at hc
  simp at hc
  obtain ⟨ch, _, rfl⟩ := hc
  have h := ch.valid
  have e : ch.toNat = ch.val.toNat := rfl
  rw [e]
  rcases h with h | h
  · exact Nat.lt_trans h (by decide)
  · exact h.2
theorem okS_app {a b : Str} (ha : okS a) (hb : okS b) : okS (a ++ b) := by
  intro c hc
  have e : (a ++ b).cps = a.cps ++ b.cps := rfl
  rw [e, Array.toList_append, List.mem_append] at hc
  exact hc.elim (ha c) (hb c)
theorem okS_from : ∀ (ts : List Str) (k : Nat) (acc : Str), okS acc → (∀ t ∈ ts, okS t) → okS (textFrom k acc ts)
  | [], k, acc, ha, _ => ha
  | t :: r, k, acc, ha, h => okS_from r (k + 1) _ (okS_app (okS_app ha (okS_str _)) (h t List.mem_cons_self)) fun x hx => h x (List.mem_cons_of_mem _ hx)
theorem okS_join : ∀ ts : List Str, (∀ t ∈ ts, okS t) → okS (Str.join ", " ts)
  | [], _ => okS_str ""
  | [x], h => h x List.mem_cons_self
  | x :: y :: r, h => okS_app (okS_app (h x List.mem_cons_self) (okS_str _)) (okS_join (y :: r) fun t ht => h t (List.mem_cons_of_mem _ ht))
theorem okS_ok {x : Str} (h : okS x) : PyData.canLay0 (.str x) = true := by
  unfold PyData.canLay0 PyData.strOk
  rw [← Array.all_toList, List.all_eq_true]
  intro c hc
  exact decide_eq_true (h c hc)
mutual
/-- ints below 10 ** 11, lists and tuples of such -/
def num : PyData → Bool
  | .int i => decide (i.natAbs < 10 ^ 11)
  | .list xs => nums xs
  | .tuple xs => nums xs
  | .none => false
  | .bool _ => false
  | .str _ => false
  | .dict _ => false
def nums : List PyData → Bool
  | [] => true
  | x :: xs => num x && nums xs
end
mutual
theorem num_ok : ∀ d : PyData, num d = true → d.showable = true ∧ d.leavesShort 13 = true ∧ okS d.shown
  | .int i, h => by
    have h1 : i.natAbs < 10 ^ 11 := by simpa [num] using h
    have h2 := int_text_length_le10 (k := 11) (by decide) h1
    refine ⟨?_, ?_, okS_str _⟩
    · have : i.natAbs.log2 < 1920 := by
        by_cases z : i.natAbs = 0
        · rw [z]; decide
        · rw [Nat.log2_lt z]
          exact Nat.lt_of_lt_of_le h1 (Nat.le_trans (show 10 ^ 11 ≤ 2 ^ 40 by decide) (Nat.pow_le_pow_right (by decide) (by decide)))
      simpa [PyData.showable] using this
    · have e : (PyData.shown (.int i)).length = (toString i).length := ofString_length _
      unfold PyData.leavesShort
      rw [e]
      exact decide_eq_true (by omega)
  | .list xs, h => by
    obtain ⟨h1, h2, h3⟩ := nums_ok xs (by simpa [num] using h)
    refine ⟨by simpa [PyData.showable] using h1, by simpa [PyData.leavesShort] using h2, ?_⟩
    show okS (listText (PyData.shownAll xs))
    exact okS_app (okS_from _ _ _ (okS_str _) h3) (okS_str _)
  | .tuple xs, h => by
    obtain ⟨h1, h2, h3⟩ := nums_ok xs (by simpa [num] using h)
    refine ⟨by simpa [PyData.showable] using h1, by simpa [PyData.leavesShort] using h2, ?_⟩
    show okS (tupleText (PyData.shownAll xs))
    exact okS_app (okS_app (okS_str _) (okS_join _ h3)) (okS_str _)
  | .none, h => by simp [num] at h
  | .bool _, h => by simp [num] at h
  | .str _, h => by simp [num] at h
  | .dict _, h => by simp [num] at h
theorem nums_ok : ∀ xs : List PyData, nums xs = true → PyData.showableAll xs = true ∧ PyData.leavesShortAll 13 xs = true ∧ ∀ t ∈ PyData.shownAll xs, okS t
  | [], _ => ⟨by simp [PyData.showableAll], by simp [PyData.leavesShortAll], fun t ht => by simp [PyData.shownAll] at ht⟩
  | x :: xs, h => by
    have h' : num x = true ∧ nums xs = true := by simpa [nums] using h
    obtain ⟨a1, a2, a3⟩ := num_ok x h'.1
    obtain ⟨b1, b2, b3⟩ := nums_ok xs h'.2
    refine ⟨by simp [PyData.showableAll, a1, b1], by simp [PyData.leavesShortAll, a2, b2], fun t ht => ?_⟩
    rw [PyData.shownAll, List.mem_cons] at ht
    rcases ht with rfl | ht
    · exact a3
    · exact b3 t ht
end
theorem reprD_num {d : D} {p : PyData} (h : pyD 12 d = some p) (hn : num p = true) (hb : p.bulk ≤ 6000) : ∃ s, reprD [d] = some (.str s) ∧ neD (.str s) (.str s) = some (.bl false) := by
  obtain ⟨h1, h2, h3⟩ := num_ok p hn
  have h4 := PyData.shown_le_bulk 13 (by decide) p h2
  refine ⟨p.shown, ?_, ?_⟩
  · simp only [reprD, h]
    exact if_pos ⟨h1, by omega⟩
  · have e : pyD 12 (.str p.shown) = some (.str p.shown) := by
      unfold pyD
      exact if_pos (okS_ok h3)
    unfold neD
    rw [e]
    simp [PyData.eqv]
/-- pairs of small ints -/
def Near (l : List Pr) : Prop := l.length ≤ 1500 ∧ ∀ p ∈ l, p.1.natAbs < 10 ^ 11 ∧ p.2.natAbs < 10 ^ 11
theorem nums_prs : ∀ l : List Pr, (∀ p ∈ l, p.1.natAbs < 10 ^ 11 ∧ p.2.natAbs < 10 ^ 11) → nums (l.map fun p => .tuple [.int p.1, .int p.2]) = true ∧ PyData.bulkAll (l.map fun p => .tuple [.int p.1, .int p.2]) = 3 * l.length
  | [], _ => ⟨by simp [nums], by simp [PyData.bulkAll]⟩
  | p :: l, h => by
    obtain ⟨h1, h2⟩ := nums_prs l fun q hq => h q (List.mem_cons_of_mem _ hq)
    have h3 := h p List.mem_cons_self
    constructor
    · simp only [List.map_cons, nums, num, h1, Bool.and_true, Bool.and_eq_true, decide_eq_true_eq]
      exact h3
    · simp only [List.map_cons, PyData.bulkAll, PyData.bulk, h2, List.length_cons]
      omega
theorem repr_lst {l : List Pr} (h : Near l) : ∃ s, reprD [.lst (prs l)] = some (.str s) ∧ neD (.str s) (.str s) = some (.bl false) := by
  obtain ⟨h1, h2⟩ := nums_prs l h.2
  have := h.1
  exact reprD_num pyD_lst (by simpa [num] using h1) (by simp only [PyData.bulk]; omega)
theorem repr_tup {l : List Pr} (h : Near l) : ∃ s, reprD [.tup (prs l)] = some (.str s) ∧ neD (.str s) (.str s) = some (.bl false) := by
  obtain ⟨h1, h2⟩ := nums_prs l h.2
  have := h.1
  exact reprD_num pyD_tup (by simpa [num] using h1) (by simp only [PyData.bulk]; omega)
theorem pyL_ints : ∀ {n : Nat} {l : List Int}, pyL n (l.map D.int) = some (l.map PyData.int)
  | n, [] => by cases n <;> simp [pyL]
  | n, i :: l => by
    have ih := pyL_ints (n := n) (l := l)
    cases n <;> simp [pyL, pyD, ih]
theorem nums_ints : ∀ l : List Int, (∀ i ∈ l, i.natAbs < 10 ^ 11) → nums (l.map PyData.int) = true ∧ PyData.bulkAll (l.map PyData.int) = l.length
  | [], _ => ⟨by simp [nums], by simp [PyData.bulkAll]⟩
  | i :: l, h => by
    obtain ⟨h1, h2⟩ := nums_ints l fun q hq => h q (List.mem_cons_of_mem _ hq)
    have h3 := h i List.mem_cons_self
    constructor
    · simp only [List.map_cons, nums, num, h1, Bool.and_true, decide_eq_true_eq]
      exact h3
    · simp only [List.map_cons, PyData.bulkAll, PyData.bulk, h2, List.length_cons]
      omega
theorem repr_ints {l : List Int} (h : l.length ≤ 1500) (h2 : ∀ i ∈ l, i.natAbs < 10 ^ 11) : ∃ s, reprD [.lst (l.map D.int)] = some (.str s) ∧ neD (.str s) (.str s) = some (.bl false) := by
  obtain ⟨h3, h4⟩ := nums_ints l h2
  have e : pyD 12 (.lst (l.map D.int)) = some (.list (l.map PyData.int)) := by
    unfold pyD
    rw [pyL_ints]
    rfl
  exact reprD_num e (by simpa [num] using h3) (by simp only [PyData.bulk]; omega)
theorem neD_ints {l : List Int} : neD (.lst (l.map D.int)) (.lst (l.map D.int)) = some (.bl false) := by
  have e : pyD 12 (.lst (l.map D.int)) = some (.list (l.map PyData.int)) := by
    unfold pyD
    rw [pyL_ints]
    rfl
  unfold neD
  rw [e]
  have h : ∀ l : List Int, PyData.eqvAll (l.map PyData.int) (l.map PyData.int) = true := by
    intro l
    induction l with
    | nil => simp [PyData.eqvAll]
    | cons a l ih => simp [PyData.eqvAll, PyData.eqv, ih]
  simp [PyData.eqv, h]
end Mir
set_option linter.all false
set_option maxRecDepth 100000
namespace Mir
open PySem L2
/-! ### mirrors, told by what their parts give -/
theorem mVar_eq {i : Nat} {sd : SD} {d : D} (h : sd[i]? = some (.val d)) : mVar i sd = some (d, sd) := by
  unfold mVar
  rw [h]
theorem op2_eq {f : D → D → Option D} {m n : M D} {sd sd1 sd2 : SD} {a b d : D} (h : m sd = some (a, sd1)) (k : n sd1 = some (b, sd2)) (e : f a b = some d) : op2 f m n sd = some (d, sd2) := by
  unfold op2
  rw [bnd_eq h, bnd_eq k, e]
  rfl
theorem op1_eq {f : D → Option D} {m : M D} {sd sd1 : SD} {a d : D} (h : m sd = some (a, sd1)) (e : f a = some d) : op1 f m sd = some (d, sd1) := by
  unfold op1
  rw [bnd_eq h, e]
  rfl
theorem tst_eq {m : M D} {sd sd1 : SD} {b : Bool} (h : m sd = some (.bl b, sd1)) : tst m sd = some (b, sd1) := by
  unfold tst
  rw [bnd_eq h]
  rfl
theorem mIf_t {α : Type} {t : M Bool} {a b : M α} {sd sd1 : SD} (h : t sd = some (true, sd1)) : mIf t a b sd = a sd1 := by
  unfold mIf
  rw [bnd_eq h]
  rfl
theorem mIf_f {α : Type} {t : M Bool} {a b : M α} {sd sd1 : SD} (h : t sd = some (false, sd1)) : mIf t a b sd = b sd1 := by
  unfold mIf
  rw [bnd_eq h]
  rfl
theorem mCall_eq {f : List D → Option D} {m : M (List D)} {sd sd1 : SD} {ds : List D} {d : D} (h : m sd = some (ds, sd1)) (e : f ds = some d) : mCall f m sd = some (d, sd1) := by
  unfold mCall
  rw [bnd_eq h, e]
  rfl
theorem mLst_eq {m : M (List D)} {sd sd1 : SD} {ds : List D} (h : m sd = some (ds, sd1)) (l : ds.length ≤ 100000) : mLst m sd = some (.lst ds, sd1) := by
  unfold mLst lim
  rw [bnd_eq h, if_pos l]
  rfl
theorem mTup_eq {m : M (List D)} {sd sd1 : SD} {ds : List D} (h : m sd = some (ds, sd1)) (l : ds.length ≤ 100000) : mTup m sd = some (.tup ds, sd1) := by
  unfold mTup lim
  rw [bnd_eq h, if_pos l]
  rfl
theorem mNotB_eq {m : M Bool} {sd sd1 : SD} {b : Bool} (h : m sd = some (b, sd1)) : mNotB m sd = some (!b, sd1) := by
  unfold mNotB
  rw [bnd_eq h]
  rfl
theorem mOrB_f {m n : M Bool} {sd sd1 : SD} (h : m sd = some (false, sd1)) : mOrB m n sd = n sd1 := by
  unfold mOrB
  rw [bnd_eq h]
  rfl
theorem mAndB_t {m n : M Bool} {sd sd1 : SD} (h : m sd = some (true, sd1)) : mAndB m n sd = n sd1 := by
  unfold mAndB
  rw [bnd_eq h]
  rfl
theorem mAndB_f {m n : M Bool} {sd sd1 : SD} (h : m sd = some (false, sd1)) : mAndB m n sd = some (false, sd1) := by
  unfold mAndB
  rw [bnd_eq h]
  rfl
theorem mAndV_t {m n : M D} {sd sd1 : SD} (h : m sd = some (.bl true, sd1)) : mAndV m n sd = n sd1 := by
  unfold mAndV
  rw [bnd_eq h]
  rfl
theorem mProp_eq {f : List D → Option D} {c : Str} {m : M D} {sd sd1 : SD} {o d : D} (h : m sd = some (o, sd1)) (k : isK c o = true) (e : f [o] = some d) : mProp f c m sd = some (d, sd1) := by
  unfold mProp
  rw [bnd_eq h, if_pos k, e]
  rfl
theorem mMeth_eq {n : Nat} {f : List D → Option D} {c x : Str} {ds0 ds : List D} {m : M D} {mL : M (List D)} {sd sd1 sd2 : SD} {o d : D} (h : m sd = some (o, sd1)) (k : isC c x o = true) (hL : mL sd1 = some (ds, sd2)) (l : (o :: (ds ++ ds0)).length = n)
    (e : f (o :: (ds ++ ds0)) = some d) : mMeth n f c x ds0 m mL sd = some (d, sd2) := by
  unfold mMeth
  rw [bnd_eq h, if_pos k, bnd_eq hL, if_pos l, e]
  rfl
theorem mAsg_eq {m : M D} {g : D → M Unit} {sd sd1 sd2 : SD} {d : D} (h : m sd = some (d, sd1)) (k : g d sd1 = some ((), sd2)) : mAsg m g sd = some (.nx, sd2) := by
  unfold mAsg
  rw [bnd_eq h, bnd_eq k]
  rfl
theorem mDrop_eq {m : M D} {sd sd1 : SD} {d : D} (h : m sd = some (d, sd1)) : mDrop m sd = some (.nx, sd1) := by
  unfold mDrop
  rw [bnd_eq h]
  rfl
theorem mComp_eq {it : M (List D)} {vs : List Nat} {g : D → M Unit} {t : M Bool} {e : M D} {sd sd1 sd2 : SD} {ds ys : List D} (h : it sd = some (ds, sd1)) (k : compL vs g t e ds sd1 = some (ys, sd2)) (l : ds.length ≤ 50000) :
    mComp it vs g t e sd = some (.lst ys, Mir.back sd1 (wipeS sd2 vs)) := by
  unfold mComp
  rw [bnd_eq h]
  simp only [k]
  rw [if_pos l]
theorem back_self (sd : SD) : Mir.back sd sd = sd := by
  have h : ∀ s : Slot, pick s s = s := fun s => by cases s <;> rfl
  unfold Mir.back
  induction sd with
  | nil => rfl
  | cons s sd ih => rw [List.zipWith_cons_cons, h, ih]
theorem mFnI_eq {n i : Nat} {mf : Cell → List D → Option (D × Cell)} {ds0 ds : List D} {mL : M (List D)} {sd sd1 : SD} {c c0 c2 : Cell} {d : D} (h0 : sd[i]? = some (.own c0)) (hL : mL sd = some (ds, sd1)) (h1 : sd1[i]? = some (.own c)) (l : (ds ++ ds0).length = n)
    (e : mf c (ds ++ ds0) = some (d, c2)) : mFnI n mf i ds0 mL sd = some (d, sd1.set i (.own c2)) := by
  have t0 : mTake i sd = some (c0, sd) := by
    unfold mTake
    rw [h0]
  have t1 : mTake i sd1 = some (c, sd1) := by
    unfold mTake
    rw [h1]
  unfold mFnI
  rw [bnd_eq t0, bnd_eq hL, if_pos l, bnd_eq t1, e]
  rfl
theorem mTakeL_eq {i : Nat} {sd : SD} {xs : List D} (h : sd[i]? = some (.own (.lst xs))) : mTakeL i sd = some (xs, sd) := by
  have t : mTake i sd = some (.lst xs, sd) := by
    unfold mTake
    rw [h]
  unfold mTakeL
  rw [bnd_eq t]
  rfl
theorem mAct1_eq {i : Nat} {act : List D → D → Option (List D × D)} {me : M D} {sd sd1 : SD} {xs0 xs ys : List D} {d r : D} (h0 : sd[i]? = some (.own (.lst xs0))) (hm : me sd = some (d, sd1)) (h1 : sd1[i]? = some (.own (.lst xs))) (e : act xs d = some (ys, r)) :
    mAct1 i act me sd = some (r, sd1.set i (.own (.lst ys))) := by
  unfold mAct1
  rw [bnd_eq (mTakeL_eq h0), bnd_eq hm, bnd_eq (mTakeL_eq h1), e]
  rfl
theorem mItem_eq {i : Nat} {mk : M D} {sd sd1 : SD} {xs0 xs : List D} {j : Int} {d : D} (h0 : sd[i]? = some (.own (.lst xs0))) (hm : mk sd = some (.int j, sd1)) (h1 : sd1[i]? = some (.own (.lst xs))) (e : atI xs j = some d) : mItem i mk sd = some (d, sd1) := by
  unfold mItem
  rw [bnd_eq (mTakeL_eq h0), bnd_eq hm]
  show bnd (lft (some j)) _ sd1 = _
  rw [bnd_eq (a := j) (sd1 := sd1) rfl, bnd_eq (mTakeL_eq h1), e]
  rfl
theorem mOwn_eq {i : Nat} {mL : M (List D)} {sd sd1 : SD} {ds : List D} (h : mL sd = some (ds, sd1)) (l : ds.length ≤ 100000) (hi : i ≠ 0) : mOwn i mL sd = some (.nx, sd1.set i (.own (.lst ds))) := by
  unfold mOwn lim
  rw [bnd_eq h, if_pos l, bnd_eq (a := Cell.lst ds) (sd1 := sd1) rfl, if_pos hi]
  rfl
theorem append_eq {xs : List D} {d : D} (h : xs.length < 100000) : actAppend xs d = some (xs ++ [d], .non) := by
  unfold actAppend
  exact if_pos h
theorem mFor_eq {it : M (List D)} {g : D → M Unit} {b : M Out} {sd sd1 : SD} {ds : List D} (h : it sd = some (ds, sd1)) : mFor it g b sd = forM g b ds sd1 := by
  unfold mFor
  rw [bnd_eq h]
theorem rng2_int {i j : Int} (h0 : -4000000000 < i) (h1 : i < 4000000000) (h2 : -4000000000 < j) (h3 : j < 4000000000) : rng2D [.int i, .int j] = some ((List.range (j - i).toNat).map fun k : Nat => D.int (i + (k : Int))) := by
  have e1 : okR i = true := by
    simp [okR]
    omega
  have e2 : okR j = true := by
    simp [okR]
    omega
  simp [rng2D, e1, e2]
theorem way_fst {p : Pr} {vs : List Int} {k : Nat} (h : k ≤ vs.length) : (wend p (vs.take k)).1 = p.1 + k := by
  simp [wend]
  omega
/-- a way is the points behind its first steps -/
theorem way_map (p : Pr) (vs : List Int) : (List.range (vs.length + 1)).map (fun k => wend p (vs.take k)) = way p vs := by
  apply List.ext_getElem?
  intro k
  by_cases h : k < vs.length + 1
  · rw [List.getElem?_map, List.getElem?_range h, way_get vs p k (by omega)]
    rfl
  · rw [List.getElem?_eq_none (by simp; omega), List.getElem?_eq_none (by rw [way_len]; omega)]
theorem way_0 (p : Pr) (vs : List Int) : atI (prs (way p vs)) 0 = some (pr p) := by
  have h := atI_nat (xs := prs (way p vs)) (i := 0) (x := pr p) (by
    unfold prs
    rw [List.getElem?_map, way_get vs p 0 (by omega)]
    simp [wend])
  simpa using h
theorem way_l (p : Pr) (vs : List Int) : atI (prs (way p vs)) (-1) = some (pr (wend p vs)) := by
  apply atI_last
  apply getLast_prs
  rw [List.getLast?_eq_getElem?, way_len, Nat.add_sub_cancel, way_get vs p _ (Nat.le_refl _), List.take_length]
/-- a way that is moved, mirrored or scaled -/
theorem way_mapf (F : Pr → Pr) (g : Int → Int) (h : ∀ (c : Pr) (v : Int), F (c.1 + 1, c.2 + v) = ((F c).1 + 1, (F c).2 + g v)) : ∀ (vs : List Int) (p : Pr), way (F p) (vs.map g) = (way p vs).map F
  | [], p => rfl
  | v :: vs, p => by
    have ih := way_mapf F g h vs (p.1 + 1, p.2 + v)
    rw [h] at ih
    rw [List.map_cons, way, way, List.map_cons, ih]
theorem sum_neg : ∀ vs : List Int, (vs.map fun v => -v).sum = -vs.sum
  | [] => rfl
  | v :: vs => by
    rw [List.map_cons, List.sum_cons, List.sum_cons, sum_neg vs]
    omega
theorem sum_rev (vs : List Int) : vs.reverse.sum = vs.sum := by
  induction vs with
  | nil => rfl
  | cons v vs ih =>
    rw [List.reverse_cons, List.sum_append_int, ih, List.sum_cons]
    simp
    omega
def turned (p : Pr) (vs : List Int) : Pr := (-(wend p vs).1, (wend p vs).2)
theorem turned_end (p : Pr) (vs : List Int) : wend (turned p vs) (vs.map fun v => -v).reverse = (-p.1, p.2) := by
  simp only [wend, turned, List.length_reverse, List.length_map, sum_rev, sum_neg]
  refine Prod.ext ?_ ?_
  · show -(p.1 + (vs.length : Int)) + (vs.length : Int) = -p.1
    omega
  · show p.2 + vs.sum + -vs.sum = p.2
    omega
/-- .. and one that is told backward -/
theorem way_back : ∀ (vs : List Int) (p : Pr), way (turned p vs) (vs.map fun v => -v).reverse = (way p vs).reverse.map fun c => (-c.1, c.2)
  | [], p => by simp [way, turned, wend]
  | v :: vs, p => by
    have ih := way_back vs (p.1 + 1, p.2 + v)
    have e : turned p (v :: vs) = turned (p.1 + 1, p.2 + v) vs := by
      simp [turned, wend]
      omega
    have e2 := turned_end p (v :: vs)
    rw [List.map_cons, List.reverse_cons] at e2 ⊢
    rw [way_snoc, e2, e, ih, way]
    simp
theorem turned_twice (p : Pr) (vs : List Int) : turned (turned p vs) (vs.map fun v => -v).reverse = p := by
  have h := turned_end p vs
  show ((-(wend (turned p vs) (vs.map fun v => -v).reverse).1, (wend (turned p vs) (vs.map fun v => -v).reverse).2) : Pr) = p
  rw [h]
  show ((- -p.1, p.2) : Pr) = p
  rw [Int.neg_neg]
theorem neg_twice (vs : List Int) : ((vs.map fun v => -v).reverse.map fun v => -v).reverse = vs := by
  rw [List.map_reverse, List.reverse_reverse, List.map_map]
  have e : ((fun v : Int => -v) ∘ fun v => -v) = id := funext fun v => Int.neg_neg v
  rw [e, List.map_id]
/-- a sum of paces within a bound -/
theorem sum_bound {m : Int} (h0 : 0 ≤ m) : ∀ {vs : List Int}, (∀ v ∈ vs, -m ≤ v ∧ v ≤ m) → -((vs.length : Int) * m) ≤ vs.sum ∧ vs.sum ≤ (vs.length : Int) * m
  | [], _ => by simp
  | v :: vs, h => by
    have h1 := sum_bound h0 fun u hu => h u (List.mem_cons_of_mem v hu)
    have h2 := h v List.mem_cons_self
    have e : (((v :: vs).length : Nat) : Int) * m = (vs.length : Int) * m + m := by
      rw [List.length_cons, Int.natCast_add, Int.add_mul]
      simp
    rw [e, List.sum_cons]
    omega
end Mir
set_option linter.all false
set_option maxRecDepth 100000
namespace Mir
open PySem L2
/-! ### a mirror by what must hold behind it -/
/-- m runs from sd, and what it gives keeps Q -/
def Wp {α : Type} (m : M α) (sd : SD) (Q : α → SD → Prop) : Prop := ∃ a sd1, m sd = some (a, sd1) ∧ Q a sd1
/-- o gives something that keeps P -/
def Lf {α : Type} (o : Option α) (P : α → Prop) : Prop := ∃ a, o = some a ∧ P a
/-- .. something and a cell -/
def Li (o : Option (D × Cell)) (P : D → Cell → Prop) : Prop := ∃ d c, o = some (d, c) ∧ P d c
/-- of two sentences the one that c tells -/
def Br (c : Bool) (p q : Prop) : Prop := match c with
  | true => p
  | false => q
/-- a slot is set -/
inductive At1 : SD → Nat → Slot → SD → Prop
  | z {s t : Slot} {r : SD} : At1 (s :: r) 0 t (t :: r)
  | s {s t : Slot} {r r2 : SD} {n : Nat} : At1 r n t r2 → At1 (s :: r) (n + 1) t (s :: r2)
theorem At1.eq {sd sd2 : SD} {n : Nat} {t : Slot} (h : At1 sd n t sd2) : sd.set n t = sd2 := by
  induction h with
  | z => rfl
  | s _ ih => rw [List.set_cons_succ, ih]
variable {α β : Type} {sd sd1 sd2 : SD}
theorem Lf.ok {o : Option α} {a : α} {P : α → Prop} (h : o = some a) (p : P a) : Lf o P := ⟨a, h, p⟩
theorem Lf.the {a : α} {P : α → Prop} (p : P a) : Lf (some a) P := ⟨a, rfl, p⟩
theorem Lf.mono {o : Option α} {P Q : α → Prop} (h : Lf o P) (k : ∀ a, P a → Q a) : Lf o Q := by
  obtain ⟨a, e, p⟩ := h
  exact ⟨a, e, k a p⟩
theorem Li.ok {o : Option (D × Cell)} {d : D} {c : Cell} {P : D → Cell → Prop} (h : o = some (d, c)) (p : P d c) : Li o P := ⟨d, c, h, p⟩
theorem Br.t {p q : Prop} (h : p) : Br true p q := h
theorem Br.f {p q : Prop} (h : q) : Br false p q := h
theorem Br.dec {a p q : Prop} [Decidable a] (h : a → p) (k : ¬a → q) : Br (decide a) p q := by
  by_cases z : a
  · rw [decide_eq_true z]; exact h z
  · rw [decide_eq_false z]; exact k z
theorem Br.dec_t {a p q : Prop} [Decidable a] (z : a) (h : p) : Br (decide a) p q := by
  rw [decide_eq_true z]; exact h
theorem Br.dec_f {a p q : Prop} [Decidable a] (z : ¬a) (h : q) : Br (decide a) p q := by
  rw [decide_eq_false z]; exact h
theorem Br.both {c : Bool} {p q : Prop} (h : c = true → p) (k : c = false → q) : Br c p q := by
  cases c
  · exact k rfl
  · exact h rfl
theorem Br.not {c : Bool} {p q : Prop} (h : Br c q p) : Br (!c) p q := by
  cases c <;> exact h
theorem Br.ndec {a p q : Prop} [Decidable a] (h : a → q) (k : ¬a → p) : Br (!decide a) p q := Br.not (Br.dec h k)
theorem Wp.of {m : M α} {a : α} {Q : α → SD → Prop} (h : m sd = some (a, sd1)) (q : Q a sd1) : Wp m sd Q := ⟨a, sd1, h, q⟩
theorem Wp.mono {m : M α} {P Q : α → SD → Prop} (h : Wp m sd P) (k : ∀ a sd1, P a sd1 → Q a sd1) : Wp m sd Q := by
  obtain ⟨a, sd1, e, p⟩ := h
  exact ⟨a, sd1, e, k a sd1 p⟩
theorem Wp.pur {a : α} {Q : α → SD → Prop} (q : Q a sd) : Wp (Mir.pur a) sd Q := ⟨a, sd, rfl, q⟩
theorem Wp.bnd {m : M α} {k : α → M β} {Q : β → SD → Prop} (h : Wp m sd fun a sd1 => Wp (k a) sd1 Q) : Wp (Mir.bnd m k) sd Q := by
  obtain ⟨a, sd1, e, b, sd2, e2, q⟩ := h
  exact ⟨b, sd2, by rw [bnd_eq e]; exact e2, q⟩
theorem Wp.lft {o : Option α} {Q : α → SD → Prop} (h : Lf o fun a => Q a sd) : Wp (Mir.lft o) sd Q := by
  obtain ⟨a, rfl, q⟩ := h
  exact ⟨a, sd, rfl, q⟩
theorem Wp.lenIf {n k : Nat} {m : M α} {Q : α → SD → Prop} (e : n = k) (h : Wp m sd Q) : Wp (if n = k then m else fun _ => none) sd Q := by
  rw [if_pos e]; exact h
theorem Wp.var {i : Nat} {d : D} {Q : D → SD → Prop} (h : sd[i]? = some (.val d)) (q : Q d sd) : Wp (mVar i) sd Q := ⟨d, sd, mVar_eq h, q⟩
theorem Wp.varOwn {i : Nat} {c : Cell} {Q : D → SD → Prop} (h : sd[i]? = some (.own c)) (z : i ≠ 0) (a : At1 sd i (.val c.d) sd1) (q : Q c.d sd1) : Wp (mVar i) sd Q := ⟨c.d, sd1, by
  unfold mVar
  rw [h]
  show (if i = 0 then none else _) = _
  rw [if_neg z, a.eq], q⟩
theorem Wp.varOwnL {i : Nat} {xs : List D} {Q : D → SD → Prop} (h : sd[i]? = some (.own (.lst xs))) (z : i ≠ 0) (a : At1 sd i (.val (.lst xs)) sd1) (q : Q (.lst xs) sd1) : Wp (mVar i) sd Q := Wp.varOwn h z a q
theorem Wp.take {i : Nat} {c : Cell} {Q : Cell → SD → Prop} (h : sd[i]? = some (.own c)) (q : Q c sd) : Wp (mTake i) sd Q := ⟨c, sd, by unfold mTake; rw [h], q⟩
theorem Wp.takeL {i : Nat} {xs : List D} {Q : List D → SD → Prop} (h : sd[i]? = some (.own (.lst xs))) (q : Q xs sd) : Wp (mTakeL i) sd Q := ⟨xs, sd, mTakeL_eq h, q⟩
theorem Wp.put {i : Nat} {c : Cell} {Q : Unit → SD → Prop} (h : At1 sd i (.own c) sd1) (q : Q () sd1) : Wp (mPut i c) sd Q := ⟨(), sd1, by unfold mPut; rw [h.eq], q⟩
theorem Wp.set {i : Nat} {d : D} {Q : Unit → SD → Prop} (z : free0 i sd = true) (h : At1 sd i (.val d) sd1) (q : Q () sd1) : Wp (mSet i d) sd Q := ⟨(), sd1, by unfold mSet; rw [if_pos z, h.eq], q⟩
theorem Wp.op2 {f : D → D → Option D} {m n : M D} {Q : D → SD → Prop} (h : Wp m sd fun a sd1 => Wp n sd1 fun b sd2 => Lf (f a b) fun d => Q d sd2) : Wp (op2 f m n) sd Q :=
  Wp.bnd (h.mono fun _ _ h => Wp.bnd (h.mono fun _ _ h => Wp.lft h))
theorem Wp.op1 {f : D → Option D} {m : M D} {Q : D → SD → Prop} (h : Wp m sd fun a sd1 => Lf (f a) fun d => Q d sd1) : Wp (op1 f m) sd Q := Wp.bnd (h.mono fun _ _ h => Wp.lft h)
/-- .. a truth value -/
def Bl (d : D) (P : Bool → Prop) : Prop := ∃ b, d = .bl b ∧ P b
theorem Bl.ok {b : Bool} {P : Bool → Prop} (p : P b) : Bl (.bl b) P := ⟨b, rfl, p⟩
theorem Wp.asB {d : D} {Q : Bool → SD → Prop} (h : Bl d fun b => Q b sd) : Wp (Mir.lft (asB d)) sd Q := by
  obtain ⟨b, rfl, q⟩ := h
  exact ⟨b, sd, rfl, q⟩
theorem Wp.tst {m : M D} {Q : Bool → SD → Prop} (h : Wp m sd fun d sd1 => Bl d fun b => Q b sd1) : Wp (tst m) sd Q := Wp.bnd (h.mono fun _ _ h => Wp.asB h)
theorem Wp.notB {m : M Bool} {Q : Bool → SD → Prop} (h : Wp m sd fun b sd1 => Q (!b) sd1) : Wp (mNotB m) sd Q := Wp.bnd (h.mono fun _ _ h => Wp.pur h)
theorem Wp.ite {m n : M α} {b : Bool} {Q : α → SD → Prop} (h : Br b (Wp m sd Q) (Wp n sd Q)) : Wp (if b = true then m else n) sd Q := by
  cases b
  · exact h
  · exact h
theorem Wp.andB {m n : M Bool} {Q : Bool → SD → Prop} (h : Wp m sd fun b sd1 => Br b (Wp n sd1 Q) (Q false sd1)) : Wp (mAndB m n) sd Q := by
  refine Wp.bnd (h.mono fun b sd1 h => Wp.ite ?_)
  cases b
  · exact Wp.pur h
  · exact h
theorem Wp.orB {m n : M Bool} {Q : Bool → SD → Prop} (h : Wp m sd fun b sd1 => Br b (Q true sd1) (Wp n sd1 Q)) : Wp (mOrB m n) sd Q := by
  refine Wp.bnd (h.mono fun b sd1 h => Wp.ite ?_)
  cases b
  · exact h
  · exact Wp.pur h
theorem Wp.notV {m : M D} {Q : D → SD → Prop} (h : Wp m sd fun d sd1 => Bl d fun b => Q (.bl (!b)) sd1) : Wp (mNotV m) sd Q := Wp.bnd (h.mono fun _ _ h => Wp.bnd (Wp.asB (by
  obtain ⟨b, e, q⟩ := h
  exact ⟨b, e, Wp.pur q⟩)))
theorem Wp.andV {m n : M D} {Q : D → SD → Prop} (h : Wp m sd fun d sd1 => Bl d fun b => Br b (Wp n sd1 Q) (Q (.bl false) sd1)) : Wp (mAndV m n) sd Q := Wp.bnd (h.mono fun _ _ h => Wp.bnd (Wp.asB (by
  obtain ⟨b, e, q⟩ := h
  refine ⟨b, e, Wp.ite ?_⟩
  cases b
  · exact Wp.pur q
  · exact q)))
theorem Wp.orV {m n : M D} {Q : D → SD → Prop} (h : Wp m sd fun d sd1 => Bl d fun b => Br b (Q (.bl true) sd1) (Wp n sd1 Q)) : Wp (mOrV m n) sd Q := Wp.bnd (h.mono fun _ _ h => Wp.bnd (Wp.asB (by
  obtain ⟨b, e, q⟩ := h
  refine ⟨b, e, Wp.ite ?_⟩
  cases b
  · exact q
  · exact Wp.pur q)))
theorem Wp.mif {t : M Bool} {a b : M α} {Q : α → SD → Prop} (h : Wp t sd fun c sd1 => Br c (Wp a sd1 Q) (Wp b sd1 Q)) : Wp (mIf t a b) sd Q := Wp.bnd (h.mono fun _ _ h => Wp.ite h)
theorem Wp.chain {f g : D → D → Option D} {ma mb mc : M D} {Q : D → SD → Prop} (h : Wp ma sd fun x sd1 => Wp mb sd1 fun y sd2 => Lf (f x y) fun z => Bl z fun b => Br b (Wp mc sd2 fun w sd3 => Lf (g y w) fun d => Q d sd3) (Q (.bl false) sd2)) : Wp (mChain f g ma mb mc) sd Q :=
  Wp.bnd (h.mono fun _ _ h => Wp.bnd (h.mono fun _ _ h => Wp.bnd (Wp.lft (h.mono fun _ h => Wp.bnd (Wp.asB (by
    obtain ⟨b, e, q⟩ := h
    refine ⟨b, e, Wp.ite ?_⟩
    cases b
    · exact Wp.pur q
    · exact Wp.bnd (q.mono fun _ _ h => Wp.lft h)))))))
theorem Wp.nil {Q : List D → SD → Prop} (q : Q [] sd) : Wp mNil sd Q := ⟨[], sd, rfl, q⟩
theorem Wp.cons {m : M D} {n : M (List D)} {Q : List D → SD → Prop} (h : Wp m sd fun d sd1 => Wp n sd1 fun ds sd2 => Q (d :: ds) sd2) : Wp (mCons m n) sd Q := Wp.bnd (h.mono fun _ _ h => Wp.bnd (h.mono fun _ _ h => Wp.pur h))
theorem Lf.lim {n : Nat} {a : α} {P : α → Prop} (h : n ≤ 100000) (p : P a) : Lf (Mir.lim n a) P := ⟨a, by unfold Mir.lim; rw [if_pos h], p⟩
theorem Wp.tup {m : M (List D)} {Q : D → SD → Prop} (h : Wp m sd fun ds sd1 => ds.length ≤ 100000 ∧ Q (.tup ds) sd1) : Wp (mTup m) sd Q := Wp.bnd (h.mono fun _ _ h => Wp.lft (Lf.lim h.1 h.2))
theorem Wp.lst {m : M (List D)} {Q : D → SD → Prop} (h : Wp m sd fun ds sd1 => ds.length ≤ 100000 ∧ Q (.lst ds) sd1) : Wp (mLst m) sd Q := Wp.bnd (h.mono fun _ _ h => Wp.lft (Lf.lim h.1 h.2))
theorem Wp.call {g : List D → Option D} {m : M (List D)} {Q : D → SD → Prop} (h : Wp m sd fun ds sd1 => Lf (g ds) fun d => Q d sd1) : Wp (mCall g m) sd Q := Wp.bnd (h.mono fun _ _ h => Wp.lft h)
/-- behind a statement: the next one, or what was handed back -/
def Sq (n : M Out) (Q : Out → SD → Prop) (o : Out) (sd : SD) : Prop := match o with
  | .nx => Wp n sd Q
  | o => Q o sd
theorem Sq.nx {n : M Out} {Q : Out → SD → Prop} (h : Wp n sd Q) : Sq n Q .nx sd := h
theorem Sq.rt {n : M Out} {Q : Out → SD → Prop} {d : D} (h : Q (.rt d) sd) : Sq n Q (.rt d) sd := h
theorem Wp.seq {m n : M Out} {Q : Out → SD → Prop} (h : Wp m sd (Sq n Q)) : Wp (mSeq m n) sd Q := Wp.bnd (h.mono fun o sd1 h => by
  cases o
  · exact h
  · exact Wp.pur h
  · exact Wp.pur h
  · exact Wp.pur h)
theorem Wp.ret {m : M D} {Q : Out → SD → Prop} (h : Wp m sd fun d sd1 => Q (.rt d) sd1) : Wp (mRet m) sd Q := Wp.bnd (h.mono fun _ _ h => Wp.pur h)
theorem Wp.drop {m : M D} {Q : Out → SD → Prop} (h : Wp m sd fun _ sd1 => Q .nx sd1) : Wp (mDrop m) sd Q := Wp.bnd (h.mono fun _ _ h => Wp.pur h)
theorem Wp.asg {m : M D} {g : D → M Unit} {Q : Out → SD → Prop} (h : Wp m sd fun d sd1 => Wp (g d) sd1 fun _ sd2 => Q .nx sd2) : Wp (mAsg m g) sd Q := Wp.bnd (h.mono fun _ _ h => Wp.bnd (h.mono fun _ _ h => Wp.pur h))
theorem Wp.unp0 {Q : Unit → SD → Prop} (q : Q () sd) : Wp (mUnp [] []) sd Q := ⟨(), sd, rfl, q⟩
theorem Wp.unp {g : D → M Unit} {gs : List (D → M Unit)} {d : D} {ds : List D} {Q : Unit → SD → Prop} (h : Wp (g d) sd fun _ sd1 => Wp (mUnp gs ds) sd1 Q) : Wp (mUnp (g :: gs) (d :: ds)) sd Q := Wp.bnd h
theorem Wp.gtup {gs : List (D → M Unit)} {ds : List D} {Q : Unit → SD → Prop} (h : Wp (mUnp gs ds) sd Q) : Wp (mGtup gs (.tup ds)) sd Q := h
theorem Wp.fn {n : Nat} {mf : List D → Option D} {mL : M (List D)} {Q : D → SD → Prop} (h : Wp mL sd fun ds sd1 => ds.length = n ∧ Lf (mf ds) fun d => Q d sd1) : Wp (mFn n mf [] mL) sd Q := Wp.bnd (h.mono fun ds _ h => by
  rw [List.append_nil, if_pos h.1]
  exact Wp.lft h.2)
theorem Wp.fnI {n i : Nat} {c0 : Cell} {mf : Cell → List D → Option (D × Cell)} {mL : M (List D)} {Q : D → SD → Prop} (h0 : sd[i]? = some (.own c0))
    (h : Wp mL sd fun ds sd1 => ds.length = n ∧ ∃ c, sd1[i]? = some (.own c) ∧ Li (mf c ds) fun d c2 => ∃ sd2, At1 sd1 i (.own c2) sd2 ∧ Q d sd2) : Wp (mFnI n mf i [] mL) sd Q := by
  obtain ⟨ds, sd1, e, hl, c, hc, d, c2, e2, sd2, ha, q⟩ := h
  refine ⟨d, sd2, ?_, q⟩
  rw [← ha.eq]
  exact mFnI_eq h0 e hc (by rw [List.append_nil]; exact hl) (by rw [List.append_nil]; exact e2)
theorem Wp.make {n : Nat} {mf : Cell → List D → Option (D × Cell)} {cls : Str} {ds0 : List D} {mL : M (List D)} {Q : D → SD → Prop} (h : Wp mL sd fun ds sd1 => (ds ++ ds0).length = n ∧ Li (mf (.ins cls [] []) (ds ++ ds0)) fun d c => d = .non ∧ Q c.d sd1) : Wp (mMake n mf cls ds0 mL) sd Q := Wp.bnd (h.mono fun ds sd1 h => by
  obtain ⟨hl, d, c, e, hd, q⟩ := h
  subst hd
  rw [if_pos hl, e]
  exact ⟨_, sd1, rfl, q⟩)
theorem Wp.meth {n : Nat} {mf : List D → Option D} {c x : Str} {ds0 : List D} {m : M D} {mL : M (List D)} {Q : D → SD → Prop} (h : Wp m sd fun o sd1 => isC c x o = true ∧ Wp mL sd1 fun ds sd2 => (o :: (ds ++ ds0)).length = n ∧ Lf (mf (o :: (ds ++ ds0))) fun d => Q d sd2) : Wp (mMeth n mf c x ds0 m mL) sd Q := by
  obtain ⟨o, sd1, e, hk, ds, sd2, e2, hl, d, e3, q⟩ := h
  exact ⟨d, sd2, mMeth_eq e hk e2 hl e3, q⟩
theorem Wp.prop {mf : List D → Option D} {c : Str} {m : M D} {Q : D → SD → Prop} (h : Wp m sd fun o sd1 => isK c o = true ∧ Lf (mf [o]) fun d => Q d sd1) : Wp (mProp mf c m) sd Q := by
  obtain ⟨o, sd1, e, hk, d, e3, q⟩ := h
  exact ⟨d, sd1, mProp_eq e hk e3, q⟩
theorem Wp.fld {c f : Str} {m : M D} {Q : D → SD → Prop} (h : Wp m sd fun o sd1 => Lf (fldD c f o) fun d => Q d sd1) : Wp (mFld c f m) sd Q := Wp.bnd (h.mono fun _ _ h => Wp.lft h)
theorem Wp.own {i : Nat} {mL : M (List D)} {Q : Out → SD → Prop} (z : i ≠ 0) (h : Wp mL sd fun ds sd1 => ds.length ≤ 100000 ∧ ∃ sd2, At1 sd1 i (.own (.lst ds)) sd2 ∧ Q .nx sd2) : Wp (mOwn i mL) sd Q := by
  obtain ⟨ds, sd1, e, hl, sd2, ha, q⟩ := h
  exact ⟨_, sd2, by rw [← ha.eq]; exact mOwn_eq e hl z, q⟩
theorem Wp.ownC {n i : Nat} {mf : List D → Option Cell} {mL : M (List D)} {Q : Out → SD → Prop} (z : i ≠ 0) (h : Wp mL sd fun ds sd1 => ds.length = n ∧ Lf (mf ds) fun c => ∃ sd2, At1 sd1 i (.own c) sd2 ∧ Q .nx sd2) : Wp (mOwnC n mf i mL) sd Q := Wp.bnd (h.mono fun ds sd1 h => by
  obtain ⟨hl, c, e, sd2, ha, q⟩ := h
  rw [if_pos ⟨hl, z⟩]
  exact Wp.bnd (Wp.lft ⟨c, e, Wp.bnd (Wp.put ha (Wp.pur q))⟩))
theorem Wp.parO {i j : Nat} {mL : M (List D)} {mb : M D} {Q : Out → SD → Prop} (z : i ≠ 0) (h : Wp mL sd fun ds sd1 => ds.length ≤ 100000 ∧ Wp mb sd1 fun d sd2 => ∃ sd3, At1 sd2 i (.own (.lst ds)) sd3 ∧ Wp (mSet j d) sd3 fun _ sd4 => Q .nx sd4) : Wp (mParO i j mL mb) sd Q := Wp.bnd (h.mono fun ds sd1 h => Wp.bnd (Wp.lft (Lf.lim h.1 (Wp.bnd (h.2.mono fun d sd2 h => by
  obtain ⟨sd3, ha, q⟩ := h
  rw [if_pos z]
  exact Wp.bnd (Wp.put ha (Wp.bnd (q.mono fun _ _ q => Wp.pur q))))))))
theorem Wp.parO2 {i j : Nat} {mL : M (List D)} {mb : M D} {Q : Out → SD → Prop} (z : j ≠ 0) (h : Wp mb sd fun d sd1 => Wp mL sd1 fun ds sd2 => ds.length ≤ 100000 ∧ Wp (mSet i d) sd2 fun _ sd3 => ∃ sd4, At1 sd3 j (.own (.lst ds)) sd4 ∧ Q .nx sd4) : Wp (mParO2 i j mb mL) sd Q := Wp.bnd (h.mono fun d sd1 h => Wp.bnd (h.mono fun ds sd2 h => Wp.bnd (Wp.lft (Lf.lim h.1 (by
  rw [if_pos z]
  exact Wp.bnd (h.2.mono fun _ sd3 h => by
    obtain ⟨sd4, ha, q⟩ := h
    exact Wp.bnd (Wp.put ha (Wp.pur q))))))))
theorem Wp.act0 {i : Nat} {act : List D → Option (List D × D)} {xs : List D} {Q : D → SD → Prop} (h0 : sd[i]? = some (.own (.lst xs))) (h : Lf (act xs) fun r => ∃ sd1, At1 sd i (.own (.lst r.1)) sd1 ∧ Q r.2 sd1) : Wp (mAct0 i act) sd Q := by
  obtain ⟨r, e, sd1, ha, q⟩ := h
  exact Wp.bnd (Wp.takeL h0 (Wp.bnd (Wp.lft ⟨r, e, Wp.bnd (Wp.put ha (Wp.pur q))⟩)))
theorem Wp.act1 {i : Nat} {act : List D → D → Option (List D × D)} {me : M D} {xs0 : List D} {Q : D → SD → Prop} (h0 : sd[i]? = some (.own (.lst xs0)))
    (h : Wp me sd fun d sd1 => ∃ xs, sd1[i]? = some (.own (.lst xs)) ∧ Lf (act xs d) fun r => ∃ sd2, At1 sd1 i (.own (.lst r.1)) sd2 ∧ Q r.2 sd2) : Wp (mAct1 i act me) sd Q := by
  obtain ⟨d, sd1, e, xs, h1, ⟨ys, r⟩, e2, sd2, ha, q⟩ := h
  exact ⟨r, sd2, by rw [← ha.eq]; exact mAct1_eq h0 e h1 e2, q⟩
theorem Wp.append {i : Nat} {me : M D} {xs0 : List D} {Q : D → SD → Prop} (h0 : sd[i]? = some (.own (.lst xs0)))
    (h : Wp me sd fun d sd1 => ∃ xs, sd1[i]? = some (.own (.lst xs)) ∧ xs.length < 100000 ∧ ∃ sd2, At1 sd1 i (.own (.lst (xs ++ [d]))) sd2 ∧ Q .non sd2) : Wp (mAct1 i actAppend me) sd Q := Wp.act1 h0 (h.mono fun d sd1 h => by
  obtain ⟨xs, h1, hl, sd2, ha, q⟩ := h
  exact ⟨xs, h1, _, append_eq hl, sd2, ha, q⟩)
theorem Wp.item {i : Nat} {mk : M D} {xs0 : List D} {Q : D → SD → Prop} (h0 : sd[i]? = some (.own (.lst xs0)))
    (h : Wp mk sd fun k sd1 => ∃ j, k = .int j ∧ ∃ xs, sd1[i]? = some (.own (.lst xs)) ∧ Lf (atI xs j) fun d => Q d sd1) : Wp (mItem i mk) sd Q := by
  obtain ⟨k, sd1, e, j, rfl, xs, h1, d, e2, q⟩ := h
  exact ⟨d, sd1, mItem_eq h0 e h1 e2, q⟩
theorem Wp.slice {m : M D} {ml mh : M (Option Int)} {Q : D → SD → Prop} (h : Wp m sd fun d sd1 => Wp ml sd1 fun lo sd2 => Wp mh sd2 fun hi sd3 => Lf (sliceD d lo hi) fun d => Q d sd3) : Wp (mSlice m ml mh) sd Q :=
  Wp.bnd (h.mono fun _ _ h => Wp.bnd (h.mono fun _ _ h => Wp.bnd (h.mono fun _ _ h => Wp.lft h)))
theorem Wp.it {m : M D} {Q : List D → SD → Prop} (h : Wp m sd fun d sd1 => Lf (itemsD d) fun ds => Q ds sd1) : Wp (mIt m) sd Q := Wp.bnd (h.mono fun _ _ h => Wp.lft h)
theorem Wp.join {m n : M D} {Q : D → SD → Prop} (h : Wp m sd fun x sd1 => ∃ s, x = .str s ∧ Wp n sd1 fun y sd2 => Lf (joinD x y) fun d => Q d sd2) : Wp (mJoin m n) sd Q := Wp.bnd (h.mono fun x sd1 h => by
  obtain ⟨s, rfl, h⟩ := h
  exact Wp.bnd (Wp.lft (Lf.the (Wp.bnd (h.mono fun _ _ h => Wp.lft h)))))
theorem Wp.joined {m : M (List D)} {Q : D → SD → Prop} (h : Wp m sd fun ds sd1 => Lf (catS Str.empty ds) fun s => Q (.str s) sd1) : Wp (mJoined m) sd Q := Wp.bnd (h.mono fun ds sd1 h => Wp.lft (by
  obtain ⟨s, e, q⟩ := h
  exact ⟨.str s, by rw [e]; rfl, q⟩))
theorem Wp.fldSet {i : Nat} {cls f : Str} {me : M D} {Q : Out → SD → Prop} (h : Wp me sd fun d sd1 => ∃ ns xs, sd1[i]? = some (.own (.ins cls ns xs)) ∧ (f ∉ ns ∧ ns.length < 900) ∧ ∃ sd2, At1 sd1 i (.own (.ins cls (ns ++ [f]) (xs ++ [d]))) sd2 ∧ Q .nx sd2) : Wp (mFldSet i cls f me) sd Q := by
  obtain ⟨d, sd1, e, ns, xs, h0, hf, sd2, ha, q⟩ := h
  refine ⟨.nx, sd2, ?_, q⟩
  unfold mFldSet
  have t : mTake i sd1 = some (.ins cls ns xs, sd1) := by unfold mTake; rw [h0]
  rw [bnd_eq e, bnd_eq t]
  have a : asN cls (.ins cls ns xs) = some (ns, xs) := by simp [asN]
  rw [a]
  show (if _ then _ else _ : M Out) sd1 = _
  rw [if_pos hf]
  show Mir.bnd (mPut i _) _ sd1 = _
  unfold Mir.bnd mPut
  simp only [ha.eq]
  rfl
theorem Wp.fldOwn {i : Nat} {cls f : Str} {ns : List Str} {xs : List D} {Q : D → SD → Prop} (h0 : sd[i]? = some (.own (.ins cls ns xs))) (h : Lf ((ns.zip xs).lookup f) fun d => Q d sd) : Wp (mFldOwn i cls f) sd Q := by
  obtain ⟨d, e, q⟩ := h
  have a : asN cls (.ins cls ns xs) = some (ns, xs) := by simp [asN]
  exact Wp.bnd (Wp.take h0 (Wp.bnd (Wp.lft ⟨_, a, Wp.lft ⟨d, e, q⟩⟩)))
theorem Wp.methK {n nk : Nat} {mf : List D → Option D} {c x : Str} {gD : List D → List D → List D} {m : M D} {mK : M (List D)} {Q : D → SD → Prop} (h : Wp m sd fun o sd1 => isC c x o = true ∧ Wp mK sd1 fun es sd2 => (es.length = nk ∧ (gD [o] es).length = n) ∧ Lf (mf (gD [o] es)) fun d => Q d sd2) : Wp (mMethK n nk mf c x gD m mK) sd Q := Wp.bnd (h.mono fun o sd1 h => by
  rw [if_pos h.1]
  exact Wp.bnd (h.2.mono fun es sd2 h => by
    rw [if_pos h.1]
    exact Wp.lft h.2))
theorem Wp.peek {i : Nat} {c : Cell} {m : M D} {Q : D → SD → Prop} (h0 : sd[i]? = some (.own c)) (h : Wp m (peekS sd i c) fun d _ => plain d = true ∧ Q d sd) : Wp (mPeek i m) sd Q := by
  obtain ⟨d, sd1, e, hp, q⟩ := h
  refine Wp.bnd (Wp.take h0 ⟨d, sd, ?_, q⟩)
  simp only [e, hp, if_true]
theorem Wp.peekB {i : Nat} {c : Cell} {m : M Bool} {Q : Bool → SD → Prop} (h0 : sd[i]? = some (.own c)) (h : Wp m (peekS sd i c) fun d _ => Q d sd) : Wp (mPeekB i m) sd Q := by
  obtain ⟨d, sd1, e, q⟩ := h
  refine Wp.bnd (Wp.take h0 ⟨d, sd, ?_, q⟩)
  simp only [e]
theorem Wp.d1 {k : Str} {m : M D} {Q : D → SD → Prop} (h : Wp m sd fun d sd1 => Q (.dct [.inr k] [d]) sd1) : Wp (mD1 k m) sd Q := Wp.bnd (h.mono fun _ _ h => Wp.pur h)
theorem Ex.at1 {i : Nat} {s : Slot} {P : SD → Prop} (h : At1 sd i s sd1) (p : P sd1) : ∃ sd2, At1 sd i s sd2 ∧ P sd2 := ⟨sd1, h, p⟩
theorem Ex.own {i : Nat} {c : Cell} {P : Cell → Prop} (h : sd[i]? = some (.own c)) (p : P c) : ∃ c, sd[i]? = some (.own c) ∧ P c := ⟨c, h, p⟩
theorem Ex.ownL {i : Nat} {xs : List D} {P : List D → Prop} (h : sd[i]? = some (.own (.lst xs))) (p : P xs) : ∃ c, sd[i]? = some (.own (.lst c)) ∧ P c := ⟨xs, h, p⟩
theorem Ex.ownN {i : Nat} {cls : Str} {ns : List Str} {xs : List D} {P : List Str → List D → Prop} (h : sd[i]? = some (.own (.ins cls ns xs))) (p : P ns xs) : ∃ ns xs, sd[i]? = some (.own (.ins cls ns xs)) ∧ P ns xs := ⟨ns, xs, h, p⟩
theorem Ex.int {i : Int} {P : Int → Prop} (p : P i) : ∃ j, D.int i = .int j ∧ P j := ⟨i, rfl, p⟩
theorem Ex.str {i : Str} {P : Str → Prop} (p : P i) : ∃ j, D.str i = .str j ∧ P j := ⟨i, rfl, p⟩
/-! ### loops -/
def Lp (g : D → M Unit) (b : M Out) (r : List D) (Q : Out → SD → Prop) (o : Out) (sd : SD) : Prop := match o with
  | .nx => Wp (forM g b r) sd Q
  | .ct => Wp (forM g b r) sd Q
  | .bk => Q .nx sd
  | .rt d => Q (.rt d) sd
theorem Wp.for {it : M (List D)} {g : D → M Unit} {b : M Out} {Q : Out → SD → Prop} (h : Wp it sd fun ds sd1 => Wp (forM g b ds) sd1 Q) : Wp (mFor it g b) sd Q := Wp.bnd h
theorem Wp.forNil {g : D → M Unit} {b : M Out} {Q : Out → SD → Prop} (q : Q .nx sd) : Wp (forM g b []) sd Q := ⟨.nx, sd, rfl, q⟩
theorem Wp.forCons {g : D → M Unit} {b : M Out} {d : D} {r : List D} {Q : Out → SD → Prop} (h : Wp (g d) sd fun _ sd1 => Wp b sd1 (Lp g b r Q)) : Wp (forM g b (d :: r)) sd Q := Wp.bnd (h.mono fun _ sd1 h => Wp.bnd (h.mono fun o sd2 h => by
  cases o
  · exact h
  · exact Wp.pur h
  · exact Wp.pur h
  · exact h))
theorem Lp.nx {g : D → M Unit} {b : M Out} {r : List D} {Q : Out → SD → Prop} (h : Wp (forM g b r) sd Q) : Lp g b r Q .nx sd := h
theorem Lp.rt {g : D → M Unit} {b : M Out} {r : List D} {Q : Out → SD → Prop} {d : D} (h : Q (.rt d) sd) : Lp g b r Q (.rt d) sd := h
/-- a loop by what has been gone through: each turn goes on, or hands back what Q lets -/
theorem Wp.forInv {α : Type} {g : D → M Unit} {b : M Out} {Q : Out → SD → Prop} (enc : α → D) (I : List α → SD → Prop) (l : List α) (h0 : I [] sd)
    (hs : ∀ don a r sd, l = don ++ a :: r → I don sd → Wp (g (enc a)) sd fun _ sd1 => Wp b sd1 fun o sd2 => (o = .nx ∧ I (don ++ [a]) sd2) ∨ ∃ d, o = .rt d ∧ Q (.rt d) sd2)
    (he : ∀ sd, I l sd → Q .nx sd) : Wp (forM g b (l.map enc)) sd Q := by
  have main : ∀ (r don : List α) (sd : SD), l = don ++ r → I don sd → Wp (forM g b (r.map enc)) sd Q := by
    intro r
    induction r with
    | nil =>
      intro don sd e h
      rw [List.append_nil] at e
      exact Wp.forNil (he sd (by rw [e]; exact h))
    | cons a r ih =>
      intro don sd e h
      rw [List.map_cons]
      refine Wp.forCons ((hs don a r sd e h).mono fun _ sd1 h => h.mono fun o sd2 h => ?_)
      rcases h with ⟨rfl, h⟩ | ⟨d, rfl, q⟩
      · exact ih (don ++ [a]) sd2 (by rw [e]; simp) h
      · exact q
  exact main l [] sd rfl h0
/-- element by element -/
inductive Fa2 {α β : Type} (R : α → β → Prop) : List α → List β → Prop
  | nil : Fa2 R [] []
  | cons {a : α} {b : β} {l : List α} {r : List β} : R a b → Fa2 R l r → Fa2 R (a :: l) (b :: r)
/-- a comprehension: S s is how the slots stand, R what comes of an element -/
theorem compL_st {α σ : Type} {vs : List Nat} {g : D → M Unit} {t : M Bool} {e : M D} (enc : α → D) (I : σ → SD → Prop) (p : α → Bool) (R : α → D → Prop) : ∀ (l : List α) (s : σ) (sd : SD), I s sd →
    (∀ a s sd, a ∈ l → I s sd → Wp (g (enc a)) (wipeS sd vs) fun _ sd1 => Wp t sd1 fun b sd2 => b = p a ∧ Br b (Wp e sd2 fun d sd3 => R a d ∧ ∃ s', I s' sd3) (∃ s', I s' sd2)) →
    ∃ ds sd2 s', compL vs g t e (l.map enc) sd = some (ds, sd2) ∧ I s' sd2 ∧ Fa2 R (l.filter p) ds
  | [], s, sd, h, _ => ⟨[], sd, s, rfl, h, .nil⟩
  | a :: l, s, sd, h, hs => by
    obtain ⟨_, sd1, e1, b, sd2, e2, hb, h2⟩ := hs a s sd List.mem_cons_self h
    have rest := fun s sd h => compL_st (t := t) (e := e) (g := g) (vs := vs) enc I p R l s sd h fun x s sd hx => hs x s sd (List.mem_cons_of_mem _ hx)
    cases b with
    | true =>
      obtain ⟨d, sd3, e3, hd, s', h3⟩ := h2
      obtain ⟨ds, sd4, s4, e4, h4, h5⟩ := rest s' sd3 h3
      refine ⟨d :: ds, sd4, s4, ?_, h4, ?_⟩
      · rw [List.map_cons]
        show Mir.bnd (g (enc a)) _ (wipeS sd vs) = _
        rw [bnd_eq e1, bnd_eq e2, if_pos rfl, bnd_eq e3, bnd_eq e4]
        rfl
      · rw [List.filter_cons, ← hb]
        exact .cons hd h5
    | false =>
      obtain ⟨s', h3⟩ := h2
      obtain ⟨ds, sd4, s4, e4, h4, h5⟩ := rest s' sd2 h3
      refine ⟨ds, sd4, s4, ?_, h4, ?_⟩
      · rw [List.map_cons]
        show Mir.bnd (g (enc a)) _ (wipeS sd vs) = _
        rw [bnd_eq e1, bnd_eq e2]
        exact e4
      · rw [List.filter_cons, ← hb]
        exact h5
theorem fa2_map {α β : Type} {R : α → β → Prop} {f : α → β} {l : List α} {ds : List β} (h : Fa2 R l ds) (k : ∀ a d, a ∈ l → R a d → d = f a) : ds = l.map f := by
  induction h with
  | nil => rfl
  | cons h _ ih =>
    rw [List.map_cons, k _ _ List.mem_cons_self h, ih fun a d ha => k a d (List.mem_cons_of_mem _ ha)]
theorem wipe_len : ∀ (vs : List Nat) (sd : SD), (wipeS sd vs).length = sd.length
  | [], sd => rfl
  | v :: vs, sd => by
    show ((wipeS sd vs).set v .no).length = _
    rw [List.length_set, wipe_len vs sd]
theorem filt_len {α : Type} (p : α → Bool) (l : List α) : (l.filter p).length ≤ l.length := List.length_filter_le p l
/-- .. that leaves what stands in the slots, but for its own names -/
theorem Wp.comp {α : Type} {it : M (List D)} {vs : List Nat} {g : D → M Unit} {t : M Bool} {e : M D} {Q : D → SD → Prop} (enc : α → D) (p : α → Bool) (f : α → D) (l : List α)
    (hi : Wp it sd fun ds sd1 => ds = l.map enc ∧ l.length ≤ 50000 ∧ Mir.back sd1 (wipeS sd1 vs) = sd1 ∧
      (∀ a, a ∈ l → Wp (g (enc a)) (wipeS sd1 vs) fun _ sd2 => Wp t sd2 fun b sd3 => b = p a ∧ Br b (Wp e sd3 fun d sd4 => d = f a ∧ wipeS sd4 vs = wipeS sd1 vs) (wipeS sd3 vs = wipeS sd1 vs)) ∧
      Q (.lst ((l.filter p).map f)) sd1) : Wp (mComp it vs g t e) sd Q := by
  obtain ⟨ds, sd1, e1, rfl, hl, hb, hs, q⟩ := hi
  obtain ⟨ds, sd2, s', k1, k2, k3⟩ := compL_st (σ := Unit) (vs := vs) (g := g) (t := t) (e := e) enc (fun _ sd => wipeS sd vs = wipeS sd1 vs) p (fun a d => d = f a) l () sd1 rfl (by
    intro a _ sd ha h
    rw [h]
    refine (hs a ha).mono fun _ sd2 h => h.mono fun b sd3 h => ⟨h.1, ?_⟩
    cases b with
    | true => exact h.2.mono fun d sd4 h => ⟨h.1, (), h.2⟩
    | false => exact ⟨(), h.2⟩)
  have hd := fa2_map k3 fun a d _ h => h
  refine ⟨_, sd1, ?_, q⟩
  rw [mComp_eq e1 k1 (by rw [List.length_map]; exact hl), k2, hb, hd]
/-- .. whose elements change a cell: S c is how the slots stand with it, I what is known of it -/
theorem Wp.compC {α : Type} {it : M (List D)} {vs : List Nat} {g : D → M Unit} {e : M D} {Q : D → SD → Prop} (enc : α → D) (R : α → D → Prop) (I : Cell → Prop) (S : Cell → SD) (l : List α) (c0 : Cell)
    (hi : Wp it sd fun ds sd1 => ds = l.map enc ∧ l.length ≤ 50000 ∧ S c0 = sd1 ∧ I c0 ∧ (∀ c, Mir.back sd1 (wipeS (S c) vs) = S c) ∧
      (∀ a c, a ∈ l → I c → Wp (g (enc a)) (wipeS (S c) vs) fun _ sd2 => Wp e sd2 fun d sd4 => R a d ∧ ∃ c', I c' ∧ wipeS sd4 vs = wipeS (S c') vs) ∧
      (∀ ds c, Fa2 R l ds → I c → Q (.lst ds) (S c))) : Wp (mComp it vs g (Mir.pur true) e) sd Q := by
  obtain ⟨ds, sd1, e1, rfl, hl, rfl, h0, hb, hs, q⟩ := hi
  obtain ⟨ds, sd2, s', k1, ⟨k2, k3⟩, k4⟩ := compL_st (σ := Cell) (vs := vs) (g := g) (t := Mir.pur true) (e := e) enc (fun c sd => I c ∧ wipeS sd vs = wipeS (S c) vs) (fun _ => true) R l c0 (S c0) ⟨h0, rfl⟩ (by
    rintro a c sd ha ⟨hc, h⟩
    rw [h]
    refine (hs a c ha hc).mono fun _ sd2 h => Wp.pur ⟨rfl, h.mono fun d sd4 h => ⟨h.1, ?_⟩⟩
    obtain ⟨c', h1, h2⟩ := h.2
    exact ⟨c', h1, h2⟩)
  have e0 : l.filter (fun _ => true) = l := List.filter_eq_self.mpr fun _ _ => rfl
  rw [e0] at k4
  refine ⟨_, S s', ?_, q ds s' k4 k2⟩
  rw [mComp_eq e1 k1 (by rw [List.length_map]; exact hl), k3, hb]
/-! ### a def by its suite -/
theorem runP_rt {N : List Str} {m : M Out} {ds : List D} {d : D} (h0 : startS N ds = sd) (h : Wp m sd fun o _ => o = .rt d) : runP N m ds = some d := by
  obtain ⟨o, sd1, e, rfl⟩ := h
  unfold runP
  rw [h0, e]
theorem runP_nx {N : List Str} {m : M Out} {ds : List D} (h0 : startS N ds = sd) (h : Wp m sd fun o _ => o = .nx) : runP N m ds = some .non := by
  obtain ⟨o, sd1, e, rfl⟩ := h
  unfold runP
  rw [h0, e]
theorem runI_rt {N : List Str} {m : M Out} {c : Cell} {ds : List D} {P : D → Cell → Prop} (h0 : startI N c ds = sd) (h : Wp m sd fun o sd1 => ∃ d c2 r, o = .rt d ∧ sd1 = .own c2 :: r ∧ P d c2) : ∃ d c2, runI N m c ds = some (d, c2) ∧ P d c2 := by
  obtain ⟨o, sd1, e, d, c2, r, rfl, rfl, p⟩ := h
  refine ⟨d, c2, ?_, p⟩
  unfold runI
  rw [h0, e]
theorem runI_nx {N : List Str} {m : M Out} {c : Cell} {ds : List D} {P : Cell → Prop} (h0 : startI N c ds = sd) (h : Wp m sd fun o sd1 => ∃ c2 r, o = .nx ∧ sd1 = .own c2 :: r ∧ P c2) : ∃ c2, runI N m c ds = some (.non, c2) ∧ P c2 := by
  obtain ⟨o, sd1, e, c2, r, rfl, rfl, p⟩ := h
  refine ⟨c2, ?_, p⟩
  unfold runI
  rw [h0, e]
theorem runO_ok {N : List Str} {m : M Out} {mL : M (List D)} {ds : List D} {c : List D} (h0 : startS N ds = sd) (h : Wp m sd fun o sd1 => o = .nx ∧ Wp mL sd1 fun es _ => es = c ∧ c.length ≤ 100000) : runO N m mL ds = some (.lst c) := by
  obtain ⟨o, sd1, e, rfl, es, sd2, e2, rfl, hl⟩ := h
  unfold runO
  rw [h0]
  simp only [e, e2]
  unfold lim
  rw [if_pos hl]
/-! ### operations -/
theorem Lf.add {i j : Int} {P : D → Prop} (p : P (.int (i + j))) : Lf (addD (.int i) (.int j)) P := ⟨_, rfl, p⟩
theorem Lf.addL {xs ys : List D} {P : D → Prop} (h : xs.length + ys.length ≤ 100000) (p : P (.lst (xs ++ ys))) : Lf (addD (.lst xs) (.lst ys)) P := Lf.lim h p
theorem Lf.addT {xs ys : List D} {P : D → Prop} (h : xs.length + ys.length ≤ 100000) (p : P (.tup (xs ++ ys))) : Lf (addD (.tup xs) (.tup ys)) P := Lf.lim h p
theorem Lf.addS {x y : Str} {P : D → Prop} (h : x.length + y.length ≤ 100000) (p : P (.str (x ++ y))) : Lf (addD (.str x) (.str y)) P := Lf.lim h p
theorem Lf.sub {i j : Int} {P : D → Prop} (p : P (.int (i - j))) : Lf (subD (.int i) (.int j)) P := ⟨_, rfl, p⟩
theorem Lf.mul {i j : Int} {P : D → Prop} (h : i.natAbs < big ∧ j.natAbs < big) (p : P (.int (i * j))) : Lf (mulD (.int i) (.int j)) P := ⟨_, if_pos h, p⟩
theorem Lf.mod {i j : Int} {P : D → Prop} (h : 0 < j) (p : P (.int (i % j))) : Lf (modD (.int i) (.int j)) P := ⟨_, if_pos h, p⟩
theorem Lf.div {i j : Int} {P : D → Prop} (h : 0 < j ∧ j.natAbs < big) (p : P (.int (i / j))) : Lf (divD (.int i) (.int j)) P := ⟨_, if_pos h, p⟩
theorem Lf.neg {i : Int} {P : D → Prop} (p : P (.int (-i))) : Lf (negD (.int i)) P := ⟨_, rfl, p⟩
theorem Lf.lt {i j : Int} {P : D → Prop} (p : P (.bl (decide (i < j)))) : Lf (ltD (.int i) (.int j)) P := ⟨_, rfl, p⟩
theorem Lf.le {i j : Int} {P : D → Prop} (p : P (.bl (decide (i ≤ j)))) : Lf (leD (.int i) (.int j)) P := ⟨_, rfl, p⟩
theorem Lf.gt {i j : Int} {P : D → Prop} (p : P (.bl (decide (j < i)))) : Lf (gtD (.int i) (.int j)) P := ⟨_, rfl, p⟩
theorem Lf.ge {i j : Int} {P : D → Prop} (p : P (.bl (decide (j ≤ i)))) : Lf (geD (.int i) (.int j)) P := ⟨_, rfl, p⟩
theorem Lf.eqI {i j : Int} {P : D → Prop} (p : P (.bl (decide (i = j)))) : Lf (eqD (.int i) (.int j)) P := ⟨_, eqD_int, p⟩
theorem neD_int {a b : Int} : neD (.int a) (.int b) = some (.bl (!decide (a = b))) := by
  simp [neD, pyD, PyData.eqv]
  rfl
theorem Lf.neI {i j : Int} {P : D → Prop} (p : P (.bl (!decide (i = j)))) : Lf (neD (.int i) (.int j)) P := ⟨_, neD_int, p⟩
theorem eqD_bl {a b : Bool} : eqD (.bl a) (.bl b) = some (.bl (a == b)) := by
  simp only [eqD, pyD]
  cases a <;> cases b <;> rfl
theorem neD_bl {a b : Bool} : neD (.bl a) (.bl b) = some (.bl (a != b)) := by
  simp only [neD, pyD]
  cases a <;> cases b <;> rfl
theorem Lf.eqB {i j : Bool} {P : D → Prop} (p : P (.bl (i == j))) : Lf (eqD (.bl i) (.bl j)) P := ⟨_, eqD_bl, p⟩
theorem Lf.neB {i j : Bool} {P : D → Prop} (p : P (.bl (i != j))) : Lf (neD (.bl i) (.bl j)) P := ⟨_, neD_bl, p⟩
theorem Lf.lenL {xs : List D} {P : D → Prop} (p : P (.int (xs.length : Int))) : Lf (lenD [.lst xs]) P := ⟨_, rfl, p⟩
theorem Lf.lenT {xs : List D} {P : D → Prop} (p : P (.int (xs.length : Int))) : Lf (lenD [.tup xs]) P := ⟨_, rfl, p⟩
theorem Lf.lenC {xs : List Int} {P : D → Prop} (p : P (.int (xs.length : Int))) : Lf (lenD [.scr xs]) P := ⟨_, rfl, p⟩
theorem Lf.itL {xs : List D} {P : List D → Prop} (p : P xs) : Lf (itemsD (.lst xs)) P := ⟨_, rfl, p⟩
theorem Lf.itT {xs : List D} {P : List D → Prop} (p : P xs) : Lf (itemsD (.tup xs)) P := ⟨_, rfl, p⟩
theorem Lf.abs {i : Int} {P : D → Prop} (p : P (.int (if i < 0 then -i else i))) : Lf (absD [.int i]) P := ⟨_, rfl, p⟩
theorem Lf.max {i j : Int} {P : D → Prop} (p : P (.int (if j > i then j else i))) : Lf (maxD [.int i, .int j]) P := ⟨_, rfl, p⟩
theorem Lf.min {i j : Int} {P : D → Prop} (p : P (.int (if j < i then j else i))) : Lf (minD [.int i, .int j]) P := ⟨_, rfl, p⟩
theorem Lf.intI {i : Int} {P : D → Prop} (p : P (.int i)) : Lf (intD [.int i]) P := ⟨_, rfl, p⟩
theorem Lf.toL {xs : List D} {P : D → Prop} (p : P (.lst xs)) : Lf (listD [.lst xs]) P := ⟨_, rfl, p⟩
theorem Lf.toL2 {xs : List D} {P : D → Prop} (p : P (.lst xs)) : Lf (listD [.tup xs]) P := ⟨_, rfl, p⟩
theorem Lf.toT {xs : List D} {P : D → Prop} (p : P (.tup xs)) : Lf (tupleD [.lst xs]) P := ⟨_, rfl, p⟩
theorem Lf.toT2 {xs : List D} {P : D → Prop} (p : P (.tup xs)) : Lf (tupleD [.tup xs]) P := ⟨_, rfl, p⟩
theorem Lf.rng1 {j : Int} {P : List D → Prop} (h : 0 ≤ j ∧ j < 1000000) (p : P ((List.range j.toNat).map fun i : Nat => D.int (i : Int))) : Lf (rng1D [.int j]) P := ⟨_, rng1_int h.1 h.2, p⟩
theorem Lf.at0 {α : Type} {x : α} {xs : List α} {P : α → Prop} (p : P x) : Lf (atI (x :: xs) 0) P := ⟨_, atI_0, p⟩
theorem Lf.at1 {α : Type} {x y : α} {xs : List α} {P : α → Prop} (p : P y) : Lf (atI (x :: y :: xs) 1) P := ⟨_, atI_1, p⟩
theorem Lf.at2 {α : Type} {x y z : α} {xs : List α} {P : α → Prop} (p : P z) : Lf (atI (x :: y :: z :: xs) 2) P := ⟨_, atI_2, p⟩
theorem Lf.ixL {xs : List D} {i : Int} {P : D → Prop} (h : Lf (atI xs i) P) : Lf (ixD (.lst xs) (.int i)) P := h
theorem Lf.ixT {xs : List D} {i : Int} {P : D → Prop} (h : Lf (atI xs i) P) : Lf (ixD (.tup xs) (.int i)) P := h
theorem Lf.slL {xs : List D} {lo hi : Option Int} {P : D → Prop} (p : P (.lst (cutD xs lo hi))) : Lf (sliceD (.lst xs) lo hi) P := ⟨_, rfl, p⟩
theorem Lf.slT {xs : List D} {lo hi : Option Int} {P : D → Prop} (p : P (.tup (cutD xs lo hi))) : Lf (sliceD (.tup xs) lo hi) P := ⟨_, rfl, p⟩
theorem Lf.asI {i : Int} {P : Int → Prop} (p : P i) : Lf (Mir.asI (.int i)) P := ⟨_, rfl, p⟩
theorem Lf.truL {xs : List D} {P : Bool → Prop} (p : P (!xs.isEmpty)) : Lf (truD (.lst xs)) P := ⟨_, rfl, p⟩
theorem Lf.truB {b : Bool} {P : Bool → Prop} (p : P b) : Lf (truD (.bl b)) P := ⟨_, rfl, p⟩
theorem blsD_map (l : List Bool) : blsD (l.map D.bl) = some l := by
  induction l with
  | nil => rfl
  | cons b l ih => simp [blsD, ih]
theorem Lf.all {α : Type} {f : α → Bool} {l : List α} {P : D → Prop} (p : P (.bl (l.all f))) : Lf (allD [.lst (l.map fun a => D.bl (f a))]) P := by
  refine ⟨_, ?_, p⟩
  have := blsD_map (l.map f)
  rw [List.map_map] at this
  show (blsD (l.map (D.bl ∘ f))).map _ = _
  rw [this]
  simp
theorem Lf.any {α : Type} {f : α → Bool} {l : List α} {P : D → Prop} (p : P (.bl (l.any f))) : Lf (anyD [.lst (l.map fun a => D.bl (f a))]) P := by
  refine ⟨_, ?_, p⟩
  have := blsD_map (l.map f)
  rw [List.map_map] at this
  show (blsD (l.map (D.bl ∘ f))).map _ = _
  rw [this]
  simp
theorem intsD_map (l : List Int) : intsD (l.map D.int) = some l := by
  induction l with
  | nil => rfl
  | cons b l ih => simp [intsD, ih]
end Mir
set_option linter.all false
set_option maxRecDepth 100000
namespace Mir
open PySem L2
/-! ### small data: as the interpreter has it, its text -/
mutual
def py : D → PyData
  | .non => .none
  | .bl b => .bool b
  | .int i => .int i
  | .str x => .str x
  | .lst xs => .list (pys xs)
  | .tup xs => .tuple (pys xs)
  | .dct _ _ => .dict []
  | _ => .none
def pys : List D → List PyData
  | [] => []
  | x :: xs => py x :: pys xs
end
mutual
/-- ints below 10 ** 90, texts, lists, tuples, the empty dict -/
def sm : D → Bool
  | .non => true
  | .bl _ => true
  | .int i => decide (i.natAbs < 10 ^ 90)
  | .str x => PyData.strOk x
  | .lst xs => sml xs
  | .tup xs => sml xs
  | .dct ks xs => ks.isEmpty && xs.isEmpty
  | _ => false
def sml : List D → Bool
  | [] => true
  | x :: xs => sm x && sml xs
end
mutual
/-- what == and != read, but for truths -/
def se : D → Bool
  | .non => true
  | .int _ => true
  | .str x => PyData.strOk x
  | .lst xs => sel xs
  | .tup xs => sel xs
  | _ => false
def sel : List D → Bool
  | [] => true
  | x :: xs => se x && sel xs
end
mutual
def dp : D → Nat
  | .lst xs => dpl xs + 1
  | .tup xs => dpl xs + 1
  | .dct _ _ => 1
  | _ => 0
def dpl : List D → Nat
  | [] => 0
  | x :: xs => max (dp x) (dpl xs)
end
mutual
def wt : D → Nat
  | .str x => x.length
  | .lst xs => wtl xs
  | .tup xs => wtl xs
  | _ => 0
def wtl : List D → Nat
  | [] => 0
  | x :: xs => wt x + 1 + wtl xs
end
theorem okS_of {x : Str} (h : PyData.strOk x = true) : okS x := by
  unfold PyData.strOk at h
  rw [← Array.all_toList, List.all_eq_true] at h
  intro c hc
  simpa using h c hc
theorem strOk_of {x : Str} (h : okS x) : PyData.strOk x = true := okS_ok h
theorem int_short {i : Int} (h : i.natAbs < 10 ^ 90) : PyData.showable (.int i) = true ∧ (PyData.shown (.int i)).length ≤ 91 := by
  have h2 := int_text_length_le10 (k := 90) (by decide) h
  have e : (PyData.shown (.int i)).length = (toString i).length := ofString_length _
  refine ⟨?_, by omega⟩
  have : i.natAbs.log2 < 1920 := by
    by_cases z : i.natAbs = 0
    · rw [z]; decide
    · rw [Nat.log2_lt z]
      exact Nat.lt_of_lt_of_le h (Nat.le_trans (show 10 ^ 90 ≤ 2 ^ 300 by decide +kernel) (Nat.pow_le_pow_right (by decide) (by decide)))
  simpa [PyData.showable] using this
/-! the text of a text -/
theorem hex_ok (n : Nat) : ∀ d ∈ (Nat.toDigits 16 n).map Char.toNat, d < 0x110000 := by
  intro d hd
  obtain ⟨c, _, rfl⟩ := List.mem_map.mp hd
  have h := c.valid
  have e : c.toNat = c.val.toNat := rfl
  rw [e]
  rcases h with h | h
  · exact Nat.lt_trans h (by decide)
  · exact h.2
theorem reprChar_ok (q c : Nat) (hc : c < 0x110000) : ∀ d ∈ Builtin.Str.reprChar q c, d < 0x110000 := by
  intro d hd
  unfold Builtin.Str.reprChar at hd
  have rp : ∀ k : Nat, ∀ d ∈ List.replicate k 48 ++ (Nat.toDigits 16 c).map Char.toNat, d < 0x110000 := by
    intro k d hd
    rcases List.mem_append.mp hd with h | h
    · rw [(List.mem_replicate.mp h).2]; decide
    · exact hex_ok c d h
  have tw : ∀ a b : Nat, a < 0x110000 → b < 0x110000 → ∀ k, d ∈ [a, b] ++ (List.replicate k 48 ++ (Nat.toDigits 16 c).map Char.toNat) → d < 0x110000 := by
    intro a b ha hb k h
    rcases List.mem_append.mp h with h | h
    · simp only [List.mem_cons, List.not_mem_nil, or_false] at h
      rcases h with rfl | rfl <;> assumption
    · exact rp k d h
  dsimp only at hd
  repeat' split at hd
  all_goals first
    | exact tw _ _ (by decide) (by decide) _ hd
    | (simp only [List.mem_cons, List.not_mem_nil, or_false] at hd
       first | (rcases hd with rfl | rfl <;> first | assumption | decide) | (subst hd; exact hc))
theorem foldl_ok (q : Nat) : ∀ (l : List Nat) (acc : Array Nat), (∀ c ∈ l, c < 0x110000) → (∀ c ∈ acc.toList, c < 0x110000) → ∀ c ∈ (l.foldl (fun out c => out ++ (Builtin.Str.reprChar q c).toArray) acc).toList, c < 0x110000
  | [], acc, _, ha => ha
  | c :: r, acc, h, ha => by
    rw [List.foldl_cons]
    refine foldl_ok q r _ (fun d hd => h d (List.mem_cons_of_mem _ hd)) ?_
    intro d hd
    rw [Array.toList_append, List.mem_append] at hd
    rcases hd with hd | hd
    · exact ha d hd
    · exact reprChar_ok q c (h c List.mem_cons_self) d (by simpa using hd)
theorem okS_repr {x : Str} (h : okS x) : okS (reprText x) := by
  have q : reprQuote x < 0x110000 := by
    unfold reprQuote
    split <;> decide
  intro c hc
  unfold reprText at hc
  dsimp only at hc
  rw [Array.toList_push, ← Array.foldl_toList, List.mem_append] at hc
  rcases hc with hc | hc
  · refine foldl_ok _ _ _ h ?_ c hc
    intro d hd
    simp only [List.mem_cons, List.not_mem_nil, or_false] at hd
    subst hd
    exact q
  · simp only [List.mem_cons, List.not_mem_nil, or_false] at hc
    subst hc
    exact q
mutual
theorem sm_ok : ∀ d : D, sm d = true → (py d).showable = true ∧ (py d).leavesShort 91 = true ∧ okS (py d).shown ∧ (py d).depth = dp d ∧ (py d).bulk = wt d
  | .non, _ => ⟨rfl, rfl, okS_str _, rfl, rfl⟩
  | .bl b, _ => ⟨rfl, rfl, by cases b <;> exact okS_str _, rfl, rfl⟩
  | .int i, h => by
    obtain ⟨h1, h2⟩ := int_short (i := i) (by simpa [sm] using h)
    refine ⟨h1, ?_, okS_str _, rfl, rfl⟩
    show PyData.leavesShort 91 (.int i) = true
    unfold PyData.leavesShort
    exact decide_eq_true h2
  | .str x, h => by
    have h' : PyData.strOk x = true := by simpa [sm] using h
    have h1 := okS_of h'
    refine ⟨rfl, ?_, ?_, rfl, rfl⟩
    · show PyData.leavesShort 91 (.str x) = true
      unfold PyData.leavesShort
      rw [List.all_eq_true]
      intro c hc
      exact decide_eq_true (Nat.lt_trans (h1 c hc) (by decide))
    · show okS (PyData.shown (.str x))
      rw [PyData.shown_str]
      exact okS_repr h1
  | .lst xs, h => by
    obtain ⟨h1, h2, h3, h4, h5⟩ := sml_ok xs (by simpa [sm] using h)
    refine ⟨by simpa [py, PyData.showable] using h1, by simpa [py, PyData.leavesShort] using h2, ?_, by simp [py, PyData.depth, dp, h4], by simp [py, PyData.bulk, wt, h5]⟩
    show okS (listText (PyData.shownAll (pys xs)))
    exact okS_app (okS_from _ _ _ (okS_str _) h3) (okS_str _)
  | .tup xs, h => by
    obtain ⟨h1, h2, h3, h4, h5⟩ := sml_ok xs (by simpa [sm] using h)
    refine ⟨by simpa [py, PyData.showable] using h1, by simpa [py, PyData.leavesShort] using h2, ?_, by simp [py, PyData.depth, dp, h4], by simp [py, PyData.bulk, wt, h5]⟩
    show okS (tupleText (PyData.shownAll (pys xs)))
    exact okS_app (okS_app (okS_str _) (okS_join _ h3)) (okS_str _)
  | .dct ks xs, h => ⟨rfl, rfl, okS_app (okS_from [] 0 _ (okS_str _) fun t ht => by cases ht) (okS_str _), rfl, rfl⟩
  | .ins _ _ _, h => by simp [sm] at h
  | .scr _, h => by simp [sm] at h
  | .ty _, h => by simp [sm] at h
  | .cls _, h => by simp [sm] at h
  | .exn _ _ _, h => by simp [sm] at h
  | .hot _ _ _ _ _ _, h => by simp [sm] at h
theorem sml_ok : ∀ xs : List D, sml xs = true → PyData.showableAll (pys xs) = true ∧ PyData.leavesShortAll 91 (pys xs) = true ∧ (∀ t ∈ PyData.shownAll (pys xs), okS t) ∧ PyData.depthAll (pys xs) = dpl xs ∧ PyData.bulkAll (pys xs) = wtl xs
  | [], _ => ⟨rfl, rfl, fun t ht => by simp [pys, PyData.shownAll] at ht, rfl, rfl⟩
  | x :: xs, h => by
    have h' : sm x = true ∧ sml xs = true := by simpa [sml] using h
    obtain ⟨a1, a2, a3, a4, a5⟩ := sm_ok x h'.1
    obtain ⟨b1, b2, b3, b4, b5⟩ := sml_ok xs h'.2
    refine ⟨by simp [pys, PyData.showableAll, a1, b1], by simp [pys, PyData.leavesShortAll, a2, b2], fun t ht => ?_, by simp [pys, PyData.depthAll, dpl, a4, b4], by simp [pys, PyData.bulkAll, wtl, a5, b5]⟩
    rw [pys, PyData.shownAll, List.mem_cons] at ht
    rcases ht with rfl | ht
    · exact a3
    · exact b3 t ht
end
mutual
theorem pyE_sm : ∀ (d : D) (n : Nat), sm d = true → dp d ≤ n → pyE n d = some (py d)
  | .non, n, _, _ => by cases n <;> rfl
  | .bl b, n, _, _ => by cases n <;> rfl
  | .int i, n, _, _ => by cases n <;> rfl
  | .str x, n, _, _ => by cases n <;> rfl
  | .lst xs, n, h, hd => by
    cases n with
    | zero => simp [dp] at hd
    | succ n => simp [pyE, py, pyEL_sm xs n (by simpa [sm] using h) (by simpa [dp] using hd)]
  | .tup xs, n, h, hd => by
    cases n with
    | zero => simp [dp] at hd
    | succ n => simp [pyE, py, pyEL_sm xs n (by simpa [sm] using h) (by simpa [dp] using hd)]
  | .dct ks xs, n, h, hd => by
    have h' : ks = [] ∧ xs = [] := by simpa [sm] using h
    obtain ⟨rfl, rfl⟩ := h'
    cases n with
    | zero => simp [dp] at hd
    | succ n => simp [pyE, pyEL, py]
  | .ins _ _ _, n, h, _ => by simp [sm] at h
  | .scr _, n, h, _ => by simp [sm] at h
  | .ty _, n, h, _ => by simp [sm] at h
  | .cls _, n, h, _ => by simp [sm] at h
  | .exn _ _ _, n, h, _ => by simp [sm] at h
  | .hot _ _ _ _ _ _, n, h, _ => by simp [sm] at h
theorem pyEL_sm : ∀ (xs : List D) (n : Nat), sml xs = true → dpl xs ≤ n → pyEL n xs = some (pys xs)
  | [], n, _, _ => by cases n <;> rfl
  | x :: xs, n, h, hd => by
    have h' : sm x = true ∧ sml xs = true := by simpa [sml] using h
    have hd' : dp x ≤ n ∧ dpl xs ≤ n := by simp only [dpl] at hd; omega
    have e1 := pyE_sm x n h'.1 hd'.1
    have e2 := pyEL_sm xs n h'.2 hd'.2
    cases n <;> simp [pyEL, pys, e1, e2]
end
mutual
theorem pyD_se : ∀ (d : D) (n : Nat), se d = true → dp d ≤ n → pyD n d = some (py d)
  | .non, n, _, _ => by cases n <;> rfl
  | .int i, n, _, _ => by cases n <;> rfl
  | .str x, n, h, _ => by
    have h' : PyData.canLay0 (.str x) = true := by simpa [se, PyData.canLay0] using h
    cases n <;> simp [pyD, py, h']
  | .lst xs, n, h, hd => by
    cases n with
    | zero => simp [dp] at hd
    | succ n => simp [pyD, py, pyL_sel xs n (by simpa [se] using h) (by simpa [dp] using hd)]
  | .tup xs, n, h, hd => by
    cases n with
    | zero => simp [dp] at hd
    | succ n => simp [pyD, py, pyL_sel xs n (by simpa [se] using h) (by simpa [dp] using hd)]
  | .bl _, n, h, _ => by simp [se] at h
  | .dct _ _, n, h, _ => by simp [se] at h
  | .ins _ _ _, n, h, _ => by simp [se] at h
  | .scr _, n, h, _ => by simp [se] at h
  | .ty _, n, h, _ => by simp [se] at h
  | .cls _, n, h, _ => by simp [se] at h
  | .exn _ _ _, n, h, _ => by simp [se] at h
  | .hot _ _ _ _ _ _, n, h, _ => by simp [se] at h
theorem pyL_sel : ∀ (xs : List D) (n : Nat), sel xs = true → dpl xs ≤ n → pyL n xs = some (pys xs)
  | [], n, _, _ => by cases n <;> rfl
  | x :: xs, n, h, hd => by
    have h' : se x = true ∧ sel xs = true := by simpa [sel] using h
    have hd' : dp x ≤ n ∧ dpl xs ≤ n := by simp only [dpl] at hd; omega
    have e1 := pyD_se x n h'.1 hd'.1
    have e2 := pyL_sel xs n h'.2 hd'.2
    cases n <;> simp [pyL, pys, e1, e2]
end
mutual
theorem eqv_se : ∀ d e : D, se d = true → se e = true → (PyData.eqv (py d) (py e) = true ↔ d = e)
  | .lst xs, .lst ys, h, k => by
    have := eqv_sel xs ys (by simpa [se] using h) (by simpa [se] using k)
    simpa [py, PyData.eqv] using this
  | .tup xs, .tup ys, h, k => by
    have := eqv_sel xs ys (by simpa [se] using h) (by simpa [se] using k)
    simpa [py, PyData.eqv] using this
  | .int i, .int j, _, _ => by simp [py, PyData.eqv]
  | .str x, .str y, _, _ => by simp [py, PyData.eqv]
  | .non, .non, _, _ => by simp [py, PyData.eqv]
  | .non, .int _, _, _ => by simp [py, PyData.eqv]
  | .non, .str _, _, _ => by simp [py, PyData.eqv]
  | .non, .lst _, _, _ => by simp [py, PyData.eqv]
  | .non, .tup _, _, _ => by simp [py, PyData.eqv]
  | .int _, .non, _, _ => by simp [py, PyData.eqv]
  | .int _, .str _, _, _ => by simp [py, PyData.eqv]
  | .int _, .lst _, _, _ => by simp [py, PyData.eqv]
  | .int _, .tup _, _, _ => by simp [py, PyData.eqv]
  | .str _, .non, _, _ => by simp [py, PyData.eqv]
  | .str _, .int _, _, _ => by simp [py, PyData.eqv]
  | .str _, .lst _, _, _ => by simp [py, PyData.eqv]
  | .str _, .tup _, _, _ => by simp [py, PyData.eqv]
  | .lst _, .non, _, _ => by simp [py, PyData.eqv]
  | .lst _, .int _, _, _ => by simp [py, PyData.eqv]
  | .lst _, .str _, _, _ => by simp [py, PyData.eqv]
  | .lst _, .tup _, _, _ => by simp [py, PyData.eqv]
  | .tup _, .non, _, _ => by simp [py, PyData.eqv]
  | .tup _, .int _, _, _ => by simp [py, PyData.eqv]
  | .tup _, .str _, _, _ => by simp [py, PyData.eqv]
  | .tup _, .lst _, _, _ => by simp [py, PyData.eqv]
  | .bl _, _, h, _ => by simp [se] at h
  | .dct _ _, _, h, _ => by simp [se] at h
  | .ins _ _ _, _, h, _ => by simp [se] at h
  | .scr _, _, h, _ => by simp [se] at h
  | .ty _, _, h, _ => by simp [se] at h
  | .cls _, _, h, _ => by simp [se] at h
  | .exn _ _ _, _, h, _ => by simp [se] at h
  | .hot _ _ _ _ _ _, _, h, _ => by simp [se] at h
  | _, .bl _, _, h => by simp [se] at h
  | _, .dct _ _, _, h => by simp [se] at h
  | _, .ins _ _ _, _, h => by simp [se] at h
  | _, .scr _, _, h => by simp [se] at h
  | _, .ty _, _, h => by simp [se] at h
  | _, .cls _, _, h => by simp [se] at h
  | _, .exn _ _ _, _, h => by simp [se] at h
  | _, .hot _ _ _ _ _ _, _, h => by simp [se] at h
theorem eqv_sel : ∀ xs ys : List D, sel xs = true → sel ys = true → (PyData.eqvAll (pys xs) (pys ys) = true ↔ xs = ys)
  | [], [], _, _ => by simp [pys, PyData.eqvAll]
  | [], _ :: _, _, _ => by simp [pys, PyData.eqvAll]
  | _ :: _, [], _, _ => by simp [pys, PyData.eqvAll]
  | x :: xs, y :: ys, h, k => by
    have h' : se x = true ∧ sel xs = true := by simpa [sel] using h
    have k' : se y = true ∧ sel ys = true := by simpa [sel] using k
    have e1 := eqv_se x y h'.1 k'.1
    have e2 := eqv_sel xs ys h'.2 k'.2
    simp only [pys, PyData.eqvAll, Bool.and_eq_true, e1, e2, List.cons.injEq]
end
/-! equal, as a truth -/
noncomputable def eqB (d e : D) : Bool := @decide (d = e) (Classical.propDecidable _)
theorem eqB_iff {d e : D} : eqB d e = true ↔ d = e := by
  unfold eqB
  exact @decide_eq_true_iff _ (Classical.propDecidable _)
theorem eqB_self (d : D) : eqB d d = true := eqB_iff.mpr rfl
theorem eqB_comm (d e : D) : eqB d e = eqB e d := by
  rw [Bool.eq_iff_iff, eqB_iff, eqB_iff]
  exact eq_comm
theorem eqB_ne {d e : D} (h : d ≠ e) : eqB d e = false := by
  cases z : eqB d e with
  | false => rfl
  | true => exact absurd (eqB_iff.mp z) h
theorem eqB_of {d e : D} {b : Bool} (h : b = true ↔ d = e) : eqB d e = b := by
  rw [Bool.eq_iff_iff, eqB_iff]
  exact h.symm
/-- nested at most twelve deep -/
def Se (d : D) : Prop := se d = true ∧ dp d ≤ 12
theorem eqD_se {d e : D} (h : Se d) (k : Se e) : eqD d e = some (.bl (eqB d e)) := by
  unfold eqD
  rw [pyD_se d 12 h.1 h.2, pyD_se e 12 k.1 k.2]
  have : PyData.eqv (py d) (py e) = eqB d e := by rw [Bool.eq_iff_iff, eqv_se d e h.1 k.1, eqB_iff]
  exact congrArg (fun b => some (D.bl b)) this
theorem neD_se {d e : D} (h : Se d) (k : Se e) : neD d e = some (.bl (!eqB d e)) := by
  unfold neD
  rw [pyD_se d 12 h.1 h.2, pyD_se e 12 k.1 k.2]
  have : PyData.eqv (py d) (py e) = eqB d e := by rw [Bool.eq_iff_iff, eqv_se d e h.1 k.1, eqB_iff]
  exact congrArg (fun b => some (D.bl (!b))) this
/-- small enough to be shown -/
def Sm (d : D) : Prop := sm d = true ∧ dp d ≤ 12 ∧ wt d ≤ 1000
noncomputable def shD (d : D) : Str := (py d).shown
theorem reprX_sm {d : D} (h : Sm d) : reprX [d] = some (.str (shD d)) := by
  obtain ⟨h1, h2, h3, h4, h5⟩ := sm_ok d h.1
  have h6 := PyData.shown_le_bulk 91 (by decide) (py d) h2
  show (match pyE 12 d with
      | some p => if p.showable = true ∧ p.depth ≤ 40 ∧ p.shown.length ≤ 100000 then some (D.str p.shown) else none
      | none => none) = _
  rw [pyE_sm d 12 h.1 h.2.1]
  refine if_pos ⟨h1, by rw [h4]; have := h.2.1; omega, ?_⟩
  rw [h5] at h6
  have := h.2.2
  omega
theorem shD_ok {d : D} (h : Sm d) : okS (shD d) := (sm_ok d h.1).2.2.1
theorem shD_len {d : D} (h : Sm d) : (shD d).length ≤ 93 * wt d + 91 := by
  obtain ⟨h1, h2, h3, h4, h5⟩ := sm_ok d h.1
  have h6 := PyData.shown_le_bulk 91 (by decide) (py d) h2
  rw [h5] at h6
  exact h6
theorem Se.str {x : Str} (h : okS x) : Se (.str x) := ⟨by unfold se; exact strOk_of h, by unfold dp; omega⟩
theorem Se.int {i : Int} : Se (.int i) := ⟨rfl, by unfold dp; omega⟩
theorem Se.non : Se .non := ⟨rfl, by unfold dp; omega⟩
end Mir
set_option linter.all false
set_option maxRecDepth 100000
namespace Mir
open PySem L2
variable {α β : Type} {sd sd1 sd2 : SD}
/-! ### more rules -/
inductive App {α : Type} : List α → List α → List α → Prop
  | nil {ys : List α} : App [] ys ys
  | cons {x : α} {xs ys zs : List α} : App xs ys zs → App (x :: xs) ys (x :: zs)
theorem App.eq {α : Type} {xs ys zs : List α} (h : App xs ys zs) : xs ++ ys = zs := by
  induction h with
  | nil => rfl
  | cons _ ih => rw [List.cons_append, ih]
theorem App.refl {α : Type} : ∀ {xs ys : List α}, App xs ys (xs ++ ys)
  | [], _ => .nil
  | x :: xs, ys => .cons (App.refl (xs := xs))
theorem Ex.app {xs ys zs : List D} {P : List D → Prop} (h : App xs ys zs) (p : P zs) : ∃ zs, App xs ys zs ∧ P zs := ⟨zs, h, p⟩
theorem Wp.methV {mf : List D → Option D} {c x : Str} {m : M D} {mL : M (List D)} {Q : D → SD → Prop} (h : Wp m sd fun o sd1 => isC c x o = true ∧ Wp mL sd1 fun ds sd2 => Lf (mf (o :: ds)) fun d => Q d sd2) : Wp (mMethV mf c x m mL) sd Q := Wp.bnd (h.mono fun o sd1 h => by
  rw [if_pos h.1]
  exact Wp.bnd (h.2.mono fun _ _ h => Wp.lft h))
theorem Wp.makeV {mi : Cell → List D → Option (D × Cell)} {c : Str} {mL : M (List D)} {Q : D → SD → Prop} (h : Wp mL sd fun ds sd1 => Li (mi (.ins c [] []) ds) fun d c => d = .non ∧ Q c.d sd1) : Wp (mMakeV mi c mL) sd Q := Wp.bnd (h.mono fun ds sd1 h => by
  obtain ⟨d, c, e, rfl, q⟩ := h
  rw [e]
  exact Wp.pur q)
theorem Wp.kw {n : Nat} {mL mK : M (List D)} {Q : List D → SD → Prop} (h : Wp mL sd fun ds sd1 => Wp mK sd1 fun es sd2 => es.length = n ∧ ∃ zs, App ds es zs ∧ Q zs sd2) : Wp (mKw n mL mK) sd Q := Wp.bnd (h.mono fun ds sd1 h => Wp.bnd (h.mono fun es sd2 h => by
  obtain ⟨hl, zs, e, q⟩ := h
  rw [if_pos hl, e.eq]
  exact Wp.pur q))
theorem Wp.star {me : M D} {mL : M (List D)} {Q : List D → SD → Prop} (h : Wp me sd fun d sd1 => Lf (itemsD d) fun xs => Wp mL sd1 fun ds sd2 => ∃ zs, App xs ds zs ∧ Q zs sd2) : Wp (mStar me mL) sd Q := Wp.bnd (h.mono fun ds sd1 h => Wp.bnd (Wp.lft (h.mono fun _ h => Wp.bnd (h.mono fun es sd2 h => by
  obtain ⟨zs, e, q⟩ := h
  rw [e.eq]
  exact Wp.pur q))))
theorem Wp.fnF {n : Nat} {mi : Cell → List D → Option (D × Cell)} {mo : List D → Option Cell} {mL : M (List D)} {Q : D → SD → Prop} (h : Wp mL sd fun ds sd1 => ds.length = n ∧ Lf (mo ds) fun c => Li (mi c []) fun d _ => Q d sd1) : Wp (mFnF n mi mo mL) sd Q := Wp.bnd (h.mono fun ds sd1 h => by
  obtain ⟨hl, c, e, d, c2, e2, q⟩ := h
  rw [if_pos hl]
  exact Wp.bnd (Wp.lft ⟨c, e, Wp.bnd (Wp.lft ⟨_, e2, Wp.pur q⟩)⟩))
theorem Wp.iNil {Q : List It1 → SD → Prop} (q : Q [] sd) : Wp mINil sd Q := Wp.pur q
theorem Wp.iV {m : M D} {n : M (List It1)} {Q : List It1 → SD → Prop} (h : Wp m sd fun d sd1 => Wp n sd1 fun is sd2 => Q (.v d :: is) sd2) : Wp (mIV m n) sd Q := Wp.bnd (h.mono fun _ _ h => Wp.bnd (h.mono fun _ _ h => Wp.pur h))
theorem Wp.iN {m : M Cell} {n : M (List It1)} {Q : List It1 → SD → Prop} (h : Wp m sd fun d sd1 => Wp n sd1 fun is sd2 => Q (.n d :: is) sd2) : Wp (mIN m n) sd Q := Wp.bnd (h.mono fun _ _ h => Wp.bnd (h.mono fun _ _ h => Wp.pur h))
theorem Wp.parI {ix : List Nat} {m : M (List It1)} {Q : Out → SD → Prop} (h : Wp m sd fun is sd1 => Wp (mSetI ix is) sd1 fun _ sd2 => Q .nx sd2) : Wp (mParI ix m) sd Q := Wp.bnd (h.mono fun _ _ h => Wp.bnd (h.mono fun _ _ h => Wp.pur h))
theorem Wp.setNil {Q : Unit → SD → Prop} (q : Q () sd) : Wp (mSetI [] []) sd Q := Wp.pur q
theorem Wp.setV {i : Nat} {ix : List Nat} {d : D} {is : List It1} {Q : Unit → SD → Prop} (h : Wp (mSet i d) sd fun _ sd1 => Wp (mSetI ix is) sd1 Q) : Wp (mSetI (i :: ix) (.v d :: is)) sd Q := Wp.bnd h
theorem Wp.setN {i : Nat} {ix : List Nat} {c : Cell} {is : List It1} {Q : Unit → SD → Prop} (z : i ≠ 0) (h : Wp (mPut i c) sd fun _ sd1 => Wp (mSetI ix is) sd1 Q) : Wp (mSetI (i :: ix) (.n c :: is)) sd Q := by
  unfold mSetI
  rw [if_pos z]
  exact Wp.bnd h
theorem Wp.newL {mL : M (List D)} {Q : Cell → SD → Prop} (h : Wp mL sd fun ds sd1 => Lf (listD ds) fun y => ∃ xs, y = .lst xs ∧ Q (.lst xs) sd1) : Wp (mNewL mL) sd Q := Wp.bnd (h.mono fun ds sd1 h => Wp.lft (by
  obtain ⟨y, e, xs, rfl, q⟩ := h
  rw [e]
  exact Lf.the q))
theorem Wp.newD {mL : M (List D)} {Q : Cell → SD → Prop} (h : Wp mL sd fun ds sd1 => ds.length ≤ 100000 ∧ Q (.lst ds) sd1) : Wp (mNewD mL) sd Q := Wp.bnd (h.mono fun ds sd1 h => Wp.lft (Lf.lim h.1 h.2))
theorem Wp.parN {i j : Nat} {m1 m2 : M Cell} {Q : Out → SD → Prop} (z : i ≠ 0 ∧ j ≠ 0) (h : Wp m1 sd fun c1 sd1 => Wp m2 sd1 fun c2 sd2 => Wp (mPut j c2) sd2 fun _ sd3 => Wp (mPut i c1) sd3 fun _ sd4 => Q .nx sd4) : Wp (mParN i j m1 m2) sd Q := Wp.bnd (h.mono fun _ _ h => Wp.bnd (h.mono fun _ _ h => by
  rw [if_pos z]
  exact Wp.bnd (h.mono fun _ _ h => Wp.bnd (h.mono fun _ _ h => Wp.pur h))))
theorem Wp.peekN {m : M D} {Q : D → SD → Prop} (e : sd.map looked = sd1) (h : Wp m sd1 fun d _ => noL d = true ∧ Q d sd) : Wp (mPeekN m) sd Q := by
  subst e
  obtain ⟨d, sd2, e, hp, q⟩ := h
  refine ⟨d, sd, ?_, q⟩
  unfold mPeekN
  simp only [e, hp, if_true]
theorem Wp.sub {i : Nat} {mk : M D} {d : D} {xs0 : List D} {Q : Unit → SD → Prop} (h0 : sd[i]? = some (.own (.lst xs0)))
    (h : Wp mk sd fun k sd1 => ∃ j, k = .int j ∧ ∃ xs, sd1[i]? = some (.own (.lst xs)) ∧ Lf (ixN xs.length j) fun n => ∃ sd2, At1 sd1 i (.own (.lst (xs.set n d))) sd2 ∧ Q () sd2) : Wp (mSub i mk d) sd Q := by
  refine Wp.bnd (Wp.takeL h0 (Wp.bnd (h.mono fun k sd1 h => ?_)))
  obtain ⟨j, rfl, xs, h1, n, e, sd2, ha, q⟩ := h
  refine Wp.bnd (Wp.lft (Lf.the (Wp.bnd (Wp.takeL h1 ?_))))
  first
    | exact Wp.bnd (Wp.lft ⟨n, e, Wp.put ha q⟩)
    | skip
theorem Lf.kw {α : Type} {g f : List D → Option α} {ds es : List D} {P : α → Prop} [h : KwEq g ds f es] (p : Lf (f es) P) : Lf (g ds) P := by
  rw [h.eq]
  exact p
theorem Li.kw {g f : List D → Option (D × Cell)} {ds es : List D} {P : D → Cell → Prop} [h : KwEq g ds f es] (p : Li (f es) P) : Li (g ds) P := by
  rw [h.eq]
  exact p
theorem Lf.pow9 {P : D → Prop} (p : P (.int 1000000000)) : Lf (powD (.int 10) (.int 9)) P := ⟨_, rfl, p⟩
theorem Lf.pow18 {P : D → Prop} (p : P (.int 1000000000000000000)) : Lf (powD (.int 10) (.int 18)) P := ⟨_, rfl, p⟩
theorem Lf.pow20 {P : D → Prop} (p : P (.int 100000000000000000000)) : Lf (powD (.int 10) (.int 20)) P := ⟨_, rfl, p⟩
theorem Lf.pow29 {P : D → Prop} (p : P (.int 100000000000000000000000000000)) : Lf (powD (.int 10) (.int 29)) P := ⟨_, rfl, p⟩
theorem Lf.pow30 {P : D → Prop} (p : P (.int 1000000000000000000000000000000)) : Lf (powD (.int 10) (.int 30)) P := ⟨_, rfl, p⟩
theorem Lf.leS {i j : Str} {P : D → Prop} (p : P (.bl (leS i j))) : Lf (leSD (.str i) (.str j)) P := ⟨_, rfl, p⟩
theorem Lf.lenS {x : Str} {P : D → Prop} (h : x.length ≤ 100000) (p : P (.int (x.length : Int))) : Lf (lenD [.str x]) P := by
  refine ⟨_, ?_, p⟩
  first | rfl | exact if_pos h
theorem Lf.chars {x : Str} {P : List D → Prop} (p : P (x.cps.toList.map fun c => D.str ⟨#[c]⟩)) : Lf (charsD (.str x)) P := ⟨_, rfl, p⟩
theorem Lf.isi {tab : List (TyN × Bool)} {d : D} {b : Bool} {P : D → Prop} (h : isiD tab d = some (.bl b)) (p : P (.bl b)) : Lf (isiD tab d) P := ⟨_, h, p⟩
theorem Lf.enumL {xs : List D} {P : List D → Prop} (p : P (xs.mapIdx fun i d => D.tup [.int (i : Int), d])) : Lf (enumA [.lst xs]) P := ⟨_, rfl, p⟩
theorem Lf.enumT {xs : List D} {P : List D → Prop} (p : P (xs.mapIdx fun i d => D.tup [.int (i : Int), d])) : Lf (enumA [.tup xs]) P := ⟨_, rfl, p⟩
theorem Lf.divmod {i j : Int} {P : D → Prop} (h : 0 < j ∧ j < 1073741824) (p : P (.tup [.int (i / j), .int (i % j)])) : Lf (divmodD [.int i, .int j]) P := ⟨_, if_pos h, p⟩
theorem Lf.rev {xs : List D} {P : D → Prop} (p : P (.lst xs.reverse)) : Lf (revD (.lst xs)) P := ⟨_, rfl, p⟩
theorem Lf.mul2 {d : D} {P : D → Prop} (p : P (.lst [d, d])) : Lf (mulD (.lst [d]) (.int 2)) P := ⟨_, rfl, p⟩
theorem Lf.extend {xs ys : List D} {P : List D × D → Prop} (h : xs.length + ys.length ≤ 100000) (p : P (xs ++ ys, .non)) : Lf (actExtend xs (.lst ys)) P := ⟨_, if_pos h, p⟩
theorem Lf.clear {xs : List D} {P : List D × D → Prop} (p : P ([], .non)) : Lf (actClear xs) P := ⟨_, rfl, p⟩
theorem Lf.reprS {d : D} {P : D → Prop} (h : Sm d) (p : P (.str (shD d))) : Lf (reprX [d]) P := ⟨_, reprX_sm h, p⟩
theorem Lf.catN {acc : Str} {P : Str → Prop} (p : P acc) : Lf (catS acc []) P := ⟨_, rfl, p⟩
theorem Lf.catC {acc y : Str} {r : List D} {P : Str → Prop} (h : (acc ++ y).length ≤ 100000) (p : Lf (catS (acc ++ y) r) P) : Lf (catS acc (.str y :: r)) P := by
  unfold catS
  rw [if_pos h]
  exact p
theorem strsD_map (l : List Str) : strsD (l.map .str) = some l := by
  induction l with
  | nil => rfl
  | cons a l ih => rw [List.map_cons, strsD, ih]; rfl
theorem Lf.sortL {l : List Str} {P : D → Prop} (h : l.length ≤ 100000) (p : P (.lst ((sortS l).map .str))) : Lf (sortD [.lst (l.map .str)]) P := by
  refine ⟨_, ?_, p⟩
  unfold sortD
  simp only [itemsD, List.length_map, if_pos h, strsD_map]
theorem Lf.sortT {l : List Str} {P : D → Prop} (h : l.length ≤ 100000) (p : P (.lst ((sortS l).map .str))) : Lf (sortD [.tup (l.map .str)]) P := by
  refine ⟨_, ?_, p⟩
  unfold sortD
  simp only [itemsD, List.length_map, if_pos h, strsD_map]
theorem flat_strs (l : List Str) : (l.map D.str).all flatD = true := by
  rw [List.all_eq_true]
  intro d hd
  obtain ⟨x, _, rfl⟩ := List.mem_map.mp hd
  rfl
theorem any_strs (x : Str) (l : List Str) : ((l.map D.str).any fun z => eqF z (.str x)) = decide (x ∈ l) := by
  rw [Bool.eq_iff_iff, List.any_eq_true, decide_eq_true_iff]
  constructor
  · rintro ⟨d, hd, h⟩
    obtain ⟨y, hy, rfl⟩ := List.mem_map.mp hd
    have h' : (y == x) = true := h
    rw [← eq_of_beq h']
    exact hy
  · intro h
    exact ⟨.str x, List.mem_map_of_mem h, by show (x == x) = true; exact beq_self_eq_true x⟩
theorem Lf.inL {x : Str} {l : List Str} {P : D → Prop} (p : P (.bl (decide (x ∈ l)))) : Lf (inD false (.str x) (.lst (l.map .str))) P := by
  refine ⟨_, ?_, p⟩
  unfold inD
  simp only [itemsD, flat_strs, any_strs]
  rfl
theorem Lf.inT {x : Str} {l : List Str} {P : D → Prop} (p : P (.bl (decide (x ∈ l)))) : Lf (inD false (.str x) (.tup (l.map .str))) P := by
  refine ⟨_, ?_, p⟩
  unfold inD
  simp only [itemsD, flat_strs, any_strs]
  rfl
theorem Lf.ninL {x : Str} {l : List Str} {P : D → Prop} (p : P (.bl (!decide (x ∈ l)))) : Lf (inD true (.str x) (.lst (l.map .str))) P := by
  refine ⟨_, ?_, p⟩
  unfold inD
  simp only [itemsD, flat_strs, any_strs]
  rfl
theorem Lf.ninT {x : Str} {l : List Str} {P : D → Prop} (p : P (.bl (!decide (x ∈ l)))) : Lf (inD true (.str x) (.tup (l.map .str))) P := by
  refine ⟨_, ?_, p⟩
  unfold inD
  simp only [itemsD, flat_strs, any_strs]
  rfl
theorem Lf.slS {x : Str} {lo hi : Option Int} {P : D → Prop} (h : x.length ≤ 100000) (p : P (.str (cutS x lo hi))) : Lf (sliceD (.str x) lo hi) P := ⟨_, if_pos h, p⟩
end Mir
set_option linter.all false
set_option maxRecDepth 100000
set_option maxHeartbeats 0
namespace Gk10
open PySem PySem.Spec L2 Mir
open PyProof.Rows (envOfC)
def top (i : Nat) : Stmt := PySem.Challenge.pw_beamheads_k10_heads_made.main.body.getD i (.Pass ⟨0, 0, 0, 0⟩)
theorem roomU {k : Nat} {A : Around} (h : Room k A) : A.units + 64 < cLine := by
  have := h.un
  omega
theorem bt_abs : bootBuiltins "abs" = some (.builtin "abs") := by first | kernel_rfl | decide +kernel
theorem bt_all : bootBuiltins "all" = some (.builtin "all") := by first | kernel_rfl | decide +kernel
theorem bt_bool : bootBuiltins "bool" = some (.type "bool") := by first | kernel_rfl | decide +kernel
theorem bt_divmod : bootBuiltins "divmod" = some (.builtin "divmod") := by first | kernel_rfl | decide +kernel
theorem bt_int : bootBuiltins "int" = some (.type "int") := by first | kernel_rfl | decide +kernel
theorem bt_len : bootBuiltins "len" = some (.builtin "len") := by first | kernel_rfl | decide +kernel
theorem bt_list : bootBuiltins "list" = some (.type "list") := by first | kernel_rfl | decide +kernel
theorem bt_max : bootBuiltins "max" = some (.builtin "max") := by first | kernel_rfl | decide +kernel
theorem bt_min : bootBuiltins "min" = some (.builtin "min") := by first | kernel_rfl | decide +kernel
theorem bt_repr : bootBuiltins "repr" = some (.builtin "repr") := by first | kernel_rfl | decide +kernel
theorem bt_sorted : bootBuiltins "sorted" = some (.builtin "sorted") := by first | kernel_rfl | decide +kernel
theorem bt_str : bootBuiltins "str" = some (.type "str") := by first | kernel_rfl | decide +kernel
theorem bt_tuple : bootBuiltins "tuple" = some (.type "tuple") := by first | kernel_rfl | decide +kernel
def tab_str : List (TyN × Bool) := [(.b "NoneType", false), (.b "bool", false), (.b "int", false), (.b "str", true), (.b "list", false), (.b "tuple", false), (.b "dict", false), (.o "Head", false)]
def tab_int : List (TyN × Bool) := [(.b "NoneType", false), (.b "bool", true), (.b "int", true), (.b "str", false), (.b "list", false), (.b "tuple", false), (.b "dict", false), (.o "Head", false)]
def tab_bool : List (TyN × Bool) := [(.b "NoneType", false), (.b "bool", true), (.b "int", false), (.b "str", false), (.b "list", false), (.b "tuple", false), (.b "dict", false), (.o "Head", false)]
def tab_list_tuple : List (TyN × Bool) := [(.b "NoneType", false), (.b "bool", false), (.b "int", false), (.b "str", false), (.b "list", true), (.b "tuple", true), (.b "dict", false), (.o "Head", false)]
def tab_tuple : List (TyN × Bool) := [(.b "NoneType", false), (.b "bool", false), (.b "int", false), (.b "str", false), (.b "list", false), (.b "tuple", true), (.b "dict", false), (.o "Head", false)]
def tab_Head : List (TyN × Bool) := [(.b "NoneType", false), (.b "bool", false), (.b "int", false), (.b "str", false), (.b "list", false), (.b "tuple", false), (.b "dict", false), (.o "Head", true)]
def allT : List TyN := [.b "NoneType", .b "bool", .b "int", .b "str", .b "list", .b "tuple", .b "dict", .o "Head"]
abbrev s__law_draw : Stmt := top 25
abbrev s__law_choice : Stmt := top 26
abbrev s__law_names : Stmt := top 27
abbrev s__law_number : Stmt := top 28
abbrev s__law_head : Stmt := top 29
abbrev s_is_name : Stmt := top 11
abbrev s_check_name : Stmt := top 17
abbrev s_is_integer : Stmt := top 8
abbrev s_is_positive : Stmt := top 10
abbrev s_check_positive : Stmt := top 16
abbrev s_is_list : Stmt := top 12
abbrev s_check_kinds : Stmt := top 19
abbrev s_is_count : Stmt := top 9
abbrev s_check_count : Stmt := top 15
abbrev s_is_pair : Stmt := top 13
abbrev s_check_changes : Stmt := top 20
abbrev s_changes_left : Stmt := top 21
abbrev s_Head_DinitD : Stmt := inClass (top 22) 2
abbrev s__law_real : Stmt := top 32
abbrev s__law_left : Stmt := top 30
abbrev s__law_due : Stmt := top 34
abbrev s_Head_changes : Stmt := inClass (top 22) 9
abbrev s_Head_speed : Stmt := inClass (top 22) 8
abbrev s_Head_kinds : Stmt := inClass (top 22) 7
abbrev s_Head_right : Stmt := inClass (top 22) 6
abbrev s_Head_left : Stmt := inClass (top 22) 5
abbrev s_Head_name : Stmt := inClass (top 22) 3
abbrev s__law_parts : Stmt := top 33
abbrev s_Head_DreprD : Stmt := inClass (top 22) 11
abbrev s__law_is_head : Stmt := top 36
abbrev s_Head_DeqD : Stmt := inClass (top 22) 10
abbrev s__law_copies_right : Stmt := top 40
abbrev s__law_steps : Stmt := top 35
abbrev s_check_integer : Stmt := top 14
abbrev s_Head_speed_at : Stmt := inClass (top 22) 12
abbrev s__law_speed : Stmt := top 31
abbrev s_Head_does : Stmt := inClass (top 22) 13
abbrev s__law_is_told : Stmt := top 37
abbrev s__law_others : Stmt := top 38
abbrev s_Head_with_speed : Stmt := inClass (top 22) 14
abbrev s__law_with : Stmt := top 39
abbrev s__law_right : Stmt := top 41
abbrev s__law_rng : Stmt := top 24
abbrev s_law : Stmt := top 42
def d__law_draw : DM := ⟨fun K => (He.ga K "_law_draw"), "_law_draw", "_law_draw", defArgs s__law_draw, defBody s__law_draw, defScope s__law_draw, [], []⟩
def d__law_choice : DM := ⟨fun K => (He.ga K "_law_choice"), "_law_choice", "_law_choice", defArgs s__law_choice, defBody s__law_choice, defScope s__law_choice, [], []⟩
def d__law_names : DM := ⟨fun K => (He.ga K "_law_names"), "_law_names", "_law_names", defArgs s__law_names, defBody s__law_names, defScope s__law_names, [], []⟩
def d__law_number : DM := ⟨fun K => (He.ga K "_law_number"), "_law_number", "_law_number", defArgs s__law_number, defBody s__law_number, defScope s__law_number, [], []⟩
def d__law_head : DM := ⟨fun K => (He.ga K "_law_head"), "_law_head", "_law_head", defArgs s__law_head, defBody s__law_head, defScope s__law_head, [], []⟩
def d_is_name : DM := ⟨fun K => (He.ga K "is_name"), "is_name", "is_name", defArgs s_is_name, defBody s_is_name, defScope s_is_name, [], []⟩
def d_check_name : DM := ⟨fun K => (He.ga K "check_name"), "check_name", "check_name", defArgs s_check_name, defBody s_check_name, defScope s_check_name, [], []⟩
def d_is_integer : DM := ⟨fun K => (He.ga K "is_integer"), "is_integer", "is_integer", defArgs s_is_integer, defBody s_is_integer, defScope s_is_integer, [], []⟩
def d_is_positive : DM := ⟨fun K => (He.ga K "is_positive"), "is_positive", "is_positive", defArgs s_is_positive, defBody s_is_positive, defScope s_is_positive, [], []⟩
def d_check_positive : DM := ⟨fun K => (He.ga K "check_positive"), "check_positive", "check_positive", defArgs s_check_positive, defBody s_check_positive, defScope s_check_positive, [], []⟩
def d_is_list : DM := ⟨fun K => (He.ga K "is_list"), "is_list", "is_list", defArgs s_is_list, defBody s_is_list, defScope s_is_list, [], []⟩
def d_check_kinds : DM := ⟨fun K => (He.ga K "check_kinds"), "check_kinds", "check_kinds", defArgs s_check_kinds, defBody s_check_kinds, defScope s_check_kinds, [], []⟩
def d_is_count : DM := ⟨fun K => (He.ga K "is_count"), "is_count", "is_count", defArgs s_is_count, defBody s_is_count, defScope s_is_count, [], []⟩
def d_check_count : DM := ⟨fun K => (He.ga K "check_count"), "check_count", "check_count", defArgs s_check_count, defBody s_check_count, defScope s_check_count, [], []⟩
def d_is_pair : DM := ⟨fun K => (He.ga K "is_pair"), "is_pair", "is_pair", defArgs s_is_pair, defBody s_is_pair, defScope s_is_pair, [], []⟩
def d_check_changes : DM := ⟨fun K => (He.ga K "check_changes"), "check_changes", "check_changes", defArgs s_check_changes, defBody s_check_changes, defScope s_check_changes, [], []⟩
def d_changes_left : DM := ⟨fun K => (He.ga K "changes_left"), "changes_left", "changes_left", defArgs s_changes_left, defBody s_changes_left, defScope s_changes_left, [], []⟩
def d_Head_DinitD : DM := ⟨fun K => (He.ma K (He.ga K "Head") "__init__"), "__init__", "Head.__init__", defArgs s_Head_DinitD, defBody s_Head_DinitD, defScope s_Head_DinitD, [.adr (He.dflAt ("Head", some "__init__") 0)], []⟩
def d__law_real : DM := ⟨fun K => (He.ga K "_law_real"), "_law_real", "_law_real", defArgs s__law_real, defBody s__law_real, defScope s__law_real, [], []⟩
def d__law_left : DM := ⟨fun K => (He.ga K "_law_left"), "_law_left", "_law_left", defArgs s__law_left, defBody s__law_left, defScope s__law_left, [], []⟩
def d__law_due : DM := ⟨fun K => (He.ga K "_law_due"), "_law_due", "_law_due", defArgs s__law_due, defBody s__law_due, defScope s__law_due, [], []⟩
def d_Head_changes : DM := ⟨fun K => (pgA "Head" "changes" K), "changes", "Head.changes", defArgs s_Head_changes, defBody s_Head_changes, defScope s_Head_changes, [], []⟩
def d_Head_speed : DM := ⟨fun K => (pgA "Head" "speed" K), "speed", "Head.speed", defArgs s_Head_speed, defBody s_Head_speed, defScope s_Head_speed, [], []⟩
def d_Head_kinds : DM := ⟨fun K => (pgA "Head" "kinds" K), "kinds", "Head.kinds", defArgs s_Head_kinds, defBody s_Head_kinds, defScope s_Head_kinds, [], []⟩
def d_Head_right : DM := ⟨fun K => (pgA "Head" "right" K), "right", "Head.right", defArgs s_Head_right, defBody s_Head_right, defScope s_Head_right, [], []⟩
def d_Head_left : DM := ⟨fun K => (pgA "Head" "left" K), "left", "Head.left", defArgs s_Head_left, defBody s_Head_left, defScope s_Head_left, [], []⟩
def d_Head_name : DM := ⟨fun K => (pgA "Head" "name" K), "name", "Head.name", defArgs s_Head_name, defBody s_Head_name, defScope s_Head_name, [], []⟩
def d__law_parts : DM := ⟨fun K => (He.ga K "_law_parts"), "_law_parts", "_law_parts", defArgs s__law_parts, defBody s__law_parts, defScope s__law_parts, [], []⟩
def d_Head_DreprD : DM := ⟨fun K => (He.ma K (He.ga K "Head") "__repr__"), "__repr__", "Head.__repr__", defArgs s_Head_DreprD, defBody s_Head_DreprD, defScope s_Head_DreprD, [], []⟩
def d__law_is_head : DM := ⟨fun K => (He.ga K "_law_is_head"), "_law_is_head", "_law_is_head", defArgs s__law_is_head, defBody s__law_is_head, defScope s__law_is_head, [], []⟩
def d_Head_DeqD : DM := ⟨fun K => (He.ma K (He.ga K "Head") "__eq__"), "__eq__", "Head.__eq__", defArgs s_Head_DeqD, defBody s_Head_DeqD, defScope s_Head_DeqD, [], []⟩
def d__law_copies_right : DM := ⟨fun K => (He.ga K "_law_copies_right"), "_law_copies_right", "_law_copies_right", defArgs s__law_copies_right, defBody s__law_copies_right, defScope s__law_copies_right, [], []⟩
def d__law_steps : DM := ⟨fun K => (He.ga K "_law_steps"), "_law_steps", "_law_steps", defArgs s__law_steps, defBody s__law_steps, defScope s__law_steps, [], []⟩
def d_check_integer : DM := ⟨fun K => (He.ga K "check_integer"), "check_integer", "check_integer", defArgs s_check_integer, defBody s_check_integer, defScope s_check_integer, [], []⟩
def d_Head_speed_at : DM := ⟨fun K => (He.ma K (He.ga K "Head") "speed_at"), "speed_at", "Head.speed_at", defArgs s_Head_speed_at, defBody s_Head_speed_at, defScope s_Head_speed_at, [], []⟩
def d__law_speed : DM := ⟨fun K => (He.ga K "_law_speed"), "_law_speed", "_law_speed", defArgs s__law_speed, defBody s__law_speed, defScope s__law_speed, [], []⟩
def d_Head_does : DM := ⟨fun K => (He.ma K (He.ga K "Head") "does"), "does", "Head.does", defArgs s_Head_does, defBody s_Head_does, defScope s_Head_does, [], []⟩
def d__law_is_told : DM := ⟨fun K => (He.ga K "_law_is_told"), "_law_is_told", "_law_is_told", defArgs s__law_is_told, defBody s__law_is_told, defScope s__law_is_told, [], []⟩
def d__law_others : DM := ⟨fun K => (He.ga K "_law_others"), "_law_others", "_law_others", defArgs s__law_others, defBody s__law_others, defScope s__law_others, [], []⟩
def d_Head_with_speed : DM := ⟨fun K => (He.ma K (He.ga K "Head") "with_speed"), "with_speed", "Head.with_speed", defArgs s_Head_with_speed, defBody s_Head_with_speed, defScope s_Head_with_speed, [], []⟩
def d__law_with : DM := ⟨fun K => (He.ga K "_law_with"), "_law_with", "_law_with", defArgs s__law_with, defBody s__law_with, defScope s__law_with, [], []⟩
def d__law_right : DM := ⟨fun K => (He.ga K "_law_right"), "_law_right", "_law_right", defArgs s__law_right, defBody s__law_right, defScope s__law_right, [], []⟩
def d__law_rng : DM := ⟨fun K => (He.ga K "_law_rng"), "_law_rng", "_law_rng", defArgs s__law_rng, defBody s__law_rng, defScope s__law_rng, [], []⟩
def d_law : DM := ⟨fun K => (He.ga K "law"), "law", "law", defArgs s_law, defBody s_law, defScope s_law, [], []⟩
def fa : List He.Fa := [.glo "Head",
  .free "range",
  .free "len",
  .free "min",
  .free "max",
  .free "divmod",
  .free "int",
  .glo "_law_draw",
  .glo "_law_choice",
  .glo "_law_names",
  .glo "_law_number",
  .glo "_law_head",
  .mkr "Head",
  .cls "Head",
  .free "isinstance",
  .free "str",
  .free "all",
  .glo "is_name",
  .glo "check_name",
  .free "bool",
  .glo "is_integer",
  .glo "is_positive",
  .glo "check_positive",
  .free "tuple",
  .free "list",
  .glo "is_list",
  .free "enumerate",
  .glo "check_kinds",
  .glo "is_count",
  .glo "check_count",
  .glo "is_pair",
  .glo "check_changes",
  .noat "Head" "_name",
  .noat "Head" "_left",
  .noat "Head" "_right",
  .free "sorted",
  .noat "Head" "_kinds",
  .noat "Head" "_speed",
  .glo "changes_left",
  .noat "Head" "_changes",
  .glo "_law_real",
  .glo "_law_left",
  .glo "_law_due",
  .glo "_law_parts",
  .free "repr",
  .glo "_law_is_head",
  .glo "_law_copies_right",
  .glo "_law_steps",
  .meth "Head" "speed_at",
  .glo "check_integer",
  .glo "_law_speed",
  .meth "Head" "does",
  .glo "_law_is_told",
  .glo "_law_others",
  .meth "Head" "with_speed",
  .glo "_law_with",
  .glo "_law_right",
  .free "abs",
  .glo "_law_rng",
  .glo "law"]
def exA : List (Fg → Bool) := [cintB "Head" "MOST_CHANGES" 3,
  cintB "Head" "MOST_KINDS" 4,
  isiB "Head",
  tabB (fun _ => Value.type "str") tab_str,
  tabB (fun _ => Value.type "int") tab_int,
  tabB (fun _ => Value.type "bool") tab_bool,
  tabTB (fun _ => [Value.type "list", Value.type "tuple"]) tab_list_tuple,
  tabB (fun _ => Value.type "tuple") tab_tuple,
  propB "Head" "changes",
  propB "Head" "speed",
  propB "Head" "kinds",
  propB "Head" "right",
  propB "Head" "left",
  propB "Head" "name",
  sysB,
  specB "Head" "__repr__",
  specB "Head" "__eq__",
  firstB "Head" allT,
  tabB (fun K => Value.ref (He.ga K "Head")) tab_Head,
  neB "Head",
  dtupB ("Head", some "__init__") 0]
def fnA : List DM := [d__law_draw, d__law_choice, d__law_names, d__law_number, d__law_head, d_is_name, d_check_name, d_is_integer, d_is_positive, d_check_positive, d_is_list, d_check_kinds, d_is_count, d_check_count, d_is_pair, d_check_changes, d_changes_left, d_Head_DinitD, d__law_real, d__law_left, d__law_due, d_Head_changes, d_Head_speed, d_Head_kinds, d_Head_right, d_Head_left, d_Head_name, d__law_parts, d_Head_DreprD, d__law_is_head, d_Head_DeqD, d__law_copies_right, d__law_steps, d_check_integer, d_Head_speed_at, d__law_speed, d_Head_does, d__law_is_told, d__law_others, d_Head_with_speed, d__law_with, d__law_right, d__law_rng, d_law]
-- RUN
abbrev R : PySem.W.OpenRow := PySem.W.OpenLaw.row PySem.Challenge.rw_beamheads_k10_heads_made
abbrev hk : PySem.W.Hook := hookM 6 fa exA fnA
def ob (s : PySem.W.SharedT) : He.AlD := seenG 6 fa exA fnA (HandSHeadRun.getT s)
theorem ob_eq (s : PySem.W.SharedT) : ob s = hk.obs s.abs := seenG_eq (HandSHeadRun.getT_eq s)
def names : List Str := [("_wall" : Str), ("BeamError" : Str), ("InvalidName" : Str), ("InvalidNumber" : Str), ("InvalidKinds" : Str), ("InvalidChanges" : Str), ("is_integer" : Str), ("is_count" : Str), ("is_positive" : Str), ("is_name" : Str), ("is_list" : Str), ("is_pair" : Str), ("check_integer" : Str), ("check_count" : Str), ("check_positive" : Str), ("check_name" : Str), ("check_kinds" : Str), ("check_changes" : Str), ("changes_left" : Str), ("Head" : Str), ("_law_rng" : Str), ("_law_draw" : Str), ("_law_choice" : Str), ("_law_names" : Str), ("_law_number" : Str), ("_law_head" : Str), ("_law_left" : Str), ("_law_speed" : Str), ("_law_real" : Str), ("_law_parts" : Str), ("_law_due" : Str), ("_law_steps" : Str), ("_law_is_head" : Str), ("_law_is_told" : Str), ("_law_others" : Str), ("_law_with" : Str), ("_law_copies_right" : Str), ("_law_right" : Str)]
theorem run (w : World) : HandSHeadRun.RunEq R (PySem.W.view R.prog [42]) hk ob 20000 names w := by
  intro os
  kernel_rfl

-- ENDRUN
/-! (None, '_law_draw') -/
def N__law_draw : List Str := ["_law_rng_here", "_law_many", "_law_digit"]
theorem sc__law_draw : FnScope N__law_draw ["_law_rng_here", "_law_many"] (defScope s__law_draw) := ⟨rfl, rfl, rfl, by decide +kernel, rfl, by decide +kernel, by decide +kernel⟩
def m__law_draw : M Out := (mSeq (mIf (tst (op2 gtD (mItem 0 (pur (D.int 0))) (pur (D.int 0)))) (mSeq (mAsg (mCall divmodD (mCons (mItem 0 (pur (D.int 0))) (mCons (mVar 1) mNil))) (mGtup [(mSub 0 (pur (D.int 0))), (mSet 2)]))
  (mRet (mVar 2))) (pur Out.nx))
  (mSeq (mAsg (op2 modD (mCall intD (mCons (op2 addD (op2 mulD (mItem 0 (pur (D.int 1))) (pur (D.int 39373))) (pur (D.int 9973))) mNil)) (pur (D.int 2147483629))) (mSub 0 (pur (D.int 1))))
  (mRet (op2 modD (mCall intD (mCons (op2 divD (op2 modD (mCall intD (mCons (op2 mulD (mItem 0 (pur (D.int 1))) (mItem 0 (pur (D.int 1)))) mNil)) (pur (D.int 2147483563))) (pur (D.int 13))) mNil)) (mVar 1)))))
def f__law_draw : Cell → List D → Option (D × Cell) := runI N__law_draw m__law_draw
/-! (None, '_law_choice') -/
def N__law_choice : List Str := ["_law_rng_here", "_law_some"]
theorem sc__law_choice : FnScope N__law_choice ["_law_rng_here", "_law_some"] (defScope s__law_choice) := ⟨rfl, rfl, rfl, by decide +kernel, rfl, by decide +kernel, by decide +kernel⟩
def m__law_choice : M Out := (mRet (op2 ixD (mVar 1) (mFnI 1 f__law_draw 0 [] (mCons (mCall lenD (mCons (mVar 1) mNil)) mNil))))
def f__law_choice : Cell → List D → Option (D × Cell) := runI N__law_choice m__law_choice
/-! (None, '_law_names') -/
def N__law_names : List Str := ["_law_rng_here", "_law_many", "_law_k", "_law_letters", "_law_found", "_law_word", "_law_fresh", "_law_turn", "_law_one"]
theorem sc__law_names : FnScope N__law_names ["_law_rng_here", "_law_many"] (defScope s__law_names) := ⟨rfl, rfl, rfl, by decide +kernel, rfl, by decide +kernel, by decide +kernel⟩
def m__law_names : M Out := (mSeq (mParI [3, 4] (mIV (pur (D.str "abcdefghijklmnopqrstuvwxyz")) (mIN (mNewD mNil) mINil)))
  (mSeq (mFor (bnd (mCons (mVar 1) mNil) fun ds => lft (rng1D ds)) (mSet 2) (mSeq (mAsg (mJoin (pur (D.str "")) (mComp (bnd (mCons (op2 addD (pur (D.int 1)) (mFnI 1 f__law_choice 0 [] (mCons (mLst (mCons (pur (D.int 0)) (mCons (pur (D.int 0)) (mCons (pur (D.int 1)) (mCons (pur (D.int 2)) (mCons (pur (D.int 7)) mNil)))))) mNil))) mNil) fun ds => lft (rng1D ds)) [7] (mSet 7) (pur true) (op2 ixD (mVar 3) (mFnI 1 f__law_draw 0 [] (mCons (pur (D.int 26)) mNil))))) (mSet 5))
  (mSeq (mAsg (op2 addD (mLst (mCons (mVar 5) mNil)) (mComp (bnd (mVar 3) fun d => lft (charsD d)) [8] (mSet 8) (pur true) (op2 addD (op2 addD (mSlice (mVar 5) (pur none) (bnd (pur (D.int 6)) fun d => bnd (lft (asI d)) fun i => pur (some i))) (mVar 8)) (pur (D.str "q"))))) (mSet 6))
  (mDrop (mAct1 4 actAppend (op2 ixD (mComp (mIt (mVar 6)) [8] (mSet 8) (mPeekB 4 (tst (op2 (inD true) (mVar 8) (mVar 4)))) (mVar 8)) (pur (D.int 0))))))))
  (mRet (mVar 4))))
def f__law_names : Cell → List D → Option (D × Cell) := runI N__law_names m__law_names
/-! (None, '_law_number') -/
def N__law_number : List Str := ["_law_rng_here", "_law_sizes"]
theorem sc__law_number : FnScope N__law_number ["_law_rng_here"] (defScope s__law_number) := ⟨rfl, rfl, rfl, by decide +kernel, rfl, by decide +kernel, by decide +kernel⟩
def m__law_number : M Out := (mSeq (mAsg (mLst (mCons (mFnI 1 f__law_draw 0 [] (mCons (pur (D.int 9)) mNil)) (mCons (mFnI 1 f__law_draw 0 [] (mCons (pur (D.int 99)) mNil)) (mCons (op2 addD (op2 powD (pur (D.int 10)) (pur (D.int 9))) (mFnI 1 f__law_draw 0 [] (mCons (pur (D.int 9)) mNil))) (mCons (op2 addD (op2 powD (pur (D.int 10)) (pur (D.int 29))) (mFnI 1 f__law_draw 0 [] (mCons (pur (D.int 9)) mNil))) mNil))))) (mSet 1))
  (mRet (op2 mulD (mFnI 1 f__law_choice 0 [] (mCons (mVar 1) mNil)) (op2 ixD (mLst (mCons (pur (D.int 1)) (mCons (op1 negD (pur (D.int 1))) mNil))) (mFnI 1 f__law_draw 0 [] (mCons (pur (D.int 2)) mNil))))))
def f__law_number : Cell → List D → Option (D × Cell) := runI N__law_number m__law_number
/-! (None, '_law_head') -/
def N__law_head : List Str := ["_law_rng_here", "_law_names_here", "_law_reaches", "_law_turn", "_law_shifts", "_law_tick", "_law_speeds", "_law_side"]
theorem sc__law_head : FnScope N__law_head ["_law_rng_here", "_law_names_here"] (defScope s__law_head) := ⟨rfl, rfl, rfl, by decide +kernel, rfl, by decide +kernel, by decide +kernel⟩
def m__law_head : M Out := (mSeq (mAsg (mComp (bnd (mCons (pur (D.int 2)) mNil) fun ds => lft (rng1D ds)) [7] (mSet 7) (pur true) (op2 addD (pur (D.int 1)) (mFnI 1 f__law_choice 0 [] (mCons (mLst (mCons (mFnI 1 f__law_draw 0 [] (mCons (pur (D.int 4)) mNil)) (mCons (op2 addD (op2 powD (pur (D.int 10)) (pur (D.int 20))) (mFnI 1 f__law_draw 0 [] (mCons (pur (D.int 4)) mNil))) mNil))) mNil)))) (mSet 2))
  (mSeq (mParI [4, 5, 6] (mIN (mNewD mNil) (mIV (mFnI 0 f__law_number 0 [] mNil) (mIV (mLst (mCons (pur (D.int 0)) (mCons (pur (D.int 1)) (mCons (pur (D.int 2)) (mCons (op2 subD (op2 subD (op2 powD (pur (D.int 10)) (pur (D.int 9))) (pur (D.int 1))) (mFnI 1 f__law_draw 0 [] (mCons (pur (D.int 9)) mNil))) mNil))))) mINil))))
  (mSeq (mFor (bnd (mCons (mFnI 1 f__law_draw 0 [] (mCons (pur (D.int 4)) mNil)) mNil) fun ds => lft (rng1D ds)) (mSet 3) (mSeq (mDrop (mAct1 4 actAppend (mTup (mCons (mVar 5) (mCons (mFnI 1 f__law_choice 0 [] (mCons (mVar 6) mNil)) mNil)))))
  (mAsg (op2 addD (op2 addD (mVar 5) (pur (D.int 1))) (mFnI 1 f__law_choice 0 [] (mCons (mLst (mCons (pur (D.int 0)) (mCons (mFnI 1 f__law_draw 0 [] (mCons (pur (D.int 9)) mNil)) (mCons (op2 addD (op2 powD (pur (D.int 10)) (pur (D.int 20))) (mFnI 1 f__law_draw 0 [] (mCons (pur (D.int 9)) mNil))) mNil)))) mNil))) (mSet 5))))
  (mRet (mTup (mCons (op2 ixD (mVar 1) (pur (D.int 0))) (mCons (op2 ixD (mVar 2) (pur (D.int 0))) (mCons (op2 ixD (mVar 2) (pur (D.int 1))) (mCons (mSlice (mVar 1) (bnd (pur (D.int 1)) fun d => bnd (lft (asI d)) fun i => pur (some i)) (bnd (op2 addD (pur (D.int 2)) (mFnI 1 f__law_draw 0 [] (mCons (pur (D.int 4)) mNil))) fun d => bnd (lft (asI d)) fun i => pur (some i))) (mCons (mFnI 1 f__law_choice 0 [] (mCons (mVar 6) mNil)) (mCons (mVar 4) mNil)))))))))))
def f__law_head : Cell → List D → Option (D × Cell) := runI N__law_head m__law_head
/-! (None, 'is_name') -/
def N_is_name : List Str := ["value", "letter"]
theorem sc_is_name : FnScope N_is_name ["value"] (defScope s_is_name) := ⟨rfl, rfl, rfl, by decide +kernel, rfl, by decide +kernel, by decide +kernel⟩
def m_is_name : M Out := (mSeq (mIf (mOrB (mNotB (tst (op1 (isiD tab_str) (mVar 0)))) (mNotB (tst (mChain leD leD (pur (D.int 1)) (mCall lenD (mCons (mVar 0) mNil)) (pur (D.int 8)))))) (mRet (pur (D.bl false))) (pur Out.nx))
  (mRet (mCall allD (mCons (mComp (bnd (mVar 0) fun d => lft (charsD d)) [1] (mSet 1) (pur true) (mChain leSD leSD (pur (D.str "a")) (mVar 1) (pur (D.str "z")))) mNil))))
def f_is_name : List D → Option D := runP N_is_name m_is_name
/-! (None, 'check_name') -/
def N_check_name : List Str := ["value"]
theorem sc_check_name : FnScope N_check_name ["value"] (defScope s_check_name) := ⟨rfl, rfl, rfl, by decide +kernel, rfl, by decide +kernel, by decide +kernel⟩
def m_check_name : M Out := (mIf (mNotB (tst (mFn 1 f_is_name [] (mCons (mVar 0) mNil)))) (fun _ => none) (pur Out.nx))
def f_check_name : List D → Option D := runP N_check_name m_check_name
/-! (None, 'is_integer') -/
def N_is_integer : List Str := ["value"]
theorem sc_is_integer : FnScope N_is_integer ["value"] (defScope s_is_integer) := ⟨rfl, rfl, rfl, by decide +kernel, rfl, by decide +kernel, by decide +kernel⟩
def m_is_integer : M Out := (mRet (mAndV (op1 (isiD tab_int) (mVar 0)) (mNotV (op1 (isiD tab_bool) (mVar 0)))))
def f_is_integer : List D → Option D := runP N_is_integer m_is_integer
/-! (None, 'is_positive') -/
def N_is_positive : List Str := ["value"]
theorem sc_is_positive : FnScope N_is_positive ["value"] (defScope s_is_positive) := ⟨rfl, rfl, rfl, by decide +kernel, rfl, by decide +kernel, by decide +kernel⟩
def m_is_positive : M Out := (mRet (mAndV (mFn 1 f_is_integer [] (mCons (mVar 0) mNil)) (op2 geD (mVar 0) (pur (D.int 1)))))
def f_is_positive : List D → Option D := runP N_is_positive m_is_positive
/-! (None, 'check_positive') -/
def N_check_positive : List Str := ["value"]
theorem sc_check_positive : FnScope N_check_positive ["value"] (defScope s_check_positive) := ⟨rfl, rfl, rfl, by decide +kernel, rfl, by decide +kernel, by decide +kernel⟩
def m_check_positive : M Out := (mIf (mNotB (tst (mFn 1 f_is_positive [] (mCons (mVar 0) mNil)))) (fun _ => none) (pur Out.nx))
def f_check_positive : List D → Option D := runP N_check_positive m_check_positive
/-! (None, 'is_list') -/
def N_is_list : List Str := ["value"]
theorem sc_is_list : FnScope N_is_list ["value"] (defScope s_is_list) := ⟨rfl, rfl, rfl, by decide +kernel, rfl, by decide +kernel, by decide +kernel⟩
def m_is_list : M Out := (mRet (op1 (isiD tab_list_tuple) (mVar 0)))
def f_is_list : List D → Option D := runP N_is_list m_is_list
/-! (None, 'check_kinds') -/
def N_check_kinds : List Str := ["kinds", "most", "position", "kind"]
theorem sc_check_kinds : FnScope N_check_kinds ["kinds", "most"] (defScope s_check_kinds) := ⟨rfl, rfl, rfl, by decide +kernel, rfl, by decide +kernel, by decide +kernel⟩
def m_check_kinds : M Out := (mSeq (mIf (mOrB (mNotB (tst (mFn 1 f_is_list [] (mCons (mVar 0) mNil)))) (mNotB (tst (mChain leD leD (pur (D.int 1)) (mCall lenD (mCons (mVar 0) mNil)) (mVar 1))))) (fun _ => none) (pur Out.nx))
  (mFor (bnd (mCons (mVar 0) mNil) fun ds => lft (enumA ds)) (mGtup [(mSet 2), (mSet 3)]) (mIf (mOrB (mNotB (tst (mFn 1 f_is_name [] (mCons (mVar 3) mNil)))) (tst (op2 (inD false) (mVar 3) (mSlice (mVar 0) (pur none) (bnd (mVar 2) fun d => bnd (lft (asI d)) fun i => pur (some i)))))) (fun _ => none) (pur Out.nx))))
def f_check_kinds : List D → Option D := runP N_check_kinds m_check_kinds
/-! (None, 'is_count') -/
def N_is_count : List Str := ["value"]
theorem sc_is_count : FnScope N_is_count ["value"] (defScope s_is_count) := ⟨rfl, rfl, rfl, by decide +kernel, rfl, by decide +kernel, by decide +kernel⟩
def m_is_count : M Out := (mRet (mAndV (mFn 1 f_is_integer [] (mCons (mVar 0) mNil)) (op2 geD (mVar 0) (pur (D.int 0)))))
def f_is_count : List D → Option D := runP N_is_count m_is_count
/-! (None, 'check_count') -/
def N_check_count : List Str := ["value"]
theorem sc_check_count : FnScope N_check_count ["value"] (defScope s_check_count) := ⟨rfl, rfl, rfl, by decide +kernel, rfl, by decide +kernel, by decide +kernel⟩
def m_check_count : M Out := (mIf (mNotB (tst (mFn 1 f_is_count [] (mCons (mVar 0) mNil)))) (fun _ => none) (pur Out.nx))
def f_check_count : List D → Option D := runP N_check_count m_check_count
/-! (None, 'is_pair') -/
def N_is_pair : List Str := ["value"]
theorem sc_is_pair : FnScope N_is_pair ["value"] (defScope s_is_pair) := ⟨rfl, rfl, rfl, by decide +kernel, rfl, by decide +kernel, by decide +kernel⟩
def m_is_pair : M Out := (mRet (mAndV (op1 (isiD tab_tuple) (mVar 0)) (mAndV (op2 eqD (mCall lenD (mCons (mVar 0) mNil)) (pur (D.int 2))) (mAndV (mFn 1 f_is_integer [] (mCons (op2 ixD (mVar 0) (pur (D.int 0))) mNil)) (mFn 1 f_is_integer [] (mCons (op2 ixD (mVar 0) (pur (D.int 1))) mNil))))))
def f_is_pair : List D → Option D := runP N_is_pair m_is_pair
/-! (None, 'check_changes') -/
def N_check_changes : List Str := ["changes", "most", "position", "change"]
theorem sc_check_changes : FnScope N_check_changes ["changes", "most"] (defScope s_check_changes) := ⟨rfl, rfl, rfl, by decide +kernel, rfl, by decide +kernel, by decide +kernel⟩
def m_check_changes : M Out := (mSeq (mIf (mOrB (mNotB (tst (mFn 1 f_is_list [] (mCons (mVar 0) mNil)))) (tst (op2 gtD (mCall lenD (mCons (mVar 0) mNil)) (mVar 1)))) (fun _ => none) (pur Out.nx))
  (mFor (bnd (mCons (mVar 0) mNil) fun ds => lft (enumA ds)) (mGtup [(mSet 2), (mSet 3)]) (mSeq (mIf (mOrB (mNotB (tst (mFn 1 f_is_pair [] (mCons (mVar 3) mNil)))) (tst (op2 ltD (op2 ixD (mVar 3) (pur (D.int 1))) (pur (D.int 0))))) (fun _ => none) (pur Out.nx))
  (mIf (mAndB (tst (op2 gtD (mVar 2) (pur (D.int 0)))) (tst (op2 leD (op2 ixD (mVar 3) (pur (D.int 0))) (op2 ixD (op2 ixD (mVar 0) (op2 subD (mVar 2) (pur (D.int 1)))) (pur (D.int 0)))))) (fun _ => none) (pur Out.nx)))))
def f_check_changes : List D → Option D := runP N_check_changes m_check_changes
/-! (None, 'changes_left') -/
def N_changes_left : List Str := ["speed", "changes", "left", "tick", "following"]
theorem sc_changes_left : FnScope N_changes_left ["speed", "changes"] (defScope s_changes_left) := ⟨rfl, rfl, rfl, by decide +kernel, rfl, by decide +kernel, by decide +kernel⟩
def m_changes_left : M Out := (mSeq (mOwn 2 mNil)
  (mSeq (mFor (mIt (mVar 1)) (mGtup [(mSet 3), (mSet 4)]) (mSeq (mIf (tst (op2 neD (mVar 4) (mVar 0))) (mDrop (mAct1 2 actAppend (mTup (mCons (mVar 3) (mCons (mVar 4) mNil))))) (pur Out.nx))
  (mAsg (mVar 4) (mSet 0))))
  (mRet (mCall tupleD (mCons (mVar 2) mNil)))))
def f_changes_left : List D → Option D := runP N_changes_left m_changes_left
/-! ('Head', '__init__') -/
def N_Head_DinitD : List Str := ["self", "name", "left", "right", "kinds", "speed", "changes"]
theorem sc_Head_DinitD : FnScope N_Head_DinitD ["self", "name", "left", "right", "kinds", "speed", "changes"] (defScope s_Head_DinitD) := ⟨rfl, rfl, rfl, by decide +kernel, rfl, by decide +kernel, by decide +kernel⟩
def m_Head_DinitD : M Out := (mSeq (mDrop (mFn 1 f_check_name [] (mCons (mVar 1) mNil)))
  (mSeq (mDrop (mFn 1 f_check_positive [] (mCons (mVar 2) mNil)))
  (mSeq (mDrop (mFn 1 f_check_positive [] (mCons (mVar 3) mNil)))
  (mSeq (mDrop (mFn 2 f_check_kinds [] (mCons (mVar 4) (mCons (pur (D.int 4)) mNil))))
  (mSeq (mDrop (mFn 1 f_check_count [] (mCons (mVar 5) mNil)))
  (mSeq (mDrop (mFn 2 f_check_changes [] (mCons (mVar 6) (mCons (pur (D.int 3)) mNil))))
  (mSeq (mFldSet 0 "Head" "_name" (mVar 1))
  (mSeq (mFldSet 0 "Head" "_left" (mVar 2))
  (mSeq (mFldSet 0 "Head" "_right" (mVar 3))
  (mSeq (mFldSet 0 "Head" "_kinds" (mCall tupleD (mCons (mCall sortD (mCons (mVar 4) mNil)) mNil)))
  (mSeq (mFldSet 0 "Head" "_speed" (mVar 5))
  (mFldSet 0 "Head" "_changes" (mFn 2 f_changes_left [] (mCons (mVar 5) (mCons (mVar 6) mNil)))))))))))))))
def f_Head_DinitD : Cell → List D → Option (D × Cell) := runI N_Head_DinitD m_Head_DinitD
def ci_0 : Cell → List D → Option (D × Cell) := fun c => kwf 0 6 (f_Head_DinitD c) fun ds es => arrL [(3, 5), (3, 4), (3, 3), (3, 0), (3, 2), (3, 1)] ds [D.tup []] [] es
instance (c : Cell) (y0 y1 y2 y3 y4 y5 : D) : KwEq (ci_0 c) [y0, y1, y2, y3, y4, y5] (f_Head_DinitD c) [y5, y4, y3, y0, y2, y1] := ⟨by first | rfl | decide⟩
def ci_1 : Cell → List D → Option (D × Cell) := fun c => kwf 5 0 (f_Head_DinitD c) fun ds es => arrL [(0, 0), (0, 1), (0, 2), (0, 3), (0, 4), (1, 0)] ds [D.tup []] [] es
instance (c : Cell) (x0 x1 x2 x3 x4 : D) : KwEq (ci_1 c) [x0, x1, x2, x3, x4] (f_Head_DinitD c) [x0, x1, x2, x3, x4, D.tup []] := ⟨by first | rfl | decide⟩
/-! (None, '_law_real') -/
def N__law_real : List Str := ["_law_head_here"]
theorem sc__law_real : FnScope N__law_real ["_law_head_here"] (defScope s__law_real) := ⟨rfl, rfl, rfl, by decide +kernel, rfl, by decide +kernel, by decide +kernel⟩
def m__law_real : M Out := (mRet (mMake 6 f_Head_DinitD "Head" [] (mCons (op2 ixD (mVar 0) (pur (D.int 0))) (mCons (op2 ixD (mVar 0) (pur (D.int 1))) (mCons (op2 ixD (mVar 0) (pur (D.int 2))) (mCons (op2 ixD (mVar 0) (pur (D.int 3))) (mCons (op2 ixD (mVar 0) (pur (D.int 4))) (mCons (op2 ixD (mVar 0) (pur (D.int 5))) mNil))))))))
def f__law_real : List D → Option D := runP N__law_real m__law_real
/-! (None, '_law_left') -/
def N__law_left : List Str := ["_law_pace", "_law_shifts", "_law_found", "_law_tick", "_law_fresh"]
theorem sc__law_left : FnScope N__law_left ["_law_pace", "_law_shifts"] (defScope s__law_left) := ⟨rfl, rfl, rfl, by decide +kernel, rfl, by decide +kernel, by decide +kernel⟩
def m__law_left : M Out := (mSeq (mOwn 2 mNil)
  (mSeq (mFor (mIt (mVar 1)) (mGtup [(mSet 3), (mSet 4)]) (mSeq (mIf (tst (op2 neD (mVar 4) (mVar 0))) (mDrop (mAct1 2 actAppend (mTup (mCons (mVar 3) (mCons (mVar 4) mNil))))) (pur Out.nx))
  (mAsg (mVar 4) (mSet 0))))
  (mRet (mCall tupleD (mCons (mVar 2) mNil)))))
def f__law_left : List D → Option D := runP N__law_left m__law_left
/-! (None, '_law_due') -/
def N__law_due : List Str := ["_law_head_here"]
theorem sc__law_due : FnScope N__law_due ["_law_head_here"] (defScope s__law_due) := ⟨rfl, rfl, rfl, by decide +kernel, rfl, by decide +kernel, by decide +kernel⟩
def m__law_due : M Out := (mRet (mLst (mCons (op2 ixD (mVar 0) (pur (D.int 0))) (mCons (op2 ixD (mVar 0) (pur (D.int 1))) (mCons (op2 ixD (mVar 0) (pur (D.int 2))) (mCons (mCall tupleD (mCons (mCall sortD (mCons (op2 ixD (mVar 0) (pur (D.int 3))) mNil)) mNil)) (mCons (op2 ixD (mVar 0) (pur (D.int 4))) (mCons (mFn 2 f__law_left [] (mCons (op2 ixD (mVar 0) (pur (D.int 4))) (mCons (op2 ixD (mVar 0) (pur (D.int 5))) mNil))) mNil))))))))
def f__law_due : List D → Option D := runP N__law_due m__law_due
/-! ('Head', 'changes') -/
def N_Head_changes : List Str := ["self"]
theorem sc_Head_changes : FnScope N_Head_changes ["self"] (defScope s_Head_changes) := ⟨rfl, rfl, rfl, by decide +kernel, rfl, by decide +kernel, by decide +kernel⟩
def m_Head_changes : M Out := (mRet (mFld "Head" "_changes" (mVar 0)))
def f_Head_changes : List D → Option D := runP N_Head_changes m_Head_changes
/-! ('Head', 'speed') -/
def N_Head_speed : List Str := ["self"]
theorem sc_Head_speed : FnScope N_Head_speed ["self"] (defScope s_Head_speed) := ⟨rfl, rfl, rfl, by decide +kernel, rfl, by decide +kernel, by decide +kernel⟩
def m_Head_speed : M Out := (mRet (mFld "Head" "_speed" (mVar 0)))
def f_Head_speed : List D → Option D := runP N_Head_speed m_Head_speed
/-! ('Head', 'kinds') -/
def N_Head_kinds : List Str := ["self"]
theorem sc_Head_kinds : FnScope N_Head_kinds ["self"] (defScope s_Head_kinds) := ⟨rfl, rfl, rfl, by decide +kernel, rfl, by decide +kernel, by decide +kernel⟩
def m_Head_kinds : M Out := (mRet (mFld "Head" "_kinds" (mVar 0)))
def f_Head_kinds : List D → Option D := runP N_Head_kinds m_Head_kinds
/-! ('Head', 'right') -/
def N_Head_right : List Str := ["self"]
theorem sc_Head_right : FnScope N_Head_right ["self"] (defScope s_Head_right) := ⟨rfl, rfl, rfl, by decide +kernel, rfl, by decide +kernel, by decide +kernel⟩
def m_Head_right : M Out := (mRet (mFld "Head" "_right" (mVar 0)))
def f_Head_right : List D → Option D := runP N_Head_right m_Head_right
/-! ('Head', 'left') -/
def N_Head_left : List Str := ["self"]
theorem sc_Head_left : FnScope N_Head_left ["self"] (defScope s_Head_left) := ⟨rfl, rfl, rfl, by decide +kernel, rfl, by decide +kernel, by decide +kernel⟩
def m_Head_left : M Out := (mRet (mFld "Head" "_left" (mVar 0)))
def f_Head_left : List D → Option D := runP N_Head_left m_Head_left
/-! ('Head', 'name') -/
def N_Head_name : List Str := ["self"]
theorem sc_Head_name : FnScope N_Head_name ["self"] (defScope s_Head_name) := ⟨rfl, rfl, rfl, by decide +kernel, rfl, by decide +kernel, by decide +kernel⟩
def m_Head_name : M Out := (mRet (mFld "Head" "_name" (mVar 0)))
def f_Head_name : List D → Option D := runP N_Head_name m_Head_name
/-! (None, '_law_parts') -/
def N__law_parts : List Str := ["_law_made"]
theorem sc__law_parts : FnScope N__law_parts ["_law_made"] (defScope s__law_parts) := ⟨rfl, rfl, rfl, by decide +kernel, rfl, by decide +kernel, by decide +kernel⟩
def m__law_parts : M Out := (mRet (mLst (mCons (mProp f_Head_name "Head" (mVar 0)) (mCons (mProp f_Head_left "Head" (mVar 0)) (mCons (mProp f_Head_right "Head" (mVar 0)) (mCons (mProp f_Head_kinds "Head" (mVar 0)) (mCons (mProp f_Head_speed "Head" (mVar 0)) (mCons (mProp f_Head_changes "Head" (mVar 0)) mNil))))))))
def f__law_parts : List D → Option D := runP N__law_parts m__law_parts
/-! ('Head', '__repr__') -/
def N_Head_DreprD : List Str := ["self"]
theorem sc_Head_DreprD : FnScope N_Head_DreprD ["self"] (defScope s_Head_DreprD) := ⟨rfl, rfl, rfl, by decide +kernel, rfl, by decide +kernel, by decide +kernel⟩
def m_Head_DreprD : M Out := (mRet (mJoined (mCons (pur (D.str "Head(")) (mCons (op1 fmtRD (mFld "Head" "_name" (mVar 0))) (mCons (pur (D.str ", ")) (mCons (op1 fmtD (mFld "Head" "_left" (mVar 0))) (mCons (pur (D.str ", ")) (mCons (op1 fmtD (mFld "Head" "_right" (mVar 0))) (mCons (pur (D.str ", ")) (mCons (op1 fmtD (mFld "Head" "_kinds" (mVar 0))) (mCons (pur (D.str ", ")) (mCons (op1 fmtD (mFld "Head" "_speed" (mVar 0))) (mCons (pur (D.str ", ")) (mCons (op1 fmtD (mFld "Head" "_changes" (mVar 0))) (mCons (pur (D.str ")")) mNil)))))))))))))))
def f_Head_DreprD : List D → Option D := runP N_Head_DreprD m_Head_DreprD
/-! (None, '_law_is_head') -/
def N__law_is_head : List Str := ["_law_made", "_law_head_here", "_law_due_here", "_law_one"]
theorem sc__law_is_head : FnScope N__law_is_head ["_law_made", "_law_head_here"] (defScope s__law_is_head) := ⟨rfl, rfl, rfl, by decide +kernel, rfl, by decide +kernel, by decide +kernel⟩
def m__law_is_head : M Out := (mSeq (mAsg (mFn 1 f__law_due [] (mCons (mVar 1) mNil)) (mSet 2))
  (mRet (mAndV (op2 eqD (mCall reprX (mCons (mFn 1 f__law_parts [] (mCons (mVar 0) mNil)) mNil)) (mCall reprX (mCons (mVar 2) mNil))) (op2 eqD (mCall (reprO f_Head_DreprD "Head") (mCons (mVar 0) mNil)) (op2 addD (op2 addD (pur (D.str "Head(")) (mJoin (pur (D.str ", ")) (mComp (mIt (mVar 2)) [3] (mSet 3) (pur true) (mCall reprX (mCons (mVar 3) mNil))))) (pur (D.str ")")))))))
def f__law_is_head : List D → Option D := runP N__law_is_head m__law_is_head
/-! ('Head', '__eq__') -/
def N_Head_DeqD : List Str := ["self", "other"]
theorem sc_Head_DeqD : FnScope N_Head_DeqD ["self", "other"] (defScope s_Head_DeqD) := ⟨rfl, rfl, rfl, by decide +kernel, rfl, by decide +kernel, by decide +kernel⟩
def m_Head_DeqD : M Out := (mRet (mAndV (op1 (isiD tab_Head) (mVar 1)) (mAndV (op2 eqD (mFld "Head" "_name" (mVar 0)) (mFld "Head" "_name" (mVar 1))) (mAndV (op2 eqD (mFld "Head" "_left" (mVar 0)) (mFld "Head" "_left" (mVar 1))) (mAndV (op2 eqD (mFld "Head" "_right" (mVar 0)) (mFld "Head" "_right" (mVar 1))) (mAndV (op2 eqD (mFld "Head" "_kinds" (mVar 0)) (mFld "Head" "_kinds" (mVar 1))) (mAndV (op2 eqD (mFld "Head" "_speed" (mVar 0)) (mFld "Head" "_speed" (mVar 1))) (op2 eqD (mFld "Head" "_changes" (mVar 0)) (mFld "Head" "_changes" (mVar 1))))))))))
def f_Head_DeqD : List D → Option D := runP N_Head_DeqD m_Head_DeqD
/-! (None, '_law_copies_right') -/
def N__law_copies_right : List Str := ["_law_head_here", "_law_made", "_law_still", "_law_sorts", "_law_shifts"]
theorem sc__law_copies_right : FnScope N__law_copies_right ["_law_head_here"] (defScope s__law_copies_right) := ⟨rfl, rfl, rfl, by decide +kernel, rfl, by decide +kernel, by decide +kernel⟩
def m__law_copies_right : M Out := (mSeq (mParI [3, 4] (mIN (mNewL (mCons (op2 ixD (mVar 0) (pur (D.int 3))) mNil)) (mIN (mNewL (mCons (op2 ixD (mVar 0) (pur (D.int 5))) mNil)) mINil)))
  (mSeq (mAsg (mPeekN (mMakeV ci_0 "Head" (mKw 6 mNil (mCons (mVar 3) (mCons (mVar 4) (mCons (op2 ixD (mVar 0) (pur (D.int 4))) (mCons (op2 ixD (mVar 0) (pur (D.int 2))) (mCons (op2 ixD (mVar 0) (pur (D.int 1))) (mCons (op2 ixD (mVar 0) (pur (D.int 0))) mNil))))))))) (mSet 1))
  (mSeq (mIf (mOrB (mPeekB 3 (tst (op2 neD (mVar 3) (op2 ixD (mVar 0) (pur (D.int 3)))))) (mPeekB 4 (tst (op2 neD (mVar 4) (op2 ixD (mVar 0) (pur (D.int 5))))))) (mRet (pur (D.bl false))) (pur Out.nx))
  (mSeq (mDrop (mAct1 3 actAppend (pur (D.str "later"))))
  (mSeq (mDrop (mAct0 4 actClear))
  (mSeq (mAsg (mMakeV ci_1 "Head" (mCons (op2 ixD (mVar 0) (pur (D.int 0))) (mCons (op2 ixD (mVar 0) (pur (D.int 1))) (mCons (op2 ixD (mVar 0) (pur (D.int 2))) (mCons (mCall tupleD (mCons (op2 ixD (mVar 0) (pur (D.int 3))) mNil)) (mCons (op2 ixD (mVar 0) (pur (D.int 4))) mNil)))))) (mSet 2))
  (mSeq (mIf (mOrB (mNotB (tst (mFn 2 f__law_is_head [] (mCons (mVar 1) (mCons (mVar 0) mNil))))) (mNotB (tst (mFn 2 f__law_is_head [] (mCons (mVar 2) (mCons (op2 addD (mSlice (mVar 0) (pur none) (bnd (pur (D.int 5)) fun d => bnd (lft (asI d)) fun i => pur (some i))) (mTup (mCons (mLst mNil) mNil))) mNil)))))) (mRet (pur (D.bl false))) (pur Out.nx))
  (mRet (op2 (eqOwnD f_Head_DeqD "Head" allT) (mVar 1) (mMake 6 f_Head_DinitD "Head" [] (mCons (op2 ixD (mVar 0) (pur (D.int 0))) (mCons (op2 ixD (mVar 0) (pur (D.int 1))) (mCons (op2 ixD (mVar 0) (pur (D.int 2))) (mCons (mCall tupleD (mCons (op2 ixD (mVar 0) (pur (D.int 3))) mNil)) (mCons (op2 ixD (mVar 0) (pur (D.int 4))) (mCons (mCall tupleD (mCons (op2 ixD (mVar 0) (pur (D.int 5))) mNil)) mNil))))))))))))))))
def f__law_copies_right : List D → Option D := runP N__law_copies_right m__law_copies_right
/-! (None, '_law_steps') -/
def N__law_steps : List Str := ["_law_rng_here", "_law_head_here", "_law_found", "_law_tick", "_law_pace"]
theorem sc__law_steps : FnScope N__law_steps ["_law_rng_here", "_law_head_here"] (defScope s__law_steps) := ⟨rfl, rfl, rfl, by decide +kernel, rfl, by decide +kernel, by decide +kernel⟩
def m__law_steps : M Out := (mSeq (mOwn 2 (mCons (mFnI 0 f__law_number 0 [] mNil) (mCons (op2 subD (op2 powD (pur (D.int 10)) (pur (D.int 30))) (pur (D.int 1))) (mCons (op2 subD (pur (D.int 1)) (op2 powD (pur (D.int 10)) (pur (D.int 30)))) (mCons (pur (D.int 0)) mNil)))))
  (mSeq (mFor (mIt (op2 ixD (mVar 1) (pur (D.int 5)))) (mGtup [(mSet 3), (mSet 4)]) (mDrop (mAct1 2 actExtend (mLst (mCons (op2 subD (mVar 3) (pur (D.int 1))) (mCons (mVar 3) (mCons (op2 addD (mVar 3) (pur (D.int 1))) mNil)))))))
  (mRet (mVar 2))))
def f__law_steps : Cell → List D → Option (D × Cell) := runI N__law_steps m__law_steps
/-! (None, 'check_integer') -/
def N_check_integer : List Str := ["value"]
theorem sc_check_integer : FnScope N_check_integer ["value"] (defScope s_check_integer) := ⟨rfl, rfl, rfl, by decide +kernel, rfl, by decide +kernel, by decide +kernel⟩
def m_check_integer : M Out := (mIf (mNotB (tst (mFn 1 f_is_integer [] (mCons (mVar 0) mNil)))) (fun _ => none) (pur Out.nx))
def f_check_integer : List D → Option D := runP N_check_integer m_check_integer
/-! ('Head', 'speed_at') -/
def N_Head_speed_at : List Str := ["self", "step", "speed", "tick", "following"]
theorem sc_Head_speed_at : FnScope N_Head_speed_at ["self", "step"] (defScope s_Head_speed_at) := ⟨rfl, rfl, rfl, by decide +kernel, rfl, by decide +kernel, by decide +kernel⟩
def m_Head_speed_at : M Out := (mSeq (mDrop (mFn 1 f_check_integer [] (mCons (mVar 1) mNil)))
  (mSeq (mAsg (mFld "Head" "_speed" (mVar 0)) (mSet 2))
  (mSeq (mFor (mIt (mFld "Head" "_changes" (mVar 0))) (mGtup [(mSet 3), (mSet 4)]) (mIf (tst (op2 leD (mVar 3) (mVar 1))) (mAsg (mVar 4) (mSet 2)) (pur Out.nx)))
  (mRet (mVar 2)))))
def f_Head_speed_at : List D → Option D := runP N_Head_speed_at m_Head_speed_at
def cf_2 : List D → Option D := kwf 1 1 f_Head_speed_at fun ds es => arrL [(0, 0), (3, 0)] ds [] [] es
instance (x0 y0 : D) : KwEq cf_2 [x0, y0] f_Head_speed_at [x0, y0] := ⟨by first | rfl | decide⟩
/-! (None, '_law_speed') -/
def N__law_speed : List Str := ["_law_head_here", "_law_moment", "_law_found", "_law_tick", "_law_pace"]
theorem sc__law_speed : FnScope N__law_speed ["_law_head_here", "_law_moment"] (defScope s__law_speed) := ⟨rfl, rfl, rfl, by decide +kernel, rfl, by decide +kernel, by decide +kernel⟩
def m__law_speed : M Out := (mSeq (mAsg (op2 ixD (mVar 0) (pur (D.int 4))) (mSet 2))
  (mSeq (mFor (mIt (op2 ixD (mVar 0) (pur (D.int 5)))) (mGtup [(mSet 3), (mSet 4)]) (mAsg (mIf (tst (op2 leD (mVar 3) (mVar 1))) (mVar 4) (mVar 2)) (mSet 2)))
  (mRet (mVar 2))))
def f__law_speed : List D → Option D := runP N__law_speed m__law_speed
/-! ('Head', 'does') -/
def N_Head_does : List Str := ["self", "kind"]
theorem sc_Head_does : FnScope N_Head_does ["self", "kind"] (defScope s_Head_does) := ⟨rfl, rfl, rfl, by decide +kernel, rfl, by decide +kernel, by decide +kernel⟩
def m_Head_does : M Out := (mRet (mAndV (op1 (isiD tab_str) (mVar 1)) (op2 (inD false) (mVar 1) (mFld "Head" "_kinds" (mVar 0)))))
def f_Head_does : List D → Option D := runP N_Head_does m_Head_does
def cf_3 : List D → Option D := kwf 1 1 f_Head_does fun ds es => arrL [(0, 0), (3, 0)] ds [] [] es
instance (x0 y0 : D) : KwEq cf_3 [x0, y0] f_Head_does [x0, y0] := ⟨by first | rfl | decide⟩
/-! (None, '_law_is_told') -/
def N__law_is_told : List Str := ["_law_rng_here", "_law_made", "_law_head_here", "_law_moment", "_law_first", "_law_odd", "_law_thing"]
theorem sc__law_is_told : FnScope N__law_is_told ["_law_rng_here", "_law_made", "_law_head_here"] (defScope s__law_is_told) := ⟨rfl, rfl, rfl, by decide +kernel, rfl, by decide +kernel, by decide +kernel⟩
def m__law_is_told : M Out := (mSeq (mFor (mIt (mFnI 1 f__law_steps 0 [] (mCons (mVar 2) mNil))) (mSet 3) (mIf (tst (op2 neD (mCall reprX (mCons (mLst (mCons (mMeth 2 f_Head_speed_at "Head" "speed_at" [] (mVar 1) (mCons (mVar 3) mNil)) (mCons (mMethV cf_2 "Head" "speed_at" (mVar 1) (mKw 1 mNil (mCons (mVar 3) mNil))) mNil))) mNil)) (mCall reprX (mCons (op2 mulD (mLst (mCons (mFn 2 f__law_speed [] (mCons (mVar 2) (mCons (mVar 3) mNil))) mNil)) (pur (D.int 2))) mNil)))) (mRet (pur (D.bl false))) (pur Out.nx)))
  (mSeq (mAsg (op2 ixD (op2 ixD (mVar 2) (pur (D.int 3))) (pur (D.int 0))) (mSet 4))
  (mSeq (mAsg (mLst (mCons (pur D.non) (mCons (pur (D.int 0)) (mCons (pur (D.bl true)) (mCons (pur (D.str "")) (mCons (mLst mNil) (mCons (pur (.dct [] [])) (mCons (mTup (mCons (mVar 4) mNil)) (mCons (mLst (mCons (mVar 4) mNil)) (mCons (op1 upperD (mVar 4)) (mCons (op2 addD (mVar 4) (pur (D.str "q"))) (mCons (mSlice (mVar 4) (pur none) (bnd (op1 negD (pur (D.int 1))) fun d => bnd (lft (asI d)) fun i => pur (some i))) (mCons (op2 ixD (mVar 2) (pur (D.int 0))) (mCons (op2 ixD (mVar 2) (pur (D.int 3))) mNil)))))))))))))) (mSet 5))
  (mSeq (mFor (mIt (op2 addD (op2 ixD (mVar 2) (pur (D.int 3))) (mVar 5))) (mSet 6) (mIf (tst (op2 neD (mCall reprX (mCons (mLst (mCons (mMeth 2 f_Head_does "Head" "does" [] (mVar 1) (mCons (mVar 6) mNil)) (mCons (mMethV cf_3 "Head" "does" (mVar 1) (mKw 1 mNil (mCons (mVar 6) mNil))) mNil))) mNil)) (mCall reprX (mCons (op2 mulD (mLst (mCons (mAndV (op1 (isiD tab_str) (mVar 6)) (op2 (inD false) (mVar 6) (op2 ixD (mVar 2) (pur (D.int 3))))) mNil)) (pur (D.int 2))) mNil)))) (mRet (pur (D.bl false))) (pur Out.nx)))
  (mRet (pur (D.bl true)))))))
def f__law_is_told : Cell → List D → Option (D × Cell) := runI N__law_is_told m__law_is_told
/-! (None, '_law_others') -/
def N__law_others : List Str := ["_law_rng_here", "_law_head_here", "_law_names_here", "_law_found", "_law_sorts", "_law_shifts", "_law_turn", "_law_tick", "_law_pace"]
theorem sc__law_others : FnScope N__law_others ["_law_rng_here", "_law_head_here", "_law_names_here"] (defScope s__law_others) := ⟨rfl, rfl, rfl, by decide +kernel, rfl, by decide +kernel, by decide +kernel⟩
def m__law_others : M Out := (mSeq (bnd (mCons (op2 ixD (mVar 1) (pur (D.int 3))) (mCons (op2 ixD (mVar 1) (pur (D.int 5))) mNil)) fun ds => bnd (mUnp [mSet 4, mSet 5] ds) fun _ => pur .nx)
  (mSeq (mOwn 3 (mCons (op2 addD (op2 addD (mSlice (mVar 1) (pur none) (bnd (pur (D.int 3)) fun d => bnd (lft (asI d)) fun i => pur (some i))) (mTup (mCons (op1 revD (mVar 4)) mNil))) (mSlice (mVar 1) (bnd (pur (D.int 4)) fun d => bnd (lft (asI d)) fun i => pur (some i)) (pur none))) (mCons (op2 addD (mSlice (mVar 1) (pur none) (bnd (pur (D.int 5)) fun d => bnd (lft (asI d)) fun i => pur (some i))) (mTup (mCons (mCall listD (mCons (mFn 2 f__law_left [] (mCons (op2 ixD (mVar 1) (pur (D.int 4))) (mCons (mVar 5) mNil))) mNil)) mNil))) mNil)))
  (mSeq (mDrop (mAct1 3 actAppend (op2 addD (mTup (mCons (op2 ixD (mVar 2) (pur (D.int 5))) mNil)) (mSlice (mVar 1) (bnd (pur (D.int 1)) fun d => bnd (lft (asI d)) fun i => pur (some i)) (pur none)))))
  (mSeq (mDrop (mAct1 3 actAppend (op2 addD (op2 addD (mSlice (mVar 1) (pur none) (bnd (pur (D.int 1)) fun d => bnd (lft (asI d)) fun i => pur (some i))) (mTup (mCons (op2 addD (op2 ixD (mVar 1) (pur (D.int 1))) (pur (D.int 1))) mNil))) (mSlice (mVar 1) (bnd (pur (D.int 2)) fun d => bnd (lft (asI d)) fun i => pur (some i)) (pur none)))))
  (mSeq (mDrop (mAct1 3 actAppend (op2 addD (op2 addD (mSlice (mVar 1) (pur none) (bnd (pur (D.int 2)) fun d => bnd (lft (asI d)) fun i => pur (some i))) (mTup (mCons (op2 addD (op2 ixD (mVar 1) (pur (D.int 2))) (pur (D.int 1))) mNil))) (mSlice (mVar 1) (bnd (pur (D.int 3)) fun d => bnd (lft (asI d)) fun i => pur (some i)) (pur none)))))
  (mSeq (mDrop (mAct1 3 actAppend (op2 addD (mTup (mCons (op2 ixD (mVar 1) (pur (D.int 0))) (mCons (op2 ixD (mVar 1) (pur (D.int 2))) (mCons (op2 ixD (mVar 1) (pur (D.int 1))) mNil)))) (mSlice (mVar 1) (bnd (pur (D.int 3)) fun d => bnd (lft (asI d)) fun i => pur (some i)) (pur none)))))
  (mSeq (mDrop (mAct1 3 actAppend (op2 addD (op2 addD (mSlice (mVar 1) (pur none) (bnd (pur (D.int 3)) fun d => bnd (lft (asI d)) fun i => pur (some i))) (mTup (mCons (op2 addD (mLst (mCons (op2 ixD (mVar 2) (pur (D.int 6))) mNil)) (mSlice (mVar 4) (bnd (pur (D.int 1)) fun d => bnd (lft (asI d)) fun i => pur (some i)) (pur none))) mNil))) (mSlice (mVar 1) (bnd (pur (D.int 4)) fun d => bnd (lft (asI d)) fun i => pur (some i)) (pur none)))))
  (mSeq (mDrop (mAct1 3 actAppend (op2 addD (op2 addD (mSlice (mVar 1) (pur none) (bnd (pur (D.int 3)) fun d => bnd (lft (asI d)) fun i => pur (some i))) (mTup (mCons (mSlice (mVar 4) (pur none) (bnd (mCall maxD (mCons (pur (D.int 1)) (mCons (op2 subD (mCall lenD (mCons (mVar 4) mNil)) (pur (D.int 1))) mNil))) fun d => bnd (lft (asI d)) fun i => pur (some i))) mNil))) (mSlice (mVar 1) (bnd (pur (D.int 4)) fun d => bnd (lft (asI d)) fun i => pur (some i)) (pur none)))))
  (mSeq (mDrop (mAct1 3 actAppend (op2 addD (op2 addD (mSlice (mVar 1) (pur none) (bnd (pur (D.int 4)) fun d => bnd (lft (asI d)) fun i => pur (some i))) (mTup (mCons (mFnI 1 f__law_choice 0 [] (mCons (mLst (mCons (pur (D.int 0)) (mCons (pur (D.int 1)) (mCons (pur (D.int 2)) mNil)))) mNil)) mNil))) (mSlice (mVar 1) (bnd (pur (D.int 5)) fun d => bnd (lft (asI d)) fun i => pur (some i)) (pur none)))))
  (mSeq (mDrop (mAct1 3 actAppend (op2 addD (mSlice (mVar 1) (pur none) (bnd (pur (D.int 5)) fun d => bnd (lft (asI d)) fun i => pur (some i))) (mTup (mCons (mComp (bnd (mCons (mVar 5) mNil) fun ds => lft (enumA ds)) [6, 7, 8] (mGtup [(mSet 6), (mGtup [(mSet 7), (mSet 8)])]) (pur true) (mTup (mCons (mVar 7) (mCons (op2 modD (mCall intD (mCons (op2 addD (op2 addD (mVar 8) (mVar 6)) (pur (D.int 1))) mNil)) (pur (D.int 3))) mNil)))) mNil)))))
  (mSeq (mDrop (mAct1 3 actAppend (op2 addD (mSlice (mVar 1) (pur none) (bnd (pur (D.int 5)) fun d => bnd (lft (asI d)) fun i => pur (some i))) (mTup (mCons (mComp (mIt (mVar 5)) [7, 8] (mGtup [(mSet 7), (mSet 8)]) (pur true) (mTup (mCons (op2 addD (mVar 7) (pur (D.int 1))) (mCons (mVar 8) mNil)))) mNil)))))
  (mRet (op2 addD (mVar 3) (mLst (mCons (op2 addD (mSlice (mVar 1) (pur none) (bnd (pur (D.int 5)) fun d => bnd (lft (asI d)) fun i => pur (some i))) (mTup (mCons (mSlice (mVar 5) (pur none) (bnd (mFnI 1 f__law_draw 0 [] (mCons (pur (D.int 4)) mNil)) fun d => bnd (lft (asI d)) fun i => pur (some i))) mNil))) mNil)))))))))))))))
def f__law_others : Cell → List D → Option (D × Cell) := runI N__law_others m__law_others
/-! ('Head', 'with_speed') -/
def N_Head_with_speed : List Str := ["self", "speed", "changes"]
theorem sc_Head_with_speed : FnScope N_Head_with_speed ["self", "speed", "changes"] (defScope s_Head_with_speed) := ⟨rfl, rfl, rfl, by decide +kernel, rfl, by decide +kernel, by decide +kernel⟩
def m_Head_with_speed : M Out := (mRet (mMake 6 f_Head_DinitD "Head" [] (mCons (mFld "Head" "_name" (mVar 0)) (mCons (mFld "Head" "_left" (mVar 0)) (mCons (mFld "Head" "_right" (mVar 0)) (mCons (mFld "Head" "_kinds" (mVar 0)) (mCons (mVar 1) (mCons (mVar 2) mNil))))))))
def f_Head_with_speed : List D → Option D := runP N_Head_with_speed m_Head_with_speed
def cf_4 : List D → Option D := stf 2 0 false f_Head_with_speed fun ds es => arrL [(0, 0), (0, 1)] ds [] [] es
instance (x0 x1 : D) : KwEq cf_4 [x0, x1] f_Head_with_speed [x0, x1, D.tup []] := ⟨by first | rfl | decide⟩
instance (x0 x1 r0 : D) : KwEq cf_4 [x0, x1, r0] f_Head_with_speed [x0, x1, D.tup [r0]] := ⟨by first | rfl | decide⟩
instance (x0 x1 r0 r1 : D) : KwEq cf_4 [x0, x1, r0, r1] f_Head_with_speed [x0, x1, D.tup [r0, r1]] := ⟨by first | rfl | decide⟩
instance (x0 x1 r0 r1 r2 : D) : KwEq cf_4 [x0, x1, r0, r1, r2] f_Head_with_speed [x0, x1, D.tup [r0, r1, r2]] := ⟨by first | rfl | decide⟩
instance (x0 x1 r0 r1 r2 r3 : D) : KwEq cf_4 [x0, x1, r0, r1, r2, r3] f_Head_with_speed [x0, x1, D.tup [r0, r1, r2, r3]] := ⟨by first | rfl | decide⟩
instance (x0 x1 r0 r1 r2 r3 r4 : D) : KwEq cf_4 [x0, x1, r0, r1, r2, r3, r4] f_Head_with_speed [x0, x1, D.tup [r0, r1, r2, r3, r4]] := ⟨by first | rfl | decide⟩
def cf_5 : List D → Option D := stf 1 1 true f_Head_with_speed fun ds es => arrL [(0, 0), (3, 0)] ds [] [] es
instance (x0 y0 : D) : KwEq cf_5 [x0, y0] f_Head_with_speed [x0, y0, D.tup []] := ⟨by first | rfl | decide⟩
/-! (None, '_law_with') -/
def N__law_with : List Str := ["_law_made", "_law_pace", "_law_shifts"]
theorem sc__law_with : FnScope N__law_with ["_law_made", "_law_pace", "_law_shifts"] (defScope s__law_with) := ⟨rfl, rfl, rfl, by decide +kernel, rfl, by decide +kernel, by decide +kernel⟩
def m__law_with : M Out := (mSeq (mIf (tst (op2 eqD (mCall lenD (mCons (mVar 2) mNil)) (pur (D.int 0)))) (mRet (mMethV cf_4 "Head" "with_speed" (mVar 0) (mCons (mVar 1) mNil))) (pur Out.nx))
  (mSeq (mIf (tst (op2 eqD (mCall lenD (mCons (mVar 2) mNil)) (pur (D.int 1)))) (mRet (mMethV cf_4 "Head" "with_speed" (mVar 0) (mCons (mVar 1) (mCons (op2 ixD (mVar 2) (pur (D.int 0))) mNil)))) (pur Out.nx))
  (mSeq (mIf (tst (op2 eqD (mCall lenD (mCons (mVar 2) mNil)) (pur (D.int 2)))) (mRet (mMethV cf_4 "Head" "with_speed" (mVar 0) (mCons (mVar 1) (mCons (op2 ixD (mVar 2) (pur (D.int 0))) (mCons (op2 ixD (mVar 2) (pur (D.int 1))) mNil))))) (pur Out.nx))
  (mRet (mMethV cf_4 "Head" "with_speed" (mVar 0) (mCons (mVar 1) (mCons (op2 ixD (mVar 2) (pur (D.int 0))) (mCons (op2 ixD (mVar 2) (pur (D.int 1))) (mCons (op2 ixD (mVar 2) (pur (D.int 2))) mNil)))))))))
def f__law_with : List D → Option D := runP N__law_with m__law_with
/-! (None, '_law_right') -/
def N__law_right : List Str := ["_law_rng_here", "_law_names_here", "_law_one", "_law_fresh", "_law_head_here", "_law_more", "_law_made", "_law_other", "_law_due_here"]
theorem sc__law_right : FnScope N__law_right ["_law_rng_here"] (defScope s__law_right) := ⟨rfl, rfl, rfl, by decide +kernel, rfl, by decide +kernel, by decide +kernel⟩
def m__law_right : M Out := (mSeq (mAsg (mFnI 1 f__law_names 0 [] (mCons (pur (D.int 7)) mNil)) (mSet 1))
  (mSeq (bnd (mCons (mFnI 1 f__law_head 0 [] (mCons (mVar 1) mNil)) (mCons (mFnI 1 f__law_head 0 [] (mCons (op2 addD (mSlice (mVar 1) (bnd (pur (D.int 1)) fun d => bnd (lft (asI d)) fun i => pur (some i)) (pur none)) (mSlice (mVar 1) (pur none) (bnd (pur (D.int 1)) fun d => bnd (lft (asI d)) fun i => pur (some i)))) mNil)) mNil)) fun ds => bnd (mUnp [mSet 4, mSet 5] ds) fun _ => pur .nx)
  (mSeq (bnd (mCons (mFn 1 f__law_real [] (mCons (mVar 4) mNil)) (mCons (mFn 1 f__law_real [] (mCons (mVar 5) mNil)) mNil)) fun ds => bnd (mUnp [mSet 6, mSet 7] ds) fun _ => pur .nx)
  (mSeq (mIf (mOrB (mNotB (tst (mFn 2 f__law_is_head [] (mCons (mVar 6) (mCons (mVar 4) mNil))))) (mOrB (mNotB (tst (mFn 2 f__law_is_head [] (mCons (mVar 7) (mCons (mVar 5) mNil))))) (mNotB (tst (mFn 1 f__law_copies_right [] (mCons (mVar 4) mNil)))))) (mRet (pur (D.bl false))) (pur Out.nx))
  (mSeq (mIf (mOrB (mNotB (tst (mFnI 2 f__law_is_told 0 [] (mCons (mVar 6) (mCons (mVar 4) mNil))))) (mOrB (mNotB (tst (mFnI 2 f__law_is_told 0 [] (mCons (mVar 7) (mCons (mVar 5) mNil))))) (mNotB (tst (mFn 2 f__law_is_head [] (mCons (mVar 6) (mCons (mVar 4) mNil))))))) (mRet (pur (D.bl false))) (pur Out.nx))
  (mSeq (mFor (mIt (op2 addD (mFnI 2 f__law_others 0 [] (mCons (mVar 4) (mCons (mVar 1) mNil))) (mLst (mCons (mVar 5) mNil)))) (mSet 2) (mSeq (mAsg (op2 eqD (mFn 1 f__law_due [] (mCons (mVar 2) mNil)) (mFn 1 f__law_due [] (mCons (mVar 4) mNil))) (mSet 8))
  (mIf (tst (op2 neD (mLst (mCons (op2 (eqOwnD f_Head_DeqD "Head" allT) (mVar 6) (mFn 1 f__law_real [] (mCons (mVar 2) mNil))) (mCons (op2 (eqOwnD f_Head_DeqD "Head" allT) (mFn 1 f__law_real [] (mCons (mVar 2) mNil)) (mVar 6)) (mCons (op2 (neOwnD f_Head_DeqD "Head" allT) (mVar 6) (mFn 1 f__law_real [] (mCons (mVar 2) mNil))) mNil)))) (mLst (mCons (mVar 8) (mCons (mVar 8) (mCons (mNotV (mVar 8)) mNil)))))) (mRet (pur (D.bl false))) (pur Out.nx))))
  (mSeq (mAsg (mFn 3 f__law_with [] (mCons (mVar 6) (mCons (op2 ixD (mVar 5) (pur (D.int 4))) (mCons (op2 ixD (mVar 5) (pur (D.int 5))) mNil)))) (mSet 3))
  (mSeq (mIf (mOrB (mNotB (tst (mFn 2 f__law_is_head [] (mCons (mVar 3) (mCons (op2 addD (mSlice (mVar 4) (pur none) (bnd (pur (D.int 4)) fun d => bnd (lft (asI d)) fun i => pur (some i))) (mSlice (mVar 5) (bnd (pur (D.int 4)) fun d => bnd (lft (asI d)) fun i => pur (some i)) (pur none))) mNil))))) (mNotB (tst (mFnI 2 f__law_is_told 0 [] (mCons (mVar 3) (mCons (op2 addD (mSlice (mVar 4) (pur none) (bnd (pur (D.int 4)) fun d => bnd (lft (asI d)) fun i => pur (some i))) (mSlice (mVar 5) (bnd (pur (D.int 4)) fun d => bnd (lft (asI d)) fun i => pur (some i)) (pur none))) mNil)))))) (mRet (pur (D.bl false))) (pur Out.nx))
  (mSeq (mIf (mOrB (mNotB (tst (mFn 2 f__law_is_head [] (mCons (mVar 6) (mCons (mVar 4) mNil))))) (mNotB (tst (mFnI 2 f__law_is_told 0 [] (mCons (mVar 6) (mCons (mVar 4) mNil)))))) (mRet (pur (D.bl false))) (pur Out.nx))
  (mSeq (mIf (mNotB (tst (mFn 2 f__law_is_head [] (mCons (mMethV cf_5 "Head" "with_speed" (mVar 6) (mKw 1 mNil (mCons (op2 ixD (mVar 5) (pur (D.int 4))) mNil))) (mCons (op2 addD (mSlice (mVar 4) (pur none) (bnd (pur (D.int 4)) fun d => bnd (lft (asI d)) fun i => pur (some i))) (mTup (mCons (op2 ixD (mVar 5) (pur (D.int 4))) (mCons (mLst mNil) mNil)))) mNil))))) (mRet (pur (D.bl false))) (pur Out.nx))
  (mRet (mAndV (op2 (neOwnD f_Head_DeqD "Head" allT) (mVar 6) (mCall tupleD (mCons (mFn 1 f__law_due [] (mCons (mVar 4) mNil)) mNil))) (mAndV (op2 (neOwnD f_Head_DeqD "Head" allT) (mVar 6) (mCall (reprO f_Head_DreprD "Head") (mCons (mVar 6) mNil))) (op2 (neOwnD f_Head_DeqD "Head" allT) (mVar 6) (op2 ixD (mVar 4) (pur (D.int 0)))))))))))))))))
def f__law_right : Cell → List D → Option (D × Cell) := runI N__law_right m__law_right
/-! (None, '_law_rng') -/
def N__law_rng : List Str := ["_law_script", "_law_k", "_law_cell"]
theorem sc__law_rng : FnScope N__law_rng ["_law_script", "_law_k"] (defScope s__law_rng) := ⟨rfl, rfl, rfl, by decide +kernel, rfl, by decide +kernel, by decide +kernel⟩
def m__law_rng : M Out := (mAsg (mIf (tst (op2 ltD (mVar 1) (mCall lenD (mCons (mVar 0) mNil)))) (op2 ixD (mVar 0) (mVar 1)) (op2 addD (op2 mulD (pur (D.int 11)) (mVar 1)) (pur (D.int 3)))) (mSet 2))
def ml__law_rng : M (List D) := (mCons (mCall maxD (mCons (pur (D.int 0)) (mCons (op2 subD (mCall absD (mCons (mVar 2) mNil)) (op2 powD (pur (D.int 10)) (pur (D.int 18)))) mNil))) (mCons (op2 addD (op2 modD (mCall intD (mCons (op2 addD (op2 addD (op2 mulD (op2 modD (mCall intD (mCons (mCall absD (mCons (mVar 2) mNil)) mNil)) (pur (D.int 2147483549))) (pur (D.int 48271))) (op2 mulD (pur (D.int 7919)) (mVar 1))) (pur (D.int 31))) mNil)) (pur (D.int 2147483629))) (pur (D.int 1))) mNil))
def f__law_rng : List D → Option Cell := runO N__law_rng m__law_rng ml__law_rng
/-! (None, 'law') -/
def N_law : List Str := ["_law_script", "_law_k"]
theorem sc_law : FnScope N_law ["_law_script"] (defScope s_law) := ⟨rfl, rfl, rfl, by decide +kernel, rfl, by decide +kernel, by decide +kernel⟩
def m_law : M Out := (mSeq (mIf (tst (op2 neD (mLst (mCons (pur (D.int 4)) (mCons (pur (D.int 3)) mNil))) (mLst (mCons (pur (D.int 4)) (mCons (pur (D.int 3)) mNil))))) (mRet (pur (D.bl false))) (pur Out.nx))
  (mRet (mCall allD (mCons (mComp (bnd (mCons (mCall maxD (mCons (pur (D.int 1)) (mCons (mCall minD (mCons (pur (D.int 4)) (mCons (mCall lenD (mCons (mVar 0) mNil)) mNil))) mNil))) mNil) fun ds => lft (rng1D ds)) [1] (mSet 1) (pur true) (mFnF 2 f__law_right f__law_rng (mCons (mVar 0) (mCons (mVar 1) mNil)))) mNil))))
def f_law : List D → Option D := runP N_law m_law
structure Txt (K : PySem.W.Frag) (mg : Str → Option Value) : Prop where
  v_Head_MOST_CHANGES : ∃ u, ClX.CRead K (He.ga K "Head") (.type "type") ∧ ClX.CVal K (He.ga K "Head") (.type "type") "MOST_CHANGES" (.int 3) u
  g_Head : mg "Head" = some (.ref (He.ga K "Head"))
  v_Head_MOST_KINDS : ∃ u, ClX.CRead K (He.ga K "Head") (.type "type") ∧ ClX.CVal K (He.ga K "Head") (.type "type") "MOST_KINDS" (.int 4) u
  f_range : mg "range" = none
  f_len : mg "len" = none
  f_min : mg "min" = none
  f_max : mg "max" = none
  f_divmod : mg "divmod" = none
  f_int : mg "int" = none
  g__law_draw : mg "_law_draw" = some (.ref (He.ga K "_law_draw"))
  g__law_choice : mg "_law_choice" = some (.ref (He.ga K "_law_choice"))
  g__law_names : mg "_law_names" = some (.ref (He.ga K "_law_names"))
  g__law_number : mg "_law_number" = some (.ref (He.ga K "_law_number"))
  g__law_head : mg "_law_head" = some (.ref (He.ga K "_law_head"))
  k_Head : Mk K (He.ga K "Head") (He.ma K (He.ga K "Head") "__init__")
  c_Head : Cls K (He.ga K "Head")
  i_Head : IsiC K (He.ga K "Head")
  t_tab_str : TabOk K mg ((fun _ => Value.type "str") K) tab_str
  f_isinstance : mg "isinstance" = none
  f_str : mg "str" = none
  f_all : mg "all" = none
  g_is_name : mg "is_name" = some (.ref (He.ga K "is_name"))
  g_check_name : mg "check_name" = some (.ref (He.ga K "check_name"))
  t_tab_int : TabOk K mg ((fun _ => Value.type "int") K) tab_int
  t_tab_bool : TabOk K mg ((fun _ => Value.type "bool") K) tab_bool
  f_bool : mg "bool" = none
  g_is_integer : mg "is_integer" = some (.ref (He.ga K "is_integer"))
  g_is_positive : mg "is_positive" = some (.ref (He.ga K "is_positive"))
  g_check_positive : mg "check_positive" = some (.ref (He.ga K "check_positive"))
  t_tab_list_tuple : TabTOk K mg ((fun _ => [Value.type "list", Value.type "tuple"]) K) tab_list_tuple
  f_tuple : mg "tuple" = none
  f_list : mg "list" = none
  g_is_list : mg "is_list" = some (.ref (He.ga K "is_list"))
  f_enumerate : mg "enumerate" = none
  g_check_kinds : mg "check_kinds" = some (.ref (He.ga K "check_kinds"))
  g_is_count : mg "is_count" = some (.ref (He.ga K "is_count"))
  g_check_count : mg "check_count" = some (.ref (He.ga K "check_count"))
  t_tab_tuple : TabOk K mg ((fun _ => Value.type "tuple") K) tab_tuple
  g_is_pair : mg "is_pair" = some (.ref (He.ga K "is_pair"))
  g_check_changes : mg "check_changes" = some (.ref (He.ga K "check_changes"))
  n_Head__name : NoAttr K (He.ga K "Head") "_name"
  n_Head__left : NoAttr K (He.ga K "Head") "_left"
  n_Head__right : NoAttr K (He.ga K "Head") "_right"
  f_sorted : mg "sorted" = none
  n_Head__kinds : NoAttr K (He.ga K "Head") "_kinds"
  n_Head__speed : NoAttr K (He.ga K "Head") "_speed"
  g_changes_left : mg "changes_left" = some (.ref (He.ga K "changes_left"))
  n_Head__changes : NoAttr K (He.ga K "Head") "_changes"
  g__law_real : mg "_law_real" = some (.ref (He.ga K "_law_real"))
  g__law_left : mg "_law_left" = some (.ref (He.ga K "_law_left"))
  g__law_due : mg "_law_due" = some (.ref (He.ga K "_law_due"))
  p_Head_changes : PropOf K (He.ga K "Head") "changes" (He.ma K (He.ga K "Head") "changes") (pgA "Head" "changes" K)
  p_Head_speed : PropOf K (He.ga K "Head") "speed" (He.ma K (He.ga K "Head") "speed") (pgA "Head" "speed" K)
  p_Head_kinds : PropOf K (He.ga K "Head") "kinds" (He.ma K (He.ga K "Head") "kinds") (pgA "Head" "kinds" K)
  p_Head_right : PropOf K (He.ga K "Head") "right" (He.ma K (He.ga K "Head") "right") (pgA "Head" "right" K)
  p_Head_left : PropOf K (He.ga K "Head") "left" (He.ma K (He.ga K "Head") "left") (pgA "Head" "left" K)
  p_Head_name : PropOf K (He.ga K "Head") "name" (He.ma K (He.ga K "Head") "name") (pgA "Head" "name" K)
  g__law_parts : mg "_law_parts" = some (.ref (He.ga K "_law_parts"))
  f_repr : mg "repr" = none
  sys : SysOk K
  s_Head_DreprD : PySem.W.findIn K (.ref (He.ga K "Head")) "__repr__" = some (some (.ref (He.ma K (He.ga K "Head") "__repr__"))) ∧ PySem.W.isFn K (.ref (He.ma K (He.ga K "Head") "__repr__")) = true
  g__law_is_head : mg "_law_is_head" = some (.ref (He.ga K "_law_is_head"))
  s_Head_DeqD : PySem.W.findIn K (.ref (He.ga K "Head")) "__eq__" = some (some (.ref (He.ma K (He.ga K "Head") "__eq__"))) ∧ PySem.W.isFn K (.ref (He.ma K (He.ga K "Head") "__eq__")) = true
  o_Head : FirstOk K mg (He.ga K "Head") allT
  t_tab_Head : TabOk K mg ((fun K => Value.ref (He.ga K "Head")) K) tab_Head
  g__law_copies_right : mg "_law_copies_right" = some (.ref (He.ga K "_law_copies_right"))
  g__law_steps : mg "_law_steps" = some (.ref (He.ga K "_law_steps"))
  m_Head_speed_at : Meth K (He.ga K "Head") "speed_at" (He.ma K (He.ga K "Head") "speed_at")
  g_check_integer : mg "check_integer" = some (.ref (He.ga K "check_integer"))
  g__law_speed : mg "_law_speed" = some (.ref (He.ga K "_law_speed"))
  m_Head_does : Meth K (He.ga K "Head") "does" (He.ma K (He.ga K "Head") "does")
  g__law_is_told : mg "_law_is_told" = some (.ref (He.ga K "_law_is_told"))
  g__law_others : mg "_law_others" = some (.ref (He.ga K "_law_others"))
  ne_Head : PySem.W.findIn K (.ref (He.ga K "Head")) "__ne__" = some (some (.builtin "object.__ne__"))
  m_Head_with_speed : Meth K (He.ga K "Head") "with_speed" (He.ma K (He.ga K "Head") "with_speed")
  g__law_with : mg "_law_with" = some (.ref (He.ga K "_law_with"))
  g__law_right : mg "_law_right" = some (.ref (He.ga K "_law_right"))
  f_abs : mg "abs" = none
  g__law_rng : mg "_law_rng" = some (.ref (He.ga K "_law_rng"))
  dt_Head_DinitD_0 : ∀ F : Hp, Rep K mg F (.tup []) (.ref (He.dflAt ("Head", some "__init__") 0 K))
section
variable {P : Program} {w : World} {K : PySem.W.Frag} {mg : Str → Option Value} {base : Heap}
theorem ok__law_draw (T : Txt K mg) {fd : FuncData} (F : FunD K d__law_draw.name d__law_draw.qual d__law_draw.params d__law_draw.body d__law_draw.scope (d__law_draw.dvs K) (d__law_draw.kws K) (He.ga K "_law_draw") fd)  :
    FnG P w K mg base CX0 1 (He.ga K "_law_draw") fd ["_law_rng_here", "_law_many"] (spI K mg 1 f__law_draw) :=
  fn_i (k := 0) (N := N__law_draw) (m := m__law_draw) F sc__law_draw (by decide) fun cdv A outer s H E hr hgd => ⟨_, (pss_consd (ps_ifd (pt_cmp o_gt (pd_item (i := 0) (pv 0) pd_int fun _ _ => rfl) pd_int (nomark _)) (pss_consd (ps_asgd (pd_callB c_divmod (by rfl) T.f_divmod bt_divmod (pa_consd (pd_item (i := 0) (pv 0) pd_int fun _ _ => rfl) (pa_consd (pd_var 1) pa_nild))) (pg_tupd rfl (pgs_consd (pg_subd (i := 0) (pv 0) pd_int) (pgs_consd (pg_named (i := 2) sc__law_draw.nd rfl (by first | exact Or.inl rfl | exact Or.inr rfl)) pgs_nild))))
  (pss_oned (ps_retd (pd_var 2)))) pss_nild)
  (pss_consd (ps_asgd (pd_op o_mod (pd_callTy c_int (by rfl) T.f_int bt_int (pa_consd (pd_op (r := rAddA K) o_add (pd_op o_mul (pd_item (i := 0) (pv 0) pd_int fun _ _ => rfl) pd_int) pd_int) pa_nild)) pd_int) (pg_subd (i := 0) (pv 0) pd_int))
  (pss_oned (ps_retd (pd_op o_mod (pd_callTy c_int (by rfl) T.f_int bt_int (pa_consd (pd_op o_div (pd_op o_mod (pd_callTy c_int (by rfl) T.f_int bt_int (pa_consd (pd_op o_mul (pd_item (i := 0) (pv 0) pd_int fun _ _ => rfl) (pd_item (i := 0) (pv 0) pd_int fun _ _ => rfl)) pa_nild)) pd_int) pd_int) pa_nild)) (pd_var 1))))))⟩
theorem ok__law_choice (T : Txt K mg) {fd : FuncData} (F : FunD K d__law_choice.name d__law_choice.qual d__law_choice.params d__law_choice.body d__law_choice.scope (d__law_choice.dvs K) (d__law_choice.kws K) (He.ga K "_law_choice") fd) {fd__law_draw : FuncData} (G__law_draw : FnG P w K mg base CX0 1 (He.ga K "_law_draw") fd__law_draw ["_law_rng_here", "_law_many"] (spI K mg 1 f__law_draw)) (b__law_draw : Binds K fd__law_draw ["_law_rng_here", "_law_many"] []) (k__law_draw : PySem.W.keepIn K (.ref (He.ga K "_law_draw")) = true) :
    FnG P w K mg base CX0 2 (He.ga K "_law_choice") fd ["_law_rng_here", "_law_some"] (spI K mg 1 f__law_choice) :=
  fn_i (k := 1) (N := N__law_choice) (m := m__law_choice) F sc__law_choice (by decide) fun cdv A outer s H E hr hgd => ⟨_, (pss_oned (ps_retd (pd_ix (pd_var 1) (pd_fnI (i := 0) G__law_draw (hr.mono (by decide)) hgd (by rfl) T.g__law_draw k__law_draw b__law_draw .nil (fun _ => RepL.nil) (pv 0) (pa_consd (pd_callB (rL := rLenA K) c_len (by rfl) T.f_len bt_len (pa_consd (pd_var 1) pa_nild)) pa_nild)) fun _ _ => rfl)))⟩
theorem ok__law_names (T : Txt K mg) {fd : FuncData} (F : FunD K d__law_names.name d__law_names.qual d__law_names.params d__law_names.body d__law_names.scope (d__law_names.dvs K) (d__law_names.kws K) (He.ga K "_law_names") fd) {fd__law_choice : FuncData} (G__law_choice : FnG P w K mg base CX0 2 (He.ga K "_law_choice") fd__law_choice ["_law_rng_here", "_law_some"] (spI K mg 1 f__law_choice)) (b__law_choice : Binds K fd__law_choice ["_law_rng_here", "_law_some"] []) (k__law_choice : PySem.W.keepIn K (.ref (He.ga K "_law_choice")) = true) {fd__law_draw : FuncData} (G__law_draw : FnG P w K mg base CX0 1 (He.ga K "_law_draw") fd__law_draw ["_law_rng_here", "_law_many"] (spI K mg 1 f__law_draw)) (b__law_draw : Binds K fd__law_draw ["_law_rng_here", "_law_many"] []) (k__law_draw : PySem.W.keepIn K (.ref (He.ga K "_law_draw")) = true) :
    FnG P w K mg base CX0 3 (He.ga K "_law_names") fd ["_law_rng_here", "_law_many"] (spI K mg 1 f__law_names) :=
  fn_i (k := 2) (N := N__law_names) (m := m__law_names) F sc__law_names (by decide) fun cdv A outer s H E hr hgd => ⟨_, (pss_consd (ps_parTI rfl (na_cons (pg_name (i := 3) sc__law_names.nd rfl (by first | exact Or.inl rfl | exact Or.inr rfl)) (na_cons (pg_name (i := 4) sc__law_names.nd rfl (by first | exact Or.inl rfl | exact Or.inr rfl)) .nil)) (pis_v pd_str (pis_n (pn_lst pa_nild) pis_nil)) (by decide) rfl)
  (pss_consd (ps_ford PassesOwn.never rfl (it_range1 (by rfl) T.f_range (pa_consd (pd_var 1) pa_nild)) (pg_named (i := 2) sc__law_names.nd rfl (by first | exact Or.inl rfl | exact Or.inr rfl)) (pss_consd (ps_setd (i := 5) sc__law_names.nd rfl (by first | exact Or.inl rfl | exact Or.inr rfl) (pd_join pd_str (pd_comp (own := [("_law_turn", 7)]) (g := gName 7) (mgt := (mSet 7)) rfl sc__law_names.nd (it_range1 (by rfl) T.f_range (pa_consd (pd_op (r := rAddA K) o_add pd_int (pd_fnI (i := 0) G__law_choice (hr.mono (by decide)) hgd (by rfl) T.g__law_choice k__law_choice b__law_choice .nil (fun _ => RepL.nil) (pv 0) (pa_consd (pd_lst (pa_consd pd_int (pa_consd pd_int (pa_consd pd_int (pa_consd pd_int (pa_consd pd_int pa_nild)))))) pa_nild))) pa_nild)) (by show blkC N__law_names (defScope s__law_names) _ _ = true; decide +kernel) (fun _ _ _ _ _ => (pgc_name (i := 7) (by decide) (pg_name (i := 7) sc__law_names.nd rfl (by first | exact Or.inl rfl | exact Or.inr rfl)))) (fun _ _ _ _ _ => pts_nild) (fun _ _ _ _ _ => (PEd.cast (t2 := tOp (rIxA K) _ _) (pd_ix (pd_var 3) (PEd.cast (t2 := tCall (spI K mg 1 f__law_draw) [] E0 (tCons (tVar 0) _)) (pd_fnI (i := 0) G__law_draw (hr.mono (by decide)) hgd (by rfl) T.g__law_draw k__law_draw b__law_draw .nil (fun _ => RepL.nil) (pv 0) (pa_consd pd_int pa_nild)) rfl) fun _ _ => rfl) rfl)) s)))
  (pss_consd (ps_setd (i := 6) sc__law_names.nd rfl (by first | exact Or.inl rfl | exact Or.inr rfl) (pd_op (r := rAddA K) o_add (pd_lst (pa_consd (pd_var 5) pa_nild)) (pd_comp (own := [("_law_one", 8)]) (g := gName 8) (mgt := (mSet 8)) rfl sc__law_names.nd (it_str (pd_var 3)) (by show blkC N__law_names (defScope s__law_names) _ _ = true; decide +kernel) (fun _ _ _ _ _ => (pgc_name (i := 8) (by decide) (pg_name (i := 8) sc__law_names.nd rfl (by first | exact Or.inl rfl | exact Or.inr rfl)))) (fun _ _ _ _ _ => pts_nild) (fun _ _ _ _ _ => (pd_op (r := rAddA K) o_add (pd_op (r := rAddA K) o_add (PEd.cast (t2 := tSl (rSlAll K) _ _ _) (pd_slice (pd_var 5) pp_none (pp_some pd_int)) rfl) (pd_var 8)) pd_str)) s)))
  (pss_oned (ps_exprd (pd_append (i := 4) (pv 4) (pd_ix (pd_comp (own := [("_law_one", 8)]) (g := gName 8) (mgt := (mSet 8)) rfl sc__law_names.nd (it_any (pd_var 6)) (by show blkC N__law_names (defScope s__law_names) _ _ = true; decide +kernel) (fun _ _ _ _ _ => (pgc_name (i := 8) (by decide) (pg_name (i := 8) sc__law_names.nd rfl (by first | exact Or.inl rfl | exact Or.inr rfl)))) (fun _ _ _ _ _ => (pts_oned (pt_peek 4 (pt_cmp (r := rIn K true) o_notIn (pd_var 8) (pd_var 4) (by rfl))))) (fun _ _ _ _ _ => (pd_var 8)) s) pd_int fun _ _ => rfl)))))))
  (pss_oned (ps_retd (pd_var 4)))))⟩
theorem ok__law_number (T : Txt K mg) {fd : FuncData} (F : FunD K d__law_number.name d__law_number.qual d__law_number.params d__law_number.body d__law_number.scope (d__law_number.dvs K) (d__law_number.kws K) (He.ga K "_law_number") fd) {fd__law_draw : FuncData} (G__law_draw : FnG P w K mg base CX0 1 (He.ga K "_law_draw") fd__law_draw ["_law_rng_here", "_law_many"] (spI K mg 1 f__law_draw)) (b__law_draw : Binds K fd__law_draw ["_law_rng_here", "_law_many"] []) (k__law_draw : PySem.W.keepIn K (.ref (He.ga K "_law_draw")) = true) {fd__law_choice : FuncData} (G__law_choice : FnG P w K mg base CX0 2 (He.ga K "_law_choice") fd__law_choice ["_law_rng_here", "_law_some"] (spI K mg 1 f__law_choice)) (b__law_choice : Binds K fd__law_choice ["_law_rng_here", "_law_some"] []) (k__law_choice : PySem.W.keepIn K (.ref (He.ga K "_law_choice")) = true) :
    FnG P w K mg base CX0 3 (He.ga K "_law_number") fd ["_law_rng_here"] (spI K mg 0 f__law_number) :=
  fn_i (k := 2) (N := N__law_number) (m := m__law_number) F sc__law_number (by decide) fun cdv A outer s H E hr hgd => ⟨_, (pss_consd (ps_setd (i := 1) sc__law_number.nd rfl (by first | exact Or.inl rfl | exact Or.inr rfl) (pd_lst (pa_consd (pd_fnI (i := 0) G__law_draw (hr.mono (by decide)) hgd (by rfl) T.g__law_draw k__law_draw b__law_draw .nil (fun _ => RepL.nil) (pv 0) (pa_consd pd_int pa_nild)) (pa_consd (pd_fnI (i := 0) G__law_draw (hr.mono (by decide)) hgd (by rfl) T.g__law_draw k__law_draw b__law_draw .nil (fun _ => RepL.nil) (pv 0) (pa_consd pd_int pa_nild)) (pa_consd (pd_op (r := rAddA K) o_add (pd_op o_pow pd_int pd_int) (pd_fnI (i := 0) G__law_draw (hr.mono (by decide)) hgd (by rfl) T.g__law_draw k__law_draw b__law_draw .nil (fun _ => RepL.nil) (pv 0) (pa_consd pd_int pa_nild))) (pa_consd (pd_op (r := rAddA K) o_add (pd_op o_pow pd_int pd_int) (pd_fnI (i := 0) G__law_draw (hr.mono (by decide)) hgd (by rfl) T.g__law_draw k__law_draw b__law_draw .nil (fun _ => RepL.nil) (pv 0) (pa_consd pd_int pa_nild))) pa_nild))))))
  (pss_oned (ps_retd (pd_op o_mul (pd_fnI (i := 0) G__law_choice (hr.mono (by decide)) hgd (by rfl) T.g__law_choice k__law_choice b__law_choice .nil (fun _ => RepL.nil) (pv 0) (pa_consd (pd_var 1) pa_nild)) (pd_ix (pd_lst (pa_consd pd_int (pa_consd (pd_un o_neg pd_int) pa_nild))) (pd_fnI (i := 0) G__law_draw (hr.mono (by decide)) hgd (by rfl) T.g__law_draw k__law_draw b__law_draw .nil (fun _ => RepL.nil) (pv 0) (pa_consd pd_int pa_nild)) fun _ _ => rfl)))))⟩
theorem ok__law_head (T : Txt K mg) {fd : FuncData} (F : FunD K d__law_head.name d__law_head.qual d__law_head.params d__law_head.body d__law_head.scope (d__law_head.dvs K) (d__law_head.kws K) (He.ga K "_law_head") fd) {fd__law_choice : FuncData} (G__law_choice : FnG P w K mg base CX0 2 (He.ga K "_law_choice") fd__law_choice ["_law_rng_here", "_law_some"] (spI K mg 1 f__law_choice)) (b__law_choice : Binds K fd__law_choice ["_law_rng_here", "_law_some"] []) (k__law_choice : PySem.W.keepIn K (.ref (He.ga K "_law_choice")) = true) {fd__law_draw : FuncData} (G__law_draw : FnG P w K mg base CX0 1 (He.ga K "_law_draw") fd__law_draw ["_law_rng_here", "_law_many"] (spI K mg 1 f__law_draw)) (b__law_draw : Binds K fd__law_draw ["_law_rng_here", "_law_many"] []) (k__law_draw : PySem.W.keepIn K (.ref (He.ga K "_law_draw")) = true) {fd__law_number : FuncData} (G__law_number : FnG P w K mg base CX0 3 (He.ga K "_law_number") fd__law_number ["_law_rng_here"] (spI K mg 0 f__law_number)) (b__law_number : Binds K fd__law_number ["_law_rng_here"] []) (k__law_number : PySem.W.keepIn K (.ref (He.ga K "_law_number")) = true) :
    FnG P w K mg base CX0 4 (He.ga K "_law_head") fd ["_law_rng_here", "_law_names_here"] (spI K mg 1 f__law_head) :=
  fn_i (k := 3) (N := N__law_head) (m := m__law_head) F sc__law_head (by decide) fun cdv A outer s H E hr hgd => ⟨_, (pss_consd (ps_setComp (i := 2) (own := [("_law_side", 7)]) (g := gName 7) (mgt := (mSet 7)) rfl sc__law_head.nd rfl rfl (sw_true rfl rfl rfl (by decide +kernel))  (it_range1 (by rfl) T.f_range (pa_consd pd_int pa_nild)) (by show blkC N__law_head (defScope s__law_head) _ _ = true; decide +kernel) (fun _ _ _ _ _ => (pgc_name (i := 7) (by decide) (pg_name (i := 7) sc__law_head.nd rfl (by first | exact Or.inl rfl | exact Or.inr rfl)))) (fun _ _ _ _ _ => pts_nild) (fun _ _ _ _ _ => (pd_op (r := rAddA K) o_add pd_int (PEd.cast (t2 := tCall (spI K mg 1 f__law_choice) [] E0 (tCons (tVar 0) _)) (pd_fnI (i := 0) G__law_choice (hr.mono (by decide)) hgd (by rfl) T.g__law_choice k__law_choice b__law_choice .nil (fun _ => RepL.nil) (pv 0) (pa_consd (pd_lst (pa_consd (PEd.cast (t2 := tCall (spI K mg 1 f__law_draw) [] E0 (tCons (tVar 0) _)) (pd_fnI (i := 0) G__law_draw (hr.mono (by decide)) hgd (by rfl) T.g__law_draw k__law_draw b__law_draw .nil (fun _ => RepL.nil) (pv 0) (pa_consd pd_int pa_nild)) rfl) (pa_consd (pd_op (r := rAddA K) o_add (pd_op o_pow pd_int pd_int) (PEd.cast (t2 := tCall (spI K mg 1 f__law_draw) [] E0 (tCons (tVar 0) _)) (pd_fnI (i := 0) G__law_draw (hr.mono (by decide)) hgd (by rfl) T.g__law_draw k__law_draw b__law_draw .nil (fun _ => RepL.nil) (pv 0) (pa_consd pd_int pa_nild)) rfl)) pa_nild))) pa_nild)) rfl))) s)
  (pss_consd (ps_par3I (i := 4) (j := 5) (l := 6) rfl sc__law_head.nd rfl rfl rfl (by decide) (by decide) (by decide) rfl rfl rfl (pis_n (pn_lst pa_nild) (pis_v (pd_fnI (i := 0) G__law_number (hr.mono (by decide)) hgd (by rfl) T.g__law_number k__law_number b__law_number .nil (fun _ => RepL.nil) (pv 0) pa_nild) (pis_v (pd_lst (pa_consd pd_int (pa_consd pd_int (pa_consd pd_int (pa_consd (pd_op o_sub (pd_op o_sub (pd_op o_pow pd_int pd_int) pd_int) (pd_fnI (i := 0) G__law_draw (hr.mono (by decide)) hgd (by rfl) T.g__law_draw k__law_draw b__law_draw .nil (fun _ => RepL.nil) (pv 0) (pa_consd pd_int pa_nild))) pa_nild))))) pis_nil))) rfl)
  (pss_consd (ps_ford PassesOwn.never rfl (it_range1 (by rfl) T.f_range (pa_consd (pd_fnI (i := 0) G__law_draw (hr.mono (by decide)) hgd (by rfl) T.g__law_draw k__law_draw b__law_draw .nil (fun _ => RepL.nil) (pv 0) (pa_consd pd_int pa_nild)) pa_nild)) (pg_named (i := 3) sc__law_head.nd rfl (by first | exact Or.inl rfl | exact Or.inr rfl)) (pss_consd (ps_exprd (pd_append (i := 4) (pv 4) (pd_tup (pa_consd (pd_var 5) (pa_consd (pd_fnI (i := 0) G__law_choice (hr.mono (by decide)) hgd (by rfl) T.g__law_choice k__law_choice b__law_choice .nil (fun _ => RepL.nil) (pv 0) (pa_consd (pd_var 6) pa_nild)) pa_nild)))))
  (pss_oned (ps_setd (i := 5) sc__law_head.nd rfl (by first | exact Or.inl rfl | exact Or.inr rfl) (pd_op (r := rAddA K) o_add (pd_op (r := rAddA K) o_add (pd_var 5) pd_int) (pd_fnI (i := 0) G__law_choice (hr.mono (by decide)) hgd (by rfl) T.g__law_choice k__law_choice b__law_choice .nil (fun _ => RepL.nil) (pv 0) (pa_consd (pd_lst (pa_consd pd_int (pa_consd (pd_fnI (i := 0) G__law_draw (hr.mono (by decide)) hgd (by rfl) T.g__law_draw k__law_draw b__law_draw .nil (fun _ => RepL.nil) (pv 0) (pa_consd pd_int pa_nild)) (pa_consd (pd_op (r := rAddA K) o_add (pd_op o_pow pd_int pd_int) (pd_fnI (i := 0) G__law_draw (hr.mono (by decide)) hgd (by rfl) T.g__law_draw k__law_draw b__law_draw .nil (fun _ => RepL.nil) (pv 0) (pa_consd pd_int pa_nild))) pa_nild)))) pa_nild)))))))
  (pss_oned (ps_retd (pd_tup (pa_consd (pd_ix (pd_var 1) pd_int fun _ _ => rfl) (pa_consd (pd_ix (pd_var 2) pd_int fun _ _ => rfl) (pa_consd (pd_ix (pd_var 2) pd_int fun _ _ => rfl) (pa_consd (pd_slice (pd_var 1) (pp_some pd_int) (pp_some (pd_op (r := rAddA K) o_add pd_int (pd_fnI (i := 0) G__law_draw (hr.mono (by decide)) hgd (by rfl) T.g__law_draw k__law_draw b__law_draw .nil (fun _ => RepL.nil) (pv 0) (pa_consd pd_int pa_nild))))) (pa_consd (pd_fnI (i := 0) G__law_choice (hr.mono (by decide)) hgd (by rfl) T.g__law_choice k__law_choice b__law_choice .nil (fun _ => RepL.nil) (pv 0) (pa_consd (pd_var 6) pa_nild)) (pa_consd (pd_var 4) pa_nild))))))))))))⟩
theorem ok_is_name (T : Txt K mg) {fd : FuncData} (F : FunD K d_is_name.name d_is_name.qual d_is_name.params d_is_name.body d_is_name.scope (d_is_name.dvs K) (d_is_name.kws K) (He.ga K "is_name") fd)  :
    FnG P w K mg base CX0 1 (He.ga K "is_name") fd ["value"] (spP K mg 1 f_is_name) :=
  fn_p (k := 0) (N := N_is_name) (m := m_is_name) F sc_is_name fun cdv A outer s H E hr hgd => ⟨_, (pss_consd (ps_ifd (pt_w (pw_ord (pt_notd (pt_val (pd_isi (by rfl) T.f_isinstance (pd_var 0) (pe_bltn (v := .ty "str") (by rfl) T.f_str bt_str rfl) (.ty _) T.t_tab_str))) (pw_or1d (pt_notd (pt_chaind o_le o_le pd_int (pd_callB (rL := rLenA K) c_len (by rfl) T.f_len bt_len (pa_consd (pd_var 0) pa_nild)) pd_int))))) (pss_oned (ps_retd pd_bl)) pss_nild)
  (pss_oned (ps_retd (pd_callB (rL := rAll K) (c_all rfl) (by rfl) T.f_all bt_all (pa_consd (pd_comp (own := [("letter", 1)]) (g := gName 1) (mgt := (mSet 1)) rfl sc_is_name.nd (it_str (pd_var 0)) (by show blkC N_is_name (defScope s_is_name) _ _ = true; decide +kernel) (fun _ _ _ _ _ => (pgc_name (i := 1) (by decide) (pg_name (i := 1) sc_is_name.nd rfl (by first | exact Or.inl rfl | exact Or.inr rfl)))) (fun _ _ _ _ _ => pts_nild) (fun _ _ _ _ _ => (pd_chain o_leS o_leS pd_str (pd_var 1) pd_str)) s) pa_nild)))))⟩
theorem ok_check_name (T : Txt K mg) {fd : FuncData} (F : FunD K d_check_name.name d_check_name.qual d_check_name.params d_check_name.body d_check_name.scope (d_check_name.dvs K) (d_check_name.kws K) (He.ga K "check_name") fd) {fd_is_name : FuncData} (G_is_name : FnG P w K mg base CX0 1 (He.ga K "is_name") fd_is_name ["value"] (spP K mg 1 f_is_name)) (b_is_name : Binds K fd_is_name ["value"] []) (k_is_name : PySem.W.keepIn K (.ref (He.ga K "is_name")) = true) :
    FnG P w K mg base CX0 2 (He.ga K "check_name") fd ["value"] (spP K mg 1 f_check_name) :=
  fn_p (k := 1) (N := N_check_name) (m := m_check_name) F sc_check_name fun cdv A outer s H E hr hgd => ⟨_, (pss_oned (ps_ifd (pt_notd (pt_val (pd_fn G_is_name (hr.mono (by decide)) hgd (by rfl) T.g_is_name k_is_name b_is_name .nil (fun _ => RepL.nil) (pa_consd (pd_var 0) pa_nild)))) (pss_oned ps_no) pss_nild))⟩
theorem ok_is_integer (T : Txt K mg) {fd : FuncData} (F : FunD K d_is_integer.name d_is_integer.qual d_is_integer.params d_is_integer.body d_is_integer.scope (d_is_integer.dvs K) (d_is_integer.kws K) (He.ga K "is_integer") fd)  :
    FnG P w K mg base CX0 1 (He.ga K "is_integer") fd ["value"] (spP K mg 1 f_is_integer) :=
  fn_p (k := 0) (N := N_is_integer) (m := m_is_integer) F sc_is_integer fun cdv A outer s H E hr hgd => ⟨_, (pss_oned (ps_retd (pd_and (pd_isi (by rfl) T.f_isinstance (pd_var 0) (pe_bltn (v := .ty "int") (by rfl) T.f_int bt_int rfl) (.ty _) T.t_tab_int) (pd_one (pd_not (pd_isi (by rfl) T.f_isinstance (pd_var 0) (pe_bltn (v := .ty "bool") (by rfl) T.f_bool bt_bool rfl) (.ty _) T.t_tab_bool))))))⟩
theorem ok_is_positive (T : Txt K mg) {fd : FuncData} (F : FunD K d_is_positive.name d_is_positive.qual d_is_positive.params d_is_positive.body d_is_positive.scope (d_is_positive.dvs K) (d_is_positive.kws K) (He.ga K "is_positive") fd) {fd_is_integer : FuncData} (G_is_integer : FnG P w K mg base CX0 1 (He.ga K "is_integer") fd_is_integer ["value"] (spP K mg 1 f_is_integer)) (b_is_integer : Binds K fd_is_integer ["value"] []) (k_is_integer : PySem.W.keepIn K (.ref (He.ga K "is_integer")) = true) :
    FnG P w K mg base CX0 2 (He.ga K "is_positive") fd ["value"] (spP K mg 1 f_is_positive) :=
  fn_p (k := 1) (N := N_is_positive) (m := m_is_positive) F sc_is_positive fun cdv A outer s H E hr hgd => ⟨_, (pss_oned (ps_retd (pd_and (pd_fn G_is_integer (hr.mono (by decide)) hgd (by rfl) T.g_is_integer k_is_integer b_is_integer .nil (fun _ => RepL.nil) (pa_consd (pd_var 0) pa_nild)) (pd_one (pd_cmp o_ge (pd_var 0) pd_int (nomark _))))))⟩
theorem ok_check_positive (T : Txt K mg) {fd : FuncData} (F : FunD K d_check_positive.name d_check_positive.qual d_check_positive.params d_check_positive.body d_check_positive.scope (d_check_positive.dvs K) (d_check_positive.kws K) (He.ga K "check_positive") fd) {fd_is_positive : FuncData} (G_is_positive : FnG P w K mg base CX0 2 (He.ga K "is_positive") fd_is_positive ["value"] (spP K mg 1 f_is_positive)) (b_is_positive : Binds K fd_is_positive ["value"] []) (k_is_positive : PySem.W.keepIn K (.ref (He.ga K "is_positive")) = true) :
    FnG P w K mg base CX0 3 (He.ga K "check_positive") fd ["value"] (spP K mg 1 f_check_positive) :=
  fn_p (k := 2) (N := N_check_positive) (m := m_check_positive) F sc_check_positive fun cdv A outer s H E hr hgd => ⟨_, (pss_oned (ps_ifd (pt_notd (pt_val (pd_fn G_is_positive (hr.mono (by decide)) hgd (by rfl) T.g_is_positive k_is_positive b_is_positive .nil (fun _ => RepL.nil) (pa_consd (pd_var 0) pa_nild)))) (pss_oned ps_no) pss_nild))⟩
theorem ok_is_list (T : Txt K mg) {fd : FuncData} (F : FunD K d_is_list.name d_is_list.qual d_is_list.params d_is_list.body d_is_list.scope (d_is_list.dvs K) (d_is_list.kws K) (He.ga K "is_list") fd)  :
    FnG P w K mg base CX0 1 (He.ga K "is_list") fd ["value"] (spP K mg 1 f_is_list) :=
  fn_p (k := 0) (N := N_is_list) (m := m_is_list) F sc_is_list fun cdv A outer s H E hr hgd => ⟨_, (pss_oned (ps_retd (pd_isiT (by rfl) T.f_isinstance (pd_var 0) (pa_cons (pe_bltn (v := .ty "list") (by rfl) T.f_list bt_list rfl) (pa_cons (pe_bltn (v := .ty "tuple") (by rfl) T.f_tuple bt_tuple rfl) pa_nil)) (cs := [V.ty "list", V.ty "tuple"]) (fun _ _ _ h => h) (by decide) (.cons (.ty _) (.cons (.ty _) .nil)) T.t_tab_list_tuple)))⟩
theorem ok_check_kinds (T : Txt K mg) {fd : FuncData} (F : FunD K d_check_kinds.name d_check_kinds.qual d_check_kinds.params d_check_kinds.body d_check_kinds.scope (d_check_kinds.dvs K) (d_check_kinds.kws K) (He.ga K "check_kinds") fd) {fd_is_list : FuncData} (G_is_list : FnG P w K mg base CX0 1 (He.ga K "is_list") fd_is_list ["value"] (spP K mg 1 f_is_list)) (b_is_list : Binds K fd_is_list ["value"] []) (k_is_list : PySem.W.keepIn K (.ref (He.ga K "is_list")) = true) {fd_is_name : FuncData} (G_is_name : FnG P w K mg base CX0 1 (He.ga K "is_name") fd_is_name ["value"] (spP K mg 1 f_is_name)) (b_is_name : Binds K fd_is_name ["value"] []) (k_is_name : PySem.W.keepIn K (.ref (He.ga K "is_name")) = true) :
    FnG P w K mg base CX0 2 (He.ga K "check_kinds") fd ["kinds", "most"] (spP K mg 2 f_check_kinds) :=
  fn_p (k := 1) (N := N_check_kinds) (m := m_check_kinds) F sc_check_kinds fun cdv A outer s H E hr hgd => ⟨_, (pss_consd (ps_ifd (pt_w (pw_ord (pt_notd (pt_val (pd_fn G_is_list (hr.mono (by decide)) hgd (by rfl) T.g_is_list k_is_list b_is_list .nil (fun _ => RepL.nil) (pa_consd (pd_var 0) pa_nild)))) (pw_or1d (pt_notd (pt_chaind o_le o_le pd_int (pd_callB (rL := rLenA K) c_len (by rfl) T.f_len bt_len (pa_consd (pd_var 0) pa_nild)) (pd_var 1)))))) (pss_oned ps_no) pss_nild)
  (pss_oned (ps_ford PassesOwn.never rfl (it_enumA (by rfl) T.f_enumerate (pa_consd (pd_var 0) pa_nild)) (pg_tupd rfl (pgs_consd (pg_named (i := 2) sc_check_kinds.nd rfl (by first | exact Or.inl rfl | exact Or.inr rfl)) (pgs_consd (pg_named (i := 3) sc_check_kinds.nd rfl (by first | exact Or.inl rfl | exact Or.inr rfl)) pgs_nild))) (pss_oned (ps_ifd (pt_w (pw_ord (pt_notd (pt_val (pd_fn G_is_name (hr.mono (by decide)) hgd (by rfl) T.g_is_name k_is_name b_is_name .nil (fun _ => RepL.nil) (pa_consd (pd_var 3) pa_nild)))) (pw_or1d (pt_cmp (r := rIn K false) o_in (pd_var 3) (pd_slice (pd_var 0) pp_none (pp_some (pd_var 2))) (by rfl))))) (pss_oned ps_no) pss_nild)))))⟩
theorem ok_is_count (T : Txt K mg) {fd : FuncData} (F : FunD K d_is_count.name d_is_count.qual d_is_count.params d_is_count.body d_is_count.scope (d_is_count.dvs K) (d_is_count.kws K) (He.ga K "is_count") fd) {fd_is_integer : FuncData} (G_is_integer : FnG P w K mg base CX0 1 (He.ga K "is_integer") fd_is_integer ["value"] (spP K mg 1 f_is_integer)) (b_is_integer : Binds K fd_is_integer ["value"] []) (k_is_integer : PySem.W.keepIn K (.ref (He.ga K "is_integer")) = true) :
    FnG P w K mg base CX0 2 (He.ga K "is_count") fd ["value"] (spP K mg 1 f_is_count) :=
  fn_p (k := 1) (N := N_is_count) (m := m_is_count) F sc_is_count fun cdv A outer s H E hr hgd => ⟨_, (pss_oned (ps_retd (pd_and (pd_fn G_is_integer (hr.mono (by decide)) hgd (by rfl) T.g_is_integer k_is_integer b_is_integer .nil (fun _ => RepL.nil) (pa_consd (pd_var 0) pa_nild)) (pd_one (pd_cmp o_ge (pd_var 0) pd_int (nomark _))))))⟩
theorem ok_check_count (T : Txt K mg) {fd : FuncData} (F : FunD K d_check_count.name d_check_count.qual d_check_count.params d_check_count.body d_check_count.scope (d_check_count.dvs K) (d_check_count.kws K) (He.ga K "check_count") fd) {fd_is_count : FuncData} (G_is_count : FnG P w K mg base CX0 2 (He.ga K "is_count") fd_is_count ["value"] (spP K mg 1 f_is_count)) (b_is_count : Binds K fd_is_count ["value"] []) (k_is_count : PySem.W.keepIn K (.ref (He.ga K "is_count")) = true) :
    FnG P w K mg base CX0 3 (He.ga K "check_count") fd ["value"] (spP K mg 1 f_check_count) :=
  fn_p (k := 2) (N := N_check_count) (m := m_check_count) F sc_check_count fun cdv A outer s H E hr hgd => ⟨_, (pss_oned (ps_ifd (pt_notd (pt_val (pd_fn G_is_count (hr.mono (by decide)) hgd (by rfl) T.g_is_count k_is_count b_is_count .nil (fun _ => RepL.nil) (pa_consd (pd_var 0) pa_nild)))) (pss_oned ps_no) pss_nild))⟩
theorem ok_is_pair (T : Txt K mg) {fd : FuncData} (F : FunD K d_is_pair.name d_is_pair.qual d_is_pair.params d_is_pair.body d_is_pair.scope (d_is_pair.dvs K) (d_is_pair.kws K) (He.ga K "is_pair") fd) {fd_is_integer : FuncData} (G_is_integer : FnG P w K mg base CX0 1 (He.ga K "is_integer") fd_is_integer ["value"] (spP K mg 1 f_is_integer)) (b_is_integer : Binds K fd_is_integer ["value"] []) (k_is_integer : PySem.W.keepIn K (.ref (He.ga K "is_integer")) = true) :
    FnG P w K mg base CX0 2 (He.ga K "is_pair") fd ["value"] (spP K mg 1 f_is_pair) :=
  fn_p (k := 1) (N := N_is_pair) (m := m_is_pair) F sc_is_pair fun cdv A outer s H E hr hgd => ⟨_, (pss_oned (ps_retd (pd_and (pd_isi (by rfl) T.f_isinstance (pd_var 0) (pe_bltn (v := .ty "tuple") (by rfl) T.f_tuple bt_tuple rfl) (.ty _) T.t_tab_tuple) (pd_and (pd_cmp (r := rEqD K) (o_eq (roomU hr)) (pd_callB (rL := rLenA K) c_len (by rfl) T.f_len bt_len (pa_consd (pd_var 0) pa_nild)) pd_int (nomark _)) (pd_and (pd_fn G_is_integer (hr.mono (by decide)) hgd (by rfl) T.g_is_integer k_is_integer b_is_integer .nil (fun _ => RepL.nil) (pa_consd (pd_ix (pd_var 0) pd_int fun _ _ => rfl) pa_nild)) (pd_one (pd_fn G_is_integer (hr.mono (by decide)) hgd (by rfl) T.g_is_integer k_is_integer b_is_integer .nil (fun _ => RepL.nil) (pa_consd (pd_ix (pd_var 0) pd_int fun _ _ => rfl) pa_nild))))))))⟩
theorem ok_check_changes (T : Txt K mg) {fd : FuncData} (F : FunD K d_check_changes.name d_check_changes.qual d_check_changes.params d_check_changes.body d_check_changes.scope (d_check_changes.dvs K) (d_check_changes.kws K) (He.ga K "check_changes") fd) {fd_is_list : FuncData} (G_is_list : FnG P w K mg base CX0 1 (He.ga K "is_list") fd_is_list ["value"] (spP K mg 1 f_is_list)) (b_is_list : Binds K fd_is_list ["value"] []) (k_is_list : PySem.W.keepIn K (.ref (He.ga K "is_list")) = true) {fd_is_pair : FuncData} (G_is_pair : FnG P w K mg base CX0 2 (He.ga K "is_pair") fd_is_pair ["value"] (spP K mg 1 f_is_pair)) (b_is_pair : Binds K fd_is_pair ["value"] []) (k_is_pair : PySem.W.keepIn K (.ref (He.ga K "is_pair")) = true) :
    FnG P w K mg base CX0 3 (He.ga K "check_changes") fd ["changes", "most"] (spP K mg 2 f_check_changes) :=
  fn_p (k := 2) (N := N_check_changes) (m := m_check_changes) F sc_check_changes fun cdv A outer s H E hr hgd => ⟨_, (pss_consd (ps_ifd (pt_w (pw_ord (pt_notd (pt_val (pd_fn G_is_list (hr.mono (by decide)) hgd (by rfl) T.g_is_list k_is_list b_is_list .nil (fun _ => RepL.nil) (pa_consd (pd_var 0) pa_nild)))) (pw_or1d (pt_cmp o_gt (pd_callB (rL := rLenA K) c_len (by rfl) T.f_len bt_len (pa_consd (pd_var 0) pa_nild)) (pd_var 1) (nomark _))))) (pss_oned ps_no) pss_nild)
  (pss_oned (ps_ford PassesOwn.never rfl (it_enumA (by rfl) T.f_enumerate (pa_consd (pd_var 0) pa_nild)) (pg_tupd rfl (pgs_consd (pg_named (i := 2) sc_check_changes.nd rfl (by first | exact Or.inl rfl | exact Or.inr rfl)) (pgs_consd (pg_named (i := 3) sc_check_changes.nd rfl (by first | exact Or.inl rfl | exact Or.inr rfl)) pgs_nild))) (pss_consd (ps_ifd (pt_w (pw_ord (pt_notd (pt_val (pd_fn G_is_pair (hr.mono (by decide)) hgd (by rfl) T.g_is_pair k_is_pair b_is_pair .nil (fun _ => RepL.nil) (pa_consd (pd_var 3) pa_nild)))) (pw_or1d (pt_cmp o_lt (pd_ix (pd_var 3) pd_int fun _ _ => rfl) pd_int (nomark _))))) (pss_oned ps_no) pss_nild)
  (pss_oned (ps_ifd (pt_w (pw_andd (pt_cmp o_gt (pd_var 2) pd_int (nomark _)) (pw_and1d (pt_cmp o_le (pd_ix (pd_var 3) pd_int fun _ _ => rfl) (pd_ix (pd_ix (pd_var 0) (pd_op o_sub (pd_var 2) pd_int) fun _ _ => rfl) pd_int fun _ _ => rfl) (nomark _))))) (pss_oned ps_no) pss_nild))))))⟩
theorem ok_changes_left (T : Txt K mg) {fd : FuncData} (F : FunD K d_changes_left.name d_changes_left.qual d_changes_left.params d_changes_left.body d_changes_left.scope (d_changes_left.dvs K) (d_changes_left.kws K) (He.ga K "changes_left") fd)  :
    FnG P w K mg base CX0 1 (He.ga K "changes_left") fd ["speed", "changes"] (spP K mg 2 f_changes_left) :=
  fn_p (k := 0) (N := N_changes_left) (m := m_changes_left) F sc_changes_left fun cdv A outer s H E hr hgd => ⟨_, (pss_consd (ps_own (i := 2) sc_changes_left.nd rfl (by first | exact Or.inl rfl | exact Or.inr rfl) pa_nild)
  (pss_consd (ps_ford PassesOwn.never rfl (it_any (pd_var 1)) (pg_tupd rfl (pgs_consd (pg_named (i := 3) sc_changes_left.nd rfl (by first | exact Or.inl rfl | exact Or.inr rfl)) (pgs_consd (pg_named (i := 4) sc_changes_left.nd rfl (by first | exact Or.inl rfl | exact Or.inr rfl)) pgs_nild))) (pss_consd (ps_ifd (pt_cmp (r := rNeD K) (o_ne (roomU hr)) (pd_var 4) (pd_var 0) (nomark _)) (pss_oned (ps_exprd (pd_append (i := 2) (pv 2) (pd_tup (pa_consd (pd_var 3) (pa_consd (pd_var 4) pa_nild)))))) pss_nild)
  (pss_oned (ps_setd (i := 0) sc_changes_left.nd rfl (by first | exact Or.inl rfl | exact Or.inr rfl) (pd_var 4)))))
  (pss_oned (ps_retd (pd_callTy (rL := rTupleA K) c_tuple (by rfl) T.f_tuple bt_tuple (pa_consd (pd_var 2) pa_nild))))))⟩
theorem ok_Head_DinitD (T : Txt K mg) {fd : FuncData} (F : FunD K d_Head_DinitD.name d_Head_DinitD.qual d_Head_DinitD.params d_Head_DinitD.body d_Head_DinitD.scope (d_Head_DinitD.dvs K) (d_Head_DinitD.kws K) (He.ma K (He.ga K "Head") "__init__") fd) {fd_check_name : FuncData} (G_check_name : FnG P w K mg base CX0 2 (He.ga K "check_name") fd_check_name ["value"] (spP K mg 1 f_check_name)) (b_check_name : Binds K fd_check_name ["value"] []) (k_check_name : PySem.W.keepIn K (.ref (He.ga K "check_name")) = true) {fd_check_positive : FuncData} (G_check_positive : FnG P w K mg base CX0 3 (He.ga K "check_positive") fd_check_positive ["value"] (spP K mg 1 f_check_positive)) (b_check_positive : Binds K fd_check_positive ["value"] []) (k_check_positive : PySem.W.keepIn K (.ref (He.ga K "check_positive")) = true) {fd_check_kinds : FuncData} (G_check_kinds : FnG P w K mg base CX0 2 (He.ga K "check_kinds") fd_check_kinds ["kinds", "most"] (spP K mg 2 f_check_kinds)) (b_check_kinds : Binds K fd_check_kinds ["kinds", "most"] []) (k_check_kinds : PySem.W.keepIn K (.ref (He.ga K "check_kinds")) = true) {fd_check_count : FuncData} (G_check_count : FnG P w K mg base CX0 3 (He.ga K "check_count") fd_check_count ["value"] (spP K mg 1 f_check_count)) (b_check_count : Binds K fd_check_count ["value"] []) (k_check_count : PySem.W.keepIn K (.ref (He.ga K "check_count")) = true) {fd_check_changes : FuncData} (G_check_changes : FnG P w K mg base CX0 3 (He.ga K "check_changes") fd_check_changes ["changes", "most"] (spP K mg 2 f_check_changes)) (b_check_changes : Binds K fd_check_changes ["changes", "most"] []) (k_check_changes : PySem.W.keepIn K (.ref (He.ga K "check_changes")) = true) {fd_changes_left : FuncData} (G_changes_left : FnG P w K mg base CX0 1 (He.ga K "changes_left") fd_changes_left ["speed", "changes"] (spP K mg 2 f_changes_left)) (b_changes_left : Binds K fd_changes_left ["speed", "changes"] []) (k_changes_left : PySem.W.keepIn K (.ref (He.ga K "changes_left")) = true) :
    FnG P w K mg base CX0 4 (He.ma K (He.ga K "Head") "__init__") fd ["self", "name", "left", "right", "kinds", "speed", "changes"] (spI K mg 6 f_Head_DinitD) :=
  fn_i (k := 3) (N := N_Head_DinitD) (m := m_Head_DinitD) F sc_Head_DinitD (by decide) fun cdv A outer s H E hr hgd => ⟨_, (pss_consd (ps_exprd (pd_fn G_check_name (hr.mono (by decide)) hgd (by rfl) T.g_check_name k_check_name b_check_name .nil (fun _ => RepL.nil) (pa_consd (pd_var 1) pa_nild)))
  (pss_consd (ps_exprd (pd_fn G_check_positive (hr.mono (by decide)) hgd (by rfl) T.g_check_positive k_check_positive b_check_positive .nil (fun _ => RepL.nil) (pa_consd (pd_var 2) pa_nild)))
  (pss_consd (ps_exprd (pd_fn G_check_positive (hr.mono (by decide)) hgd (by rfl) T.g_check_positive k_check_positive b_check_positive .nil (fun _ => RepL.nil) (pa_consd (pd_var 3) pa_nild)))
  (pss_consd (ps_exprd (pd_fn G_check_kinds (hr.mono (by decide)) hgd (by rfl) T.g_check_kinds k_check_kinds b_check_kinds .nil (fun _ => RepL.nil) (pa_consd (pd_var 4) (pa_consd (pd_cconst (d := D.int 4) (by rfl) T.g_Head (T.v_Head_MOST_KINDS.choose_spec).1 (T.v_Head_MOST_KINDS.choose_spec).2 (fun _ => Rep.int)) pa_nild))))
  (pss_consd (ps_exprd (pd_fn G_check_count (hr.mono (by decide)) hgd (by rfl) T.g_check_count k_check_count b_check_count .nil (fun _ => RepL.nil) (pa_consd (pd_var 5) pa_nild)))
  (pss_consd (ps_exprd (pd_fn G_check_changes (hr.mono (by decide)) hgd (by rfl) T.g_check_changes k_check_changes b_check_changes .nil (fun _ => RepL.nil) (pa_consd (pd_var 6) (pa_consd (pd_cconst (d := D.int 3) (by rfl) T.g_Head (T.v_Head_MOST_CHANGES.choose_spec).1 (T.v_Head_MOST_CHANGES.choose_spec).2 (fun _ => Rep.int)) pa_nild))))
  (pss_consd (ps_fldd (i := 0) T.c_Head T.n_Head__name T.g_Head (pv 0) (pd_var 1))
  (pss_consd (ps_fldd (i := 0) T.c_Head T.n_Head__left T.g_Head (pv 0) (pd_var 2))
  (pss_consd (ps_fldd (i := 0) T.c_Head T.n_Head__right T.g_Head (pv 0) (pd_var 3))
  (pss_consd (ps_fldd (i := 0) T.c_Head T.n_Head__kinds T.g_Head (pv 0) (pd_callTy (rL := rTupleA K) c_tuple (by rfl) T.f_tuple bt_tuple (pa_consd (pd_callB (rL := rSortA K) c_sorted (by rfl) T.f_sorted bt_sorted (pa_consd (pd_var 4) pa_nild)) pa_nild)))
  (pss_consd (ps_fldd (i := 0) T.c_Head T.n_Head__speed T.g_Head (pv 0) (pd_var 5))
  (pss_oned (ps_fldd (i := 0) T.c_Head T.n_Head__changes T.g_Head (pv 0) (pd_fn G_changes_left (hr.mono (by decide)) hgd (by rfl) T.g_changes_left k_changes_left b_changes_left .nil (fun _ => RepL.nil) (pa_consd (pd_var 5) (pa_consd (pd_var 6) pa_nild))))))))))))))))⟩
theorem ok__law_real (T : Txt K mg) {fd : FuncData} (F : FunD K d__law_real.name d__law_real.qual d__law_real.params d__law_real.body d__law_real.scope (d__law_real.dvs K) (d__law_real.kws K) (He.ga K "_law_real") fd) {fd_Head_DinitD : FuncData} (G_Head_DinitD : FnG P w K mg base CX0 4 (He.ma K (He.ga K "Head") "__init__") fd_Head_DinitD ["self", "name", "left", "right", "kinds", "speed", "changes"] (spI K mg 6 f_Head_DinitD)) (b_Head_DinitD : Binds K fd_Head_DinitD ["self", "name", "left", "right", "kinds", "speed", "changes"] []) :
    FnG P w K mg base CX0 6 (He.ga K "_law_real") fd ["_law_head_here"] (spP K mg 1 f__law_real) :=
  fn_p (k := 5) (N := N__law_real) (m := m__law_real) F sc__law_real fun cdv A outer s H E hr hgd => ⟨_, (pss_oned (ps_retd (pd_make T.k_Head G_Head_DinitD (hr.mono (by decide)) hgd (by rfl) T.g_Head b_Head_DinitD .nil (fun _ => RepL.nil) (pa_consd (pd_ix (pd_var 0) pd_int fun _ _ => rfl) (pa_consd (pd_ix (pd_var 0) pd_int fun _ _ => rfl) (pa_consd (pd_ix (pd_var 0) pd_int fun _ _ => rfl) (pa_consd (pd_ix (pd_var 0) pd_int fun _ _ => rfl) (pa_consd (pd_ix (pd_var 0) pd_int fun _ _ => rfl) (pa_consd (pd_ix (pd_var 0) pd_int fun _ _ => rfl) pa_nild)))))))))⟩
theorem ok__law_left (T : Txt K mg) {fd : FuncData} (F : FunD K d__law_left.name d__law_left.qual d__law_left.params d__law_left.body d__law_left.scope (d__law_left.dvs K) (d__law_left.kws K) (He.ga K "_law_left") fd)  :
    FnG P w K mg base CX0 1 (He.ga K "_law_left") fd ["_law_pace", "_law_shifts"] (spP K mg 2 f__law_left) :=
  fn_p (k := 0) (N := N__law_left) (m := m__law_left) F sc__law_left fun cdv A outer s H E hr hgd => ⟨_, (pss_consd (ps_own (i := 2) sc__law_left.nd rfl (by first | exact Or.inl rfl | exact Or.inr rfl) pa_nild)
  (pss_consd (ps_ford PassesOwn.never rfl (it_any (pd_var 1)) (pg_tupd rfl (pgs_consd (pg_named (i := 3) sc__law_left.nd rfl (by first | exact Or.inl rfl | exact Or.inr rfl)) (pgs_consd (pg_named (i := 4) sc__law_left.nd rfl (by first | exact Or.inl rfl | exact Or.inr rfl)) pgs_nild))) (pss_consd (ps_ifd (pt_cmp (r := rNeD K) (o_ne (roomU hr)) (pd_var 4) (pd_var 0) (nomark _)) (pss_oned (ps_exprd (pd_append (i := 2) (pv 2) (pd_tup (pa_consd (pd_var 3) (pa_consd (pd_var 4) pa_nild)))))) pss_nild)
  (pss_oned (ps_setd (i := 0) sc__law_left.nd rfl (by first | exact Or.inl rfl | exact Or.inr rfl) (pd_var 4)))))
  (pss_oned (ps_retd (pd_callTy (rL := rTupleA K) c_tuple (by rfl) T.f_tuple bt_tuple (pa_consd (pd_var 2) pa_nild))))))⟩
theorem ok__law_due (T : Txt K mg) {fd : FuncData} (F : FunD K d__law_due.name d__law_due.qual d__law_due.params d__law_due.body d__law_due.scope (d__law_due.dvs K) (d__law_due.kws K) (He.ga K "_law_due") fd) {fd__law_left : FuncData} (G__law_left : FnG P w K mg base CX0 1 (He.ga K "_law_left") fd__law_left ["_law_pace", "_law_shifts"] (spP K mg 2 f__law_left)) (b__law_left : Binds K fd__law_left ["_law_pace", "_law_shifts"] []) (k__law_left : PySem.W.keepIn K (.ref (He.ga K "_law_left")) = true) :
    FnG P w K mg base CX0 2 (He.ga K "_law_due") fd ["_law_head_here"] (spP K mg 1 f__law_due) :=
  fn_p (k := 1) (N := N__law_due) (m := m__law_due) F sc__law_due fun cdv A outer s H E hr hgd => ⟨_, (pss_oned (ps_retd (pd_lst (pa_consd (pd_ix (pd_var 0) pd_int fun _ _ => rfl) (pa_consd (pd_ix (pd_var 0) pd_int fun _ _ => rfl) (pa_consd (pd_ix (pd_var 0) pd_int fun _ _ => rfl) (pa_consd (pd_callTy (rL := rTupleA K) c_tuple (by rfl) T.f_tuple bt_tuple (pa_consd (pd_callB (rL := rSortA K) c_sorted (by rfl) T.f_sorted bt_sorted (pa_consd (pd_ix (pd_var 0) pd_int fun _ _ => rfl) pa_nild)) pa_nild)) (pa_consd (pd_ix (pd_var 0) pd_int fun _ _ => rfl) (pa_consd (pd_fn G__law_left (hr.mono (by decide)) hgd (by rfl) T.g__law_left k__law_left b__law_left .nil (fun _ => RepL.nil) (pa_consd (pd_ix (pd_var 0) pd_int fun _ _ => rfl) (pa_consd (pd_ix (pd_var 0) pd_int fun _ _ => rfl) pa_nild))) pa_nild)))))))))⟩
theorem ok_Head_changes (T : Txt K mg) {fd : FuncData} (F : FunD K d_Head_changes.name d_Head_changes.qual d_Head_changes.params d_Head_changes.body d_Head_changes.scope (d_Head_changes.dvs K) (d_Head_changes.kws K) (pgA "Head" "changes" K) fd)  :
    FnG P w K mg base CX0 1 (pgA "Head" "changes" K) fd ["self"] (spP K mg 1 f_Head_changes) :=
  fn_p (k := 0) (N := N_Head_changes) (m := m_Head_changes) F sc_Head_changes fun cdv A outer s H E hr hgd => ⟨_, (pss_oned (ps_retd (pd_fld T.c_Head T.n_Head__changes T.g_Head (pd_var 0))))⟩
theorem ok_Head_speed (T : Txt K mg) {fd : FuncData} (F : FunD K d_Head_speed.name d_Head_speed.qual d_Head_speed.params d_Head_speed.body d_Head_speed.scope (d_Head_speed.dvs K) (d_Head_speed.kws K) (pgA "Head" "speed" K) fd)  :
    FnG P w K mg base CX0 1 (pgA "Head" "speed" K) fd ["self"] (spP K mg 1 f_Head_speed) :=
  fn_p (k := 0) (N := N_Head_speed) (m := m_Head_speed) F sc_Head_speed fun cdv A outer s H E hr hgd => ⟨_, (pss_oned (ps_retd (pd_fld T.c_Head T.n_Head__speed T.g_Head (pd_var 0))))⟩
theorem ok_Head_kinds (T : Txt K mg) {fd : FuncData} (F : FunD K d_Head_kinds.name d_Head_kinds.qual d_Head_kinds.params d_Head_kinds.body d_Head_kinds.scope (d_Head_kinds.dvs K) (d_Head_kinds.kws K) (pgA "Head" "kinds" K) fd)  :
    FnG P w K mg base CX0 1 (pgA "Head" "kinds" K) fd ["self"] (spP K mg 1 f_Head_kinds) :=
  fn_p (k := 0) (N := N_Head_kinds) (m := m_Head_kinds) F sc_Head_kinds fun cdv A outer s H E hr hgd => ⟨_, (pss_oned (ps_retd (pd_fld T.c_Head T.n_Head__kinds T.g_Head (pd_var 0))))⟩
theorem ok_Head_right (T : Txt K mg) {fd : FuncData} (F : FunD K d_Head_right.name d_Head_right.qual d_Head_right.params d_Head_right.body d_Head_right.scope (d_Head_right.dvs K) (d_Head_right.kws K) (pgA "Head" "right" K) fd)  :
    FnG P w K mg base CX0 1 (pgA "Head" "right" K) fd ["self"] (spP K mg 1 f_Head_right) :=
  fn_p (k := 0) (N := N_Head_right) (m := m_Head_right) F sc_Head_right fun cdv A outer s H E hr hgd => ⟨_, (pss_oned (ps_retd (pd_fld T.c_Head T.n_Head__right T.g_Head (pd_var 0))))⟩
theorem ok_Head_left (T : Txt K mg) {fd : FuncData} (F : FunD K d_Head_left.name d_Head_left.qual d_Head_left.params d_Head_left.body d_Head_left.scope (d_Head_left.dvs K) (d_Head_left.kws K) (pgA "Head" "left" K) fd)  :
    FnG P w K mg base CX0 1 (pgA "Head" "left" K) fd ["self"] (spP K mg 1 f_Head_left) :=
  fn_p (k := 0) (N := N_Head_left) (m := m_Head_left) F sc_Head_left fun cdv A outer s H E hr hgd => ⟨_, (pss_oned (ps_retd (pd_fld T.c_Head T.n_Head__left T.g_Head (pd_var 0))))⟩
theorem ok_Head_name (T : Txt K mg) {fd : FuncData} (F : FunD K d_Head_name.name d_Head_name.qual d_Head_name.params d_Head_name.body d_Head_name.scope (d_Head_name.dvs K) (d_Head_name.kws K) (pgA "Head" "name" K) fd)  :
    FnG P w K mg base CX0 1 (pgA "Head" "name" K) fd ["self"] (spP K mg 1 f_Head_name) :=
  fn_p (k := 0) (N := N_Head_name) (m := m_Head_name) F sc_Head_name fun cdv A outer s H E hr hgd => ⟨_, (pss_oned (ps_retd (pd_fld T.c_Head T.n_Head__name T.g_Head (pd_var 0))))⟩
theorem ok__law_parts (T : Txt K mg) {fd : FuncData} (F : FunD K d__law_parts.name d__law_parts.qual d__law_parts.params d__law_parts.body d__law_parts.scope (d__law_parts.dvs K) (d__law_parts.kws K) (He.ga K "_law_parts") fd) {fd_Head_changes : FuncData} (G_Head_changes : FnG P w K mg base CX0 1 (pgA "Head" "changes" K) fd_Head_changes ["self"] (spP K mg 1 f_Head_changes)) (b_Head_changes : Binds K fd_Head_changes ["self"] []) {fd_Head_speed : FuncData} (G_Head_speed : FnG P w K mg base CX0 1 (pgA "Head" "speed" K) fd_Head_speed ["self"] (spP K mg 1 f_Head_speed)) (b_Head_speed : Binds K fd_Head_speed ["self"] []) {fd_Head_kinds : FuncData} (G_Head_kinds : FnG P w K mg base CX0 1 (pgA "Head" "kinds" K) fd_Head_kinds ["self"] (spP K mg 1 f_Head_kinds)) (b_Head_kinds : Binds K fd_Head_kinds ["self"] []) {fd_Head_right : FuncData} (G_Head_right : FnG P w K mg base CX0 1 (pgA "Head" "right" K) fd_Head_right ["self"] (spP K mg 1 f_Head_right)) (b_Head_right : Binds K fd_Head_right ["self"] []) {fd_Head_left : FuncData} (G_Head_left : FnG P w K mg base CX0 1 (pgA "Head" "left" K) fd_Head_left ["self"] (spP K mg 1 f_Head_left)) (b_Head_left : Binds K fd_Head_left ["self"] []) {fd_Head_name : FuncData} (G_Head_name : FnG P w K mg base CX0 1 (pgA "Head" "name" K) fd_Head_name ["self"] (spP K mg 1 f_Head_name)) (b_Head_name : Binds K fd_Head_name ["self"] []) :
    FnG P w K mg base CX0 3 (He.ga K "_law_parts") fd ["_law_made"] (spP K mg 1 f__law_parts) :=
  fn_p (k := 2) (N := N__law_parts) (m := m__law_parts) F sc__law_parts fun cdv A outer s H E hr hgd => ⟨_, (pss_oned (ps_retd (pd_lst (pa_consd (pd_prop T.c_Head T.p_Head_name G_Head_name (hr.mono (by decide)) hgd b_Head_name T.g_Head (pd_var 0)) (pa_consd (pd_prop T.c_Head T.p_Head_left G_Head_left (hr.mono (by decide)) hgd b_Head_left T.g_Head (pd_var 0)) (pa_consd (pd_prop T.c_Head T.p_Head_right G_Head_right (hr.mono (by decide)) hgd b_Head_right T.g_Head (pd_var 0)) (pa_consd (pd_prop T.c_Head T.p_Head_kinds G_Head_kinds (hr.mono (by decide)) hgd b_Head_kinds T.g_Head (pd_var 0)) (pa_consd (pd_prop T.c_Head T.p_Head_speed G_Head_speed (hr.mono (by decide)) hgd b_Head_speed T.g_Head (pd_var 0)) (pa_consd (pd_prop T.c_Head T.p_Head_changes G_Head_changes (hr.mono (by decide)) hgd b_Head_changes T.g_Head (pd_var 0)) pa_nild)))))))))⟩
theorem ok_Head_DreprD (T : Txt K mg) {fd : FuncData} (F : FunD K d_Head_DreprD.name d_Head_DreprD.qual d_Head_DreprD.params d_Head_DreprD.body d_Head_DreprD.scope (d_Head_DreprD.dvs K) (d_Head_DreprD.kws K) (He.ma K (He.ga K "Head") "__repr__") fd)  :
    FnG P w K mg base CX0 1 (He.ma K (He.ga K "Head") "__repr__") fd ["self"] (spP K mg 1 f_Head_DreprD) :=
  fn_p (k := 0) (N := N_Head_DreprD) (m := m_Head_DreprD) F sc_Head_DreprD fun cdv A outer s H E hr hgd => ⟨_, (pss_oned (ps_retd (pd_joined (pj_consd pd_str (pj_consd (pd_fmtR (pd_fld T.c_Head T.n_Head__name T.g_Head (pd_var 0))) (pj_consd pd_str (pj_consd (pd_fmtD T.sys hgd (roomU hr) (pd_fld T.c_Head T.n_Head__left T.g_Head (pd_var 0))) (pj_consd pd_str (pj_consd (pd_fmtD T.sys hgd (roomU hr) (pd_fld T.c_Head T.n_Head__right T.g_Head (pd_var 0))) (pj_consd pd_str (pj_consd (pd_fmtD T.sys hgd (roomU hr) (pd_fld T.c_Head T.n_Head__kinds T.g_Head (pd_var 0))) (pj_consd pd_str (pj_consd (pd_fmtD T.sys hgd (roomU hr) (pd_fld T.c_Head T.n_Head__speed T.g_Head (pd_var 0))) (pj_consd pd_str (pj_consd (pd_fmtD T.sys hgd (roomU hr) (pd_fld T.c_Head T.n_Head__changes T.g_Head (pd_var 0))) (pj_consd pd_str pj_nild))))))))))))))))⟩
theorem ok__law_is_head (T : Txt K mg) {fd : FuncData} (F : FunD K d__law_is_head.name d__law_is_head.qual d__law_is_head.params d__law_is_head.body d__law_is_head.scope (d__law_is_head.dvs K) (d__law_is_head.kws K) (He.ga K "_law_is_head") fd) {fd__law_due : FuncData} (G__law_due : FnG P w K mg base CX0 2 (He.ga K "_law_due") fd__law_due ["_law_head_here"] (spP K mg 1 f__law_due)) (b__law_due : Binds K fd__law_due ["_law_head_here"] []) (k__law_due : PySem.W.keepIn K (.ref (He.ga K "_law_due")) = true) {fd__law_parts : FuncData} (G__law_parts : FnG P w K mg base CX0 3 (He.ga K "_law_parts") fd__law_parts ["_law_made"] (spP K mg 1 f__law_parts)) (b__law_parts : Binds K fd__law_parts ["_law_made"] []) (k__law_parts : PySem.W.keepIn K (.ref (He.ga K "_law_parts")) = true) {fd_Head_DreprD : FuncData} (G_Head_DreprD : FnG P w K mg base CX0 1 (He.ma K (He.ga K "Head") "__repr__") fd_Head_DreprD ["self"] (spP K mg 1 f_Head_DreprD)) (b_Head_DreprD : Binds K fd_Head_DreprD ["self"] []) :
    FnG P w K mg base CX0 4 (He.ga K "_law_is_head") fd ["_law_made", "_law_head_here"] (spP K mg 2 f__law_is_head) :=
  fn_p (k := 3) (N := N__law_is_head) (m := m__law_is_head) F sc__law_is_head fun cdv A outer s H E hr hgd => ⟨_, (pss_consd (ps_setd (i := 2) sc__law_is_head.nd rfl (by first | exact Or.inl rfl | exact Or.inr rfl) (pd_fn G__law_due (hr.mono (by decide)) hgd (by rfl) T.g__law_due k__law_due b__law_due .nil (fun _ => RepL.nil) (pa_consd (pd_var 1) pa_nild)))
  (pss_oned (ps_retd (pd_and (pd_cmp (r := rEqD K) (o_eq (roomU hr)) (pd_callB (rL := rRepX K mg) (c_reprX T.sys hgd (roomU (A := A.deeper _) hr)) (by rfl) T.f_repr bt_repr (pa_consd (pd_fn G__law_parts (hr.mono (by decide)) hgd (by rfl) T.g__law_parts k__law_parts b__law_parts .nil (fun _ => RepL.nil) (pa_consd (pd_var 0) pa_nild)) pa_nild)) (pd_callB (rL := rRepX K mg) (c_reprX T.sys hgd (roomU (A := A.deeper _) hr)) (by rfl) T.f_repr bt_repr (pa_consd (pd_var 2) pa_nild)) (nomark _)) (pd_one (pd_cmp (r := rEqD K) (o_eq (roomU hr)) (pd_callB (rL := rReprO (He.ga K "Head") (spP K mg 1 f_Head_DreprD)) (c_reprO T.s_Head_DreprD G_Head_DreprD (hr.mono (by decide)) hgd b_Head_DreprD T.g_Head) (by rfl) T.f_repr bt_repr (pa_consd (pd_var 0) pa_nild)) (pd_op (r := rAddA K) o_add (pd_op (r := rAddA K) o_add pd_str (pd_join pd_str (pd_comp (own := [("_law_one", 3)]) (g := gName 3) (mgt := (mSet 3)) rfl sc__law_is_head.nd (it_any (pd_var 2)) (by show blkC N__law_is_head (defScope s__law_is_head) _ _ = true; decide +kernel) (fun _ _ _ _ _ => (pgc_name (i := 3) (by decide) (pg_name (i := 3) sc__law_is_head.nd rfl (by first | exact Or.inl rfl | exact Or.inr rfl)))) (fun _ _ _ _ _ => pts_nild) (fun _ _ _ _ _ => (pd_callB (rL := rRepX K mg) (c_reprX T.sys hgd (roomU (A := A.deeper _) hr)) (by rfl) T.f_repr bt_repr (pa_consd (pd_var 3) pa_nild))) s))) pd_str) (nomark _)))))))⟩
theorem ok_Head_DeqD (T : Txt K mg) {fd : FuncData} (F : FunD K d_Head_DeqD.name d_Head_DeqD.qual d_Head_DeqD.params d_Head_DeqD.body d_Head_DeqD.scope (d_Head_DeqD.dvs K) (d_Head_DeqD.kws K) (He.ma K (He.ga K "Head") "__eq__") fd)  :
    FnG P w K mg base CX0 1 (He.ma K (He.ga K "Head") "__eq__") fd ["self", "other"] (spP K mg 2 f_Head_DeqD) :=
  fn_p (k := 0) (N := N_Head_DeqD) (m := m_Head_DeqD) F sc_Head_DeqD fun cdv A outer s H E hr hgd => ⟨_, (pss_oned (ps_retd (pd_and (pd_isi (by rfl) T.f_isinstance (pd_var 1) (pe_glob (v := V.ref (He.ga K "Head")) (by rfl) T.g_Head rfl) (.own _) T.t_tab_Head) (pd_and (pd_cmp (r := rEqD K) (o_eq (roomU hr)) (pd_fld T.c_Head T.n_Head__name T.g_Head (pd_var 0)) (pd_fld T.c_Head T.n_Head__name T.g_Head (pd_var 1)) (nomark _)) (pd_and (pd_cmp (r := rEqD K) (o_eq (roomU hr)) (pd_fld T.c_Head T.n_Head__left T.g_Head (pd_var 0)) (pd_fld T.c_Head T.n_Head__left T.g_Head (pd_var 1)) (nomark _)) (pd_and (pd_cmp (r := rEqD K) (o_eq (roomU hr)) (pd_fld T.c_Head T.n_Head__right T.g_Head (pd_var 0)) (pd_fld T.c_Head T.n_Head__right T.g_Head (pd_var 1)) (nomark _)) (pd_and (pd_cmp (r := rEqD K) (o_eq (roomU hr)) (pd_fld T.c_Head T.n_Head__kinds T.g_Head (pd_var 0)) (pd_fld T.c_Head T.n_Head__kinds T.g_Head (pd_var 1)) (nomark _)) (pd_and (pd_cmp (r := rEqD K) (o_eq (roomU hr)) (pd_fld T.c_Head T.n_Head__speed T.g_Head (pd_var 0)) (pd_fld T.c_Head T.n_Head__speed T.g_Head (pd_var 1)) (nomark _)) (pd_one (pd_cmp (r := rEqD K) (o_eq (roomU hr)) (pd_fld T.c_Head T.n_Head__changes T.g_Head (pd_var 0)) (pd_fld T.c_Head T.n_Head__changes T.g_Head (pd_var 1)) (nomark _)))))))))))⟩
theorem ok__law_copies_right (T : Txt K mg) {fd : FuncData} (F : FunD K d__law_copies_right.name d__law_copies_right.qual d__law_copies_right.params d__law_copies_right.body d__law_copies_right.scope (d__law_copies_right.dvs K) (d__law_copies_right.kws K) (He.ga K "_law_copies_right") fd) {fd__law_is_head : FuncData} (G__law_is_head : FnG P w K mg base CX0 4 (He.ga K "_law_is_head") fd__law_is_head ["_law_made", "_law_head_here"] (spP K mg 2 f__law_is_head)) (b__law_is_head : Binds K fd__law_is_head ["_law_made", "_law_head_here"] []) (k__law_is_head : PySem.W.keepIn K (.ref (He.ga K "_law_is_head")) = true) {fd_Head_DinitD : FuncData} (G_Head_DinitD : FnG P w K mg base CX0 4 (He.ma K (He.ga K "Head") "__init__") fd_Head_DinitD ["self", "name", "left", "right", "kinds", "speed", "changes"] (spI K mg 6 f_Head_DinitD)) (b_Head_DinitD : Binds K fd_Head_DinitD ["self", "name", "left", "right", "kinds", "speed", "changes"] []) {fd_Head_DeqD : FuncData} (G_Head_DeqD : FnG P w K mg base CX0 1 (He.ma K (He.ga K "Head") "__eq__") fd_Head_DeqD ["self", "other"] (spP K mg 2 f_Head_DeqD)) (b_Head_DeqD : Binds K fd_Head_DeqD ["self", "other"] []) (C_0 : CallG P w K mg base CX0 4 (He.ma K (He.ga K "Head") "__init__") ["kinds", "changes", "speed", "right", "left", "name"] (spIw K mg ci_0)) (C_1 : CallG P w K mg base CX0 4 (He.ma K (He.ga K "Head") "__init__") [] (spIw K mg ci_1)) :
    FnG P w K mg base CX0 6 (He.ga K "_law_copies_right") fd ["_law_head_here"] (spP K mg 1 f__law_copies_right) :=
  fn_p (k := 5) (N := N__law_copies_right) (m := m__law_copies_right) F sc__law_copies_right fun cdv A outer s H E hr hgd => ⟨_, (pss_consd (ps_par2I (i := 3) (j := 4) rfl sc__law_copies_right.nd rfl rfl (by decide) rfl rfl (pis_n (pn_list (by rfl) T.f_list bt_list (pa_consd (pd_ix (pd_var 0) pd_int fun _ _ => rfl) pa_nild)) (pis_n (pn_list (by rfl) T.f_list bt_list (pa_consd (pd_ix (pd_var 0) pd_int fun _ _ => rfl) pa_nild)) pis_nil)) rfl)
  (pss_consd (ps_setd (i := 1) sc__law_copies_right.nd rfl (by first | exact Or.inl rfl | exact Or.inr rfl) (pd_peekN (pd_gC T.k_Head C_0 (hr.mono (by decide)) hgd (by rfl) T.g_Head (ad_kw0 (ks := ["kinds", "changes", "speed", "right", "left", "name"]) (pk_consd (pd_var 3) (pk_consd (pd_var 4) (pk_consd (pd_ix (pd_var 0) pd_int fun _ _ => rfl) (pk_consd (pd_ix (pd_var 0) pd_int fun _ _ => rfl) (pk_consd (pd_ix (pd_var 0) pd_int fun _ _ => rfl) (pk_consd (pd_ix (pd_var 0) pd_int fun _ _ => rfl) pk_nild))))))))))
  (pss_consd (ps_ifd (pt_w (pw_ord (pt_peek 3 (pt_cmp (r := rNeD K) (o_ne (roomU hr)) (pd_var 3) (pd_ix (pd_var 0) pd_int fun _ _ => rfl) (nomark _))) (pw_or1d (pt_peek 4 (pt_cmp (r := rNeD K) (o_ne (roomU hr)) (pd_var 4) (pd_ix (pd_var 0) pd_int fun _ _ => rfl) (nomark _)))))) (pss_oned (ps_retd pd_bl)) pss_nild)
  (pss_consd (ps_exprd (pd_append (i := 3) (pv 3) pd_str))
  (pss_consd (ps_exprd (pd_clear (i := 4) (pv 4)))
  (pss_consd (ps_setd (i := 2) sc__law_copies_right.nd rfl (by first | exact Or.inl rfl | exact Or.inr rfl) (pd_gC T.k_Head C_1 (hr.mono (by decide)) hgd (by rfl) T.g_Head (ad_plain (pa_consd (pd_ix (pd_var 0) pd_int fun _ _ => rfl) (pa_consd (pd_ix (pd_var 0) pd_int fun _ _ => rfl) (pa_consd (pd_ix (pd_var 0) pd_int fun _ _ => rfl) (pa_consd (pd_callTy (rL := rTupleA K) c_tuple (by rfl) T.f_tuple bt_tuple (pa_consd (pd_ix (pd_var 0) pd_int fun _ _ => rfl) pa_nild)) (pa_consd (pd_ix (pd_var 0) pd_int fun _ _ => rfl) pa_nild))))))))
  (pss_consd (ps_ifd (pt_w (pw_ord (pt_notd (pt_val (pd_fn G__law_is_head (hr.mono (by decide)) hgd (by rfl) T.g__law_is_head k__law_is_head b__law_is_head .nil (fun _ => RepL.nil) (pa_consd (pd_var 1) (pa_consd (pd_var 0) pa_nild))))) (pw_or1d (pt_notd (pt_val (pd_fn G__law_is_head (hr.mono (by decide)) hgd (by rfl) T.g__law_is_head k__law_is_head b__law_is_head .nil (fun _ => RepL.nil) (pa_consd (pd_var 2) (pa_consd (pd_op (r := rAddA K) o_add (pd_slice (pd_var 0) pp_none (pp_some pd_int)) (pd_tup (pa_consd (pd_lst pa_nild) pa_nild))) pa_nild)))))))) (pss_oned (ps_retd pd_bl)) pss_nild)
  (pss_oned (ps_retd (pd_cmp (r := rOwnG K (He.ga K "Head") (spP K mg 2 f_Head_DeqD) E0) (o_eqOwn T.g_Head T.s_Head_DeqD.1 T.s_Head_DeqD.2 G_Head_DeqD b_Head_DeqD (hr.mono (by decide)) hgd T.o_Head) (pd_var 1) (pd_make T.k_Head G_Head_DinitD (hr.mono (by decide)) hgd (by rfl) T.g_Head b_Head_DinitD .nil (fun _ => RepL.nil) (pa_consd (pd_ix (pd_var 0) pd_int fun _ _ => rfl) (pa_consd (pd_ix (pd_var 0) pd_int fun _ _ => rfl) (pa_consd (pd_ix (pd_var 0) pd_int fun _ _ => rfl) (pa_consd (pd_callTy (rL := rTupleA K) c_tuple (by rfl) T.f_tuple bt_tuple (pa_consd (pd_ix (pd_var 0) pd_int fun _ _ => rfl) pa_nild)) (pa_consd (pd_ix (pd_var 0) pd_int fun _ _ => rfl) (pa_consd (pd_callTy (rL := rTupleA K) c_tuple (by rfl) T.f_tuple bt_tuple (pa_consd (pd_ix (pd_var 0) pd_int fun _ _ => rfl) pa_nild)) pa_nild))))))) (nomark _)))))))))))⟩
theorem ok__law_steps (T : Txt K mg) {fd : FuncData} (F : FunD K d__law_steps.name d__law_steps.qual d__law_steps.params d__law_steps.body d__law_steps.scope (d__law_steps.dvs K) (d__law_steps.kws K) (He.ga K "_law_steps") fd) {fd__law_number : FuncData} (G__law_number : FnG P w K mg base CX0 3 (He.ga K "_law_number") fd__law_number ["_law_rng_here"] (spI K mg 0 f__law_number)) (b__law_number : Binds K fd__law_number ["_law_rng_here"] []) (k__law_number : PySem.W.keepIn K (.ref (He.ga K "_law_number")) = true) :
    FnG P w K mg base CX0 4 (He.ga K "_law_steps") fd ["_law_rng_here", "_law_head_here"] (spI K mg 1 f__law_steps) :=
  fn_i (k := 3) (N := N__law_steps) (m := m__law_steps) F sc__law_steps (by decide) fun cdv A outer s H E hr hgd => ⟨_, (pss_consd (ps_own (i := 2) sc__law_steps.nd rfl (by first | exact Or.inl rfl | exact Or.inr rfl) (pa_consd (pd_fnI (i := 0) G__law_number (hr.mono (by decide)) hgd (by rfl) T.g__law_number k__law_number b__law_number .nil (fun _ => RepL.nil) (pv 0) pa_nild) (pa_consd (pd_op o_sub (pd_op o_pow pd_int pd_int) pd_int) (pa_consd (pd_op o_sub pd_int (pd_op o_pow pd_int pd_int)) (pa_consd pd_int pa_nild)))))
  (pss_consd (ps_ford PassesOwn.never rfl (it_any (pd_ix (pd_var 1) pd_int fun _ _ => rfl)) (pg_tupd rfl (pgs_consd (pg_named (i := 3) sc__law_steps.nd rfl (by first | exact Or.inl rfl | exact Or.inr rfl)) (pgs_consd (pg_named (i := 4) sc__law_steps.nd rfl (by first | exact Or.inl rfl | exact Or.inr rfl)) pgs_nild))) (pss_oned (ps_exprd (pd_extend (i := 2) (pv 2) (pd_lst (pa_consd (pd_op o_sub (pd_var 3) pd_int) (pa_consd (pd_var 3) (pa_consd (pd_op (r := rAddA K) o_add (pd_var 3) pd_int) pa_nild))))))))
  (pss_oned (ps_retd (pd_var 2)))))⟩
theorem ok_check_integer (T : Txt K mg) {fd : FuncData} (F : FunD K d_check_integer.name d_check_integer.qual d_check_integer.params d_check_integer.body d_check_integer.scope (d_check_integer.dvs K) (d_check_integer.kws K) (He.ga K "check_integer") fd) {fd_is_integer : FuncData} (G_is_integer : FnG P w K mg base CX0 1 (He.ga K "is_integer") fd_is_integer ["value"] (spP K mg 1 f_is_integer)) (b_is_integer : Binds K fd_is_integer ["value"] []) (k_is_integer : PySem.W.keepIn K (.ref (He.ga K "is_integer")) = true) :
    FnG P w K mg base CX0 2 (He.ga K "check_integer") fd ["value"] (spP K mg 1 f_check_integer) :=
  fn_p (k := 1) (N := N_check_integer) (m := m_check_integer) F sc_check_integer fun cdv A outer s H E hr hgd => ⟨_, (pss_oned (ps_ifd (pt_notd (pt_val (pd_fn G_is_integer (hr.mono (by decide)) hgd (by rfl) T.g_is_integer k_is_integer b_is_integer .nil (fun _ => RepL.nil) (pa_consd (pd_var 0) pa_nild)))) (pss_oned ps_no) pss_nild))⟩
theorem ok_Head_speed_at (T : Txt K mg) {fd : FuncData} (F : FunD K d_Head_speed_at.name d_Head_speed_at.qual d_Head_speed_at.params d_Head_speed_at.body d_Head_speed_at.scope (d_Head_speed_at.dvs K) (d_Head_speed_at.kws K) (He.ma K (He.ga K "Head") "speed_at") fd) {fd_check_integer : FuncData} (G_check_integer : FnG P w K mg base CX0 2 (He.ga K "check_integer") fd_check_integer ["value"] (spP K mg 1 f_check_integer)) (b_check_integer : Binds K fd_check_integer ["value"] []) (k_check_integer : PySem.W.keepIn K (.ref (He.ga K "check_integer")) = true) :
    FnG P w K mg base CX0 3 (He.ma K (He.ga K "Head") "speed_at") fd ["self", "step"] (spP K mg 2 f_Head_speed_at) :=
  fn_p (k := 2) (N := N_Head_speed_at) (m := m_Head_speed_at) F sc_Head_speed_at fun cdv A outer s H E hr hgd => ⟨_, (pss_consd (ps_exprd (pd_fn G_check_integer (hr.mono (by decide)) hgd (by rfl) T.g_check_integer k_check_integer b_check_integer .nil (fun _ => RepL.nil) (pa_consd (pd_var 1) pa_nild)))
  (pss_consd (ps_setd (i := 2) sc_Head_speed_at.nd rfl (by first | exact Or.inl rfl | exact Or.inr rfl) (pd_fld T.c_Head T.n_Head__speed T.g_Head (pd_var 0)))
  (pss_consd (ps_ford PassesOwn.never rfl (it_any (pd_fld T.c_Head T.n_Head__changes T.g_Head (pd_var 0))) (pg_tupd rfl (pgs_consd (pg_named (i := 3) sc_Head_speed_at.nd rfl (by first | exact Or.inl rfl | exact Or.inr rfl)) (pgs_consd (pg_named (i := 4) sc_Head_speed_at.nd rfl (by first | exact Or.inl rfl | exact Or.inr rfl)) pgs_nild))) (pss_oned (ps_ifd (pt_cmp o_le (pd_var 3) (pd_var 1) (nomark _)) (pss_oned (ps_setd (i := 2) sc_Head_speed_at.nd rfl (by first | exact Or.inl rfl | exact Or.inr rfl) (pd_var 4))) pss_nild)))
  (pss_oned (ps_retd (pd_var 2))))))⟩
theorem ok__law_speed (T : Txt K mg) {fd : FuncData} (F : FunD K d__law_speed.name d__law_speed.qual d__law_speed.params d__law_speed.body d__law_speed.scope (d__law_speed.dvs K) (d__law_speed.kws K) (He.ga K "_law_speed") fd)  :
    FnG P w K mg base CX0 1 (He.ga K "_law_speed") fd ["_law_head_here", "_law_moment"] (spP K mg 2 f__law_speed) :=
  fn_p (k := 0) (N := N__law_speed) (m := m__law_speed) F sc__law_speed fun cdv A outer s H E hr hgd => ⟨_, (pss_consd (ps_setd (i := 2) sc__law_speed.nd rfl (by first | exact Or.inl rfl | exact Or.inr rfl) (pd_ix (pd_var 0) pd_int fun _ _ => rfl))
  (pss_consd (ps_ford PassesOwn.never rfl (it_any (pd_ix (pd_var 0) pd_int fun _ _ => rfl)) (pg_tupd rfl (pgs_consd (pg_named (i := 3) sc__law_speed.nd rfl (by first | exact Or.inl rfl | exact Or.inr rfl)) (pgs_consd (pg_named (i := 4) sc__law_speed.nd rfl (by first | exact Or.inl rfl | exact Or.inr rfl)) pgs_nild))) (pss_oned (ps_setd (i := 2) sc__law_speed.nd rfl (by first | exact Or.inl rfl | exact Or.inr rfl) (pd_if (pt_cmp o_le (pd_var 3) (pd_var 1) (nomark _)) (pd_var 4) (pd_var 2)))))
  (pss_oned (ps_retd (pd_var 2)))))⟩
theorem ok_Head_does (T : Txt K mg) {fd : FuncData} (F : FunD K d_Head_does.name d_Head_does.qual d_Head_does.params d_Head_does.body d_Head_does.scope (d_Head_does.dvs K) (d_Head_does.kws K) (He.ma K (He.ga K "Head") "does") fd)  :
    FnG P w K mg base CX0 1 (He.ma K (He.ga K "Head") "does") fd ["self", "kind"] (spP K mg 2 f_Head_does) :=
  fn_p (k := 0) (N := N_Head_does) (m := m_Head_does) F sc_Head_does fun cdv A outer s H E hr hgd => ⟨_, (pss_oned (ps_retd (pd_and (pd_isi (by rfl) T.f_isinstance (pd_var 1) (pe_bltn (v := .ty "str") (by rfl) T.f_str bt_str rfl) (.ty _) T.t_tab_str) (pd_one (pd_cmp (r := rIn K false) o_in (pd_var 1) (pd_fld T.c_Head T.n_Head__kinds T.g_Head (pd_var 0)) (by rfl))))))⟩
theorem ok__law_is_told (T : Txt K mg) {fd : FuncData} (F : FunD K d__law_is_told.name d__law_is_told.qual d__law_is_told.params d__law_is_told.body d__law_is_told.scope (d__law_is_told.dvs K) (d__law_is_told.kws K) (He.ga K "_law_is_told") fd) {fd__law_steps : FuncData} (G__law_steps : FnG P w K mg base CX0 4 (He.ga K "_law_steps") fd__law_steps ["_law_rng_here", "_law_head_here"] (spI K mg 1 f__law_steps)) (b__law_steps : Binds K fd__law_steps ["_law_rng_here", "_law_head_here"] []) (k__law_steps : PySem.W.keepIn K (.ref (He.ga K "_law_steps")) = true) {fd_Head_speed_at : FuncData} (G_Head_speed_at : FnG P w K mg base CX0 3 (He.ma K (He.ga K "Head") "speed_at") fd_Head_speed_at ["self", "step"] (spP K mg 2 f_Head_speed_at)) (b_Head_speed_at : Binds K fd_Head_speed_at ["self", "step"] []) {fd__law_speed : FuncData} (G__law_speed : FnG P w K mg base CX0 1 (He.ga K "_law_speed") fd__law_speed ["_law_head_here", "_law_moment"] (spP K mg 2 f__law_speed)) (b__law_speed : Binds K fd__law_speed ["_law_head_here", "_law_moment"] []) (k__law_speed : PySem.W.keepIn K (.ref (He.ga K "_law_speed")) = true) {fd_Head_does : FuncData} (G_Head_does : FnG P w K mg base CX0 1 (He.ma K (He.ga K "Head") "does") fd_Head_does ["self", "kind"] (spP K mg 2 f_Head_does)) (b_Head_does : Binds K fd_Head_does ["self", "kind"] []) (C_2 : CallG P w K mg base CX0 3 (He.ma K (He.ga K "Head") "speed_at") ["step"] (spW K mg cf_2)) (C_3 : CallG P w K mg base CX0 1 (He.ma K (He.ga K "Head") "does") ["kind"] (spW K mg cf_3)) :
    FnG P w K mg base CX0 5 (He.ga K "_law_is_told") fd ["_law_rng_here", "_law_made", "_law_head_here"] (spI K mg 2 f__law_is_told) :=
  fn_i (k := 4) (N := N__law_is_told) (m := m__law_is_told) F sc__law_is_told (by decide) fun cdv A outer s H E hr hgd => ⟨_, (pss_consd (ps_ford PassesOwn.never rfl (it_any (pd_fnI (i := 0) G__law_steps (hr.mono (by decide)) hgd (by rfl) T.g__law_steps k__law_steps b__law_steps .nil (fun _ => RepL.nil) (pv 0) (pa_consd (pd_var 2) pa_nild))) (pg_named (i := 3) sc__law_is_told.nd rfl (by first | exact Or.inl rfl | exact Or.inr rfl)) (pss_oned (ps_ifd (pt_cmp (r := rNeD K) (o_ne (roomU hr)) (pd_callB (rL := rRepX K mg) (c_reprX T.sys hgd (roomU (A := A.deeper _) hr)) (by rfl) T.f_repr bt_repr (pa_consd (pd_lst (pa_consd (pd_meth T.c_Head T.m_Head_speed_at G_Head_speed_at (hr.mono (by decide)) hgd b_Head_speed_at .nil (fun _ => RepL.nil) T.g_Head (pd_var 1) (pa_consd (pd_var 3) pa_nild)) (pa_consd (pd_gM C_2 T.c_Head T.m_Head_speed_at (hr.mono (by decide)) hgd T.g_Head (pd_var 1) (ad_kw0 (ks := ["step"]) (pk_consd (pd_var 3) pk_nild))) pa_nild))) pa_nild)) (pd_callB (rL := rRepX K mg) (c_reprX T.sys hgd (roomU (A := A.deeper _) hr)) (by rfl) T.f_repr bt_repr (pa_consd (pd_op o_mul (pd_lst (pa_consd (pd_fn G__law_speed (hr.mono (by decide)) hgd (by rfl) T.g__law_speed k__law_speed b__law_speed .nil (fun _ => RepL.nil) (pa_consd (pd_var 2) (pa_consd (pd_var 3) pa_nild))) pa_nild)) pd_int) pa_nild)) (nomark _)) (pss_oned (ps_retd pd_bl)) pss_nild)))
  (pss_consd (ps_setd (i := 4) sc__law_is_told.nd rfl (by first | exact Or.inl rfl | exact Or.inr rfl) (pd_ix (pd_ix (pd_var 2) pd_int fun _ _ => rfl) pd_int fun _ _ => rfl))
  (pss_consd (ps_setd (i := 5) sc__law_is_told.nd rfl (by first | exact Or.inl rfl | exact Or.inr rfl) (pd_lst (pa_consd pd_non (pa_consd pd_int (pa_consd pd_bl (pa_consd pd_str (pa_consd (pd_lst pa_nild) (pa_consd pd_d0 (pa_consd (pd_tup (pa_consd (pd_var 4) pa_nild)) (pa_consd (pd_lst (pa_consd (pd_var 4) pa_nild)) (pa_consd (pd_upper (pd_var 4)) (pa_consd (pd_op (r := rAddA K) o_add (pd_var 4) pd_str) (pa_consd (pd_slice (pd_var 4) pp_none (pp_some (pd_un o_neg pd_int))) (pa_consd (pd_ix (pd_var 2) pd_int fun _ _ => rfl) (pa_consd (pd_ix (pd_var 2) pd_int fun _ _ => rfl) pa_nild)))))))))))))))
  (pss_consd (ps_ford PassesOwn.never rfl (it_any (pd_op (r := rAddA K) o_add (pd_ix (pd_var 2) pd_int fun _ _ => rfl) (pd_var 5))) (pg_named (i := 6) sc__law_is_told.nd rfl (by first | exact Or.inl rfl | exact Or.inr rfl)) (pss_oned (ps_ifd (pt_cmp (r := rNeD K) (o_ne (roomU hr)) (pd_callB (rL := rRepX K mg) (c_reprX T.sys hgd (roomU (A := A.deeper _) hr)) (by rfl) T.f_repr bt_repr (pa_consd (pd_lst (pa_consd (pd_meth T.c_Head T.m_Head_does G_Head_does (hr.mono (by decide)) hgd b_Head_does .nil (fun _ => RepL.nil) T.g_Head (pd_var 1) (pa_consd (pd_var 6) pa_nild)) (pa_consd (pd_gM C_3 T.c_Head T.m_Head_does (hr.mono (by decide)) hgd T.g_Head (pd_var 1) (ad_kw0 (ks := ["kind"]) (pk_consd (pd_var 6) pk_nild))) pa_nild))) pa_nild)) (pd_callB (rL := rRepX K mg) (c_reprX T.sys hgd (roomU (A := A.deeper _) hr)) (by rfl) T.f_repr bt_repr (pa_consd (pd_op o_mul (pd_lst (pa_consd (pd_and (pd_isi (by rfl) T.f_isinstance (pd_var 6) (pe_bltn (v := .ty "str") (by rfl) T.f_str bt_str rfl) (.ty _) T.t_tab_str) (pd_one (pd_cmp (r := rIn K false) o_in (pd_var 6) (pd_ix (pd_var 2) pd_int fun _ _ => rfl) (by rfl)))) pa_nild)) pd_int) pa_nild)) (nomark _)) (pss_oned (ps_retd pd_bl)) pss_nild)))
  (pss_oned (ps_retd pd_bl))))))⟩
theorem ok__law_others (T : Txt K mg) {fd : FuncData} (F : FunD K d__law_others.name d__law_others.qual d__law_others.params d__law_others.body d__law_others.scope (d__law_others.dvs K) (d__law_others.kws K) (He.ga K "_law_others") fd) {fd__law_left : FuncData} (G__law_left : FnG P w K mg base CX0 1 (He.ga K "_law_left") fd__law_left ["_law_pace", "_law_shifts"] (spP K mg 2 f__law_left)) (b__law_left : Binds K fd__law_left ["_law_pace", "_law_shifts"] []) (k__law_left : PySem.W.keepIn K (.ref (He.ga K "_law_left")) = true) {fd__law_choice : FuncData} (G__law_choice : FnG P w K mg base CX0 2 (He.ga K "_law_choice") fd__law_choice ["_law_rng_here", "_law_some"] (spI K mg 1 f__law_choice)) (b__law_choice : Binds K fd__law_choice ["_law_rng_here", "_law_some"] []) (k__law_choice : PySem.W.keepIn K (.ref (He.ga K "_law_choice")) = true) {fd__law_draw : FuncData} (G__law_draw : FnG P w K mg base CX0 1 (He.ga K "_law_draw") fd__law_draw ["_law_rng_here", "_law_many"] (spI K mg 1 f__law_draw)) (b__law_draw : Binds K fd__law_draw ["_law_rng_here", "_law_many"] []) (k__law_draw : PySem.W.keepIn K (.ref (He.ga K "_law_draw")) = true) :
    FnG P w K mg base CX0 3 (He.ga K "_law_others") fd ["_law_rng_here", "_law_head_here", "_law_names_here"] (spI K mg 2 f__law_others) :=
  fn_i (k := 2) (N := N__law_others) (m := m__law_others) F sc__law_others (by decide) fun cdv A outer s H E hr hgd => ⟨_, (pss_consd (ps_pard (i := 4) (j := 5) rfl sc__law_others.nd rfl rfl (by decide) rfl rfl (pa_consd (pd_ix (pd_var 1) pd_int fun _ _ => rfl) (pa_consd (pd_ix (pd_var 1) pd_int fun _ _ => rfl) pa_nild)) rfl)
  (pss_consd (ps_own (i := 3) sc__law_others.nd rfl (by first | exact Or.inl rfl | exact Or.inr rfl) (pa_consd (pd_op (r := rAddA K) o_add (pd_op (r := rAddA K) o_add (pd_slice (pd_var 1) pp_none (pp_some pd_int)) (pd_tup (pa_consd (pd_rev (pd_var 4)) pa_nild))) (pd_slice (pd_var 1) (pp_some pd_int) pp_none)) (pa_consd (pd_op (r := rAddA K) o_add (pd_slice (pd_var 1) pp_none (pp_some pd_int)) (pd_tup (pa_consd (pd_callTy (rL := rListA K) c_list (by rfl) T.f_list bt_list (pa_consd (pd_fn G__law_left (hr.mono (by decide)) hgd (by rfl) T.g__law_left k__law_left b__law_left .nil (fun _ => RepL.nil) (pa_consd (pd_ix (pd_var 1) pd_int fun _ _ => rfl) (pa_consd (pd_var 5) pa_nild))) pa_nild)) pa_nild))) pa_nild)))
  (pss_consd (ps_exprd (pd_append (i := 3) (pv 3) (pd_op (r := rAddA K) o_add (pd_tup (pa_consd (pd_ix (pd_var 2) pd_int fun _ _ => rfl) pa_nild)) (pd_slice (pd_var 1) (pp_some pd_int) pp_none))))
  (pss_consd (ps_exprd (pd_append (i := 3) (pv 3) (pd_op (r := rAddA K) o_add (pd_op (r := rAddA K) o_add (pd_slice (pd_var 1) pp_none (pp_some pd_int)) (pd_tup (pa_consd (pd_op (r := rAddA K) o_add (pd_ix (pd_var 1) pd_int fun _ _ => rfl) pd_int) pa_nild))) (pd_slice (pd_var 1) (pp_some pd_int) pp_none))))
  (pss_consd (ps_exprd (pd_append (i := 3) (pv 3) (pd_op (r := rAddA K) o_add (pd_op (r := rAddA K) o_add (pd_slice (pd_var 1) pp_none (pp_some pd_int)) (pd_tup (pa_consd (pd_op (r := rAddA K) o_add (pd_ix (pd_var 1) pd_int fun _ _ => rfl) pd_int) pa_nild))) (pd_slice (pd_var 1) (pp_some pd_int) pp_none))))
  (pss_consd (ps_exprd (pd_append (i := 3) (pv 3) (pd_op (r := rAddA K) o_add (pd_tup (pa_consd (pd_ix (pd_var 1) pd_int fun _ _ => rfl) (pa_consd (pd_ix (pd_var 1) pd_int fun _ _ => rfl) (pa_consd (pd_ix (pd_var 1) pd_int fun _ _ => rfl) pa_nild)))) (pd_slice (pd_var 1) (pp_some pd_int) pp_none))))
  (pss_consd (ps_exprd (pd_append (i := 3) (pv 3) (pd_op (r := rAddA K) o_add (pd_op (r := rAddA K) o_add (pd_slice (pd_var 1) pp_none (pp_some pd_int)) (pd_tup (pa_consd (pd_op (r := rAddA K) o_add (pd_lst (pa_consd (pd_ix (pd_var 2) pd_int fun _ _ => rfl) pa_nild)) (pd_slice (pd_var 4) (pp_some pd_int) pp_none)) pa_nild))) (pd_slice (pd_var 1) (pp_some pd_int) pp_none))))
  (pss_consd (ps_exprd (pd_append (i := 3) (pv 3) (pd_op (r := rAddA K) o_add (pd_op (r := rAddA K) o_add (pd_slice (pd_var 1) pp_none (pp_some pd_int)) (pd_tup (pa_consd (pd_slice (pd_var 4) pp_none (pp_some (pd_callB (rL := rMaxA K) (c_max rfl) (by rfl) T.f_max bt_max (pa_consd pd_int (pa_consd (pd_op o_sub (pd_callB (rL := rLenA K) c_len (by rfl) T.f_len bt_len (pa_consd (pd_var 4) pa_nild)) pd_int) pa_nild))))) pa_nild))) (pd_slice (pd_var 1) (pp_some pd_int) pp_none))))
  (pss_consd (ps_exprd (pd_append (i := 3) (pv 3) (pd_op (r := rAddA K) o_add (pd_op (r := rAddA K) o_add (pd_slice (pd_var 1) pp_none (pp_some pd_int)) (pd_tup (pa_consd (pd_fnI (i := 0) G__law_choice (hr.mono (by decide)) hgd (by rfl) T.g__law_choice k__law_choice b__law_choice .nil (fun _ => RepL.nil) (pv 0) (pa_consd (pd_lst (pa_consd pd_int (pa_consd pd_int (pa_consd pd_int pa_nild)))) pa_nild)) pa_nild))) (pd_slice (pd_var 1) (pp_some pd_int) pp_none))))
  (pss_consd (ps_exprd (pd_append (i := 3) (pv 3) (pd_op (r := rAddA K) o_add (pd_slice (pd_var 1) pp_none (pp_some pd_int)) (pd_tup (pa_consd (pd_comp (own := [("_law_turn", 6), ("_law_tick", 7), ("_law_pace", 8)]) (g := gTup K 2 (gCons (gName 6) (gCons (gTup K 2 (gCons (gName 7) (gCons (gName 8) gNil))) gNil))) (mgt := (mGtup [(mSet 6), (mGtup [(mSet 7), (mSet 8)])])) rfl sc__law_others.nd (it_enumA (by rfl) T.f_enumerate (pa_consd (pd_var 5) pa_nild)) (by show blkC N__law_others (defScope s__law_others) _ _ = true; decide +kernel) (fun _ _ _ _ _ => (pgc_tup rfl (pgcs_cons (pgc_name (i := 6) (by decide) (pg_name (i := 6) sc__law_others.nd rfl (by first | exact Or.inl rfl | exact Or.inr rfl))) (pgcs_cons (pgc_tup rfl (pgcs_cons (pgc_name (i := 7) (by decide) (pg_name (i := 7) sc__law_others.nd rfl (by first | exact Or.inl rfl | exact Or.inr rfl))) (pgcs_cons (pgc_name (i := 8) (by decide) (pg_name (i := 8) sc__law_others.nd rfl (by first | exact Or.inl rfl | exact Or.inr rfl))) pgcs_nil))) pgcs_nil)))) (fun _ _ _ _ _ => pts_nild) (fun _ _ _ _ _ => (pd_tup (pa_consd (pd_var 7) (pa_consd (pd_op o_mod (pd_callTy c_int (by rfl) T.f_int bt_int (pa_consd (pd_op (r := rAddA K) o_add (pd_op (r := rAddA K) o_add (pd_var 8) (pd_var 6)) pd_int) pa_nild)) pd_int) pa_nild)))) s) pa_nild)))))
  (pss_consd (ps_exprd (pd_append (i := 3) (pv 3) (pd_op (r := rAddA K) o_add (pd_slice (pd_var 1) pp_none (pp_some pd_int)) (pd_tup (pa_consd (pd_comp (own := [("_law_tick", 7), ("_law_pace", 8)]) (g := gTup K 2 (gCons (gName 7) (gCons (gName 8) gNil))) (mgt := (mGtup [(mSet 7), (mSet 8)])) rfl sc__law_others.nd (it_any (pd_var 5)) (by show blkC N__law_others (defScope s__law_others) _ _ = true; decide +kernel) (fun _ _ _ _ _ => (pgc_tup rfl (pgcs_cons (pgc_name (i := 7) (by decide) (pg_name (i := 7) sc__law_others.nd rfl (by first | exact Or.inl rfl | exact Or.inr rfl))) (pgcs_cons (pgc_name (i := 8) (by decide) (pg_name (i := 8) sc__law_others.nd rfl (by first | exact Or.inl rfl | exact Or.inr rfl))) pgcs_nil)))) (fun _ _ _ _ _ => pts_nild) (fun _ _ _ _ _ => (pd_tup (pa_consd (pd_op (r := rAddA K) o_add (pd_var 7) pd_int) (pa_consd (pd_var 8) pa_nild)))) s) pa_nild)))))
  (pss_oned (ps_retd (pd_op (r := rAddA K) o_add (pd_var 3) (pd_lst (pa_consd (pd_op (r := rAddA K) o_add (pd_slice (pd_var 1) pp_none (pp_some pd_int)) (pd_tup (pa_consd (pd_slice (pd_var 5) pp_none (pp_some (pd_fnI (i := 0) G__law_draw (hr.mono (by decide)) hgd (by rfl) T.g__law_draw k__law_draw b__law_draw .nil (fun _ => RepL.nil) (pv 0) (pa_consd pd_int pa_nild)))) pa_nild))) pa_nild))))))))))))))))⟩
theorem body_Head_with_speed (T : Txt K mg) {fd_Head_DinitD : FuncData} (G_Head_DinitD : FnG P w K mg base CX0 4 (He.ma K (He.ga K "Head") "__init__") fd_Head_DinitD ["self", "name", "left", "right", "kinds", "speed", "changes"] (spI K mg 6 f_Head_DinitD)) (b_Head_DinitD : Binds K fd_Head_DinitD ["self", "name", "left", "right", "kinds", "speed", "changes"] []) : ∀ (cdv : Value) (A : Around) (outer : List Env) (s : Shared) (H : Hp) (E : XK), Room 5 (A.deeper (envOfC d_Head_with_speed.qual d_Head_with_speed.scope s.heap.objs.size (He.ma K (He.ga K "Head") "with_speed") cdv)) → A.guards = some [] → ∃ t, PSsd (cxOf CX0 P w K mg base N_Head_with_speed d_Head_with_speed.qual d_Head_with_speed.scope (He.ma K (He.ga K "Head") "with_speed") cdv A outer s H E).nox d_Head_with_speed.body t m_Head_with_speed :=
  fun cdv A outer s H E hr hgd => ⟨_, (pss_oned (ps_retd (pd_make T.k_Head G_Head_DinitD (hr.mono (by decide)) hgd (by rfl) T.g_Head b_Head_DinitD .nil (fun _ => RepL.nil) (pa_consd (pd_fld T.c_Head T.n_Head__name T.g_Head (pd_var 0)) (pa_consd (pd_fld T.c_Head T.n_Head__left T.g_Head (pd_var 0)) (pa_consd (pd_fld T.c_Head T.n_Head__right T.g_Head (pd_var 0)) (pa_consd (pd_fld T.c_Head T.n_Head__kinds T.g_Head (pd_var 0)) (pa_consd (pd_var 1) (pa_consd (pd_var 2) pa_nild)))))))))⟩
theorem ok__law_with (T : Txt K mg) {fd : FuncData} (F : FunD K d__law_with.name d__law_with.qual d__law_with.params d__law_with.body d__law_with.scope (d__law_with.dvs K) (d__law_with.kws K) (He.ga K "_law_with") fd) (C_4 : CallG P w K mg base CX0 6 (He.ma K (He.ga K "Head") "with_speed") [] (spW K mg cf_4)) :
    FnG P w K mg base CX0 7 (He.ga K "_law_with") fd ["_law_made", "_law_pace", "_law_shifts"] (spP K mg 3 f__law_with) :=
  fn_p (k := 6) (N := N__law_with) (m := m__law_with) F sc__law_with fun cdv A outer s H E hr hgd => ⟨_, (pss_consd (ps_ifd (pt_cmp (r := rEqD K) (o_eq (roomU hr)) (pd_callB (rL := rLenA K) c_len (by rfl) T.f_len bt_len (pa_consd (pd_var 2) pa_nild)) pd_int (nomark _)) (pss_oned (ps_retd (pd_gM C_4 T.c_Head T.m_Head_with_speed (hr.mono (by decide)) hgd T.g_Head (pd_var 0) (ad_plain (pa_consd (pd_var 1) pa_nild))))) pss_nild)
  (pss_consd (ps_ifd (pt_cmp (r := rEqD K) (o_eq (roomU hr)) (pd_callB (rL := rLenA K) c_len (by rfl) T.f_len bt_len (pa_consd (pd_var 2) pa_nild)) pd_int (nomark _)) (pss_oned (ps_retd (pd_gM C_4 T.c_Head T.m_Head_with_speed (hr.mono (by decide)) hgd T.g_Head (pd_var 0) (ad_plain (pa_consd (pd_var 1) (pa_consd (pd_ix (pd_var 2) pd_int fun _ _ => rfl) pa_nild)))))) pss_nild)
  (pss_consd (ps_ifd (pt_cmp (r := rEqD K) (o_eq (roomU hr)) (pd_callB (rL := rLenA K) c_len (by rfl) T.f_len bt_len (pa_consd (pd_var 2) pa_nild)) pd_int (nomark _)) (pss_oned (ps_retd (pd_gM C_4 T.c_Head T.m_Head_with_speed (hr.mono (by decide)) hgd T.g_Head (pd_var 0) (ad_plain (pa_consd (pd_var 1) (pa_consd (pd_ix (pd_var 2) pd_int fun _ _ => rfl) (pa_consd (pd_ix (pd_var 2) pd_int fun _ _ => rfl) pa_nild))))))) pss_nild)
  (pss_oned (ps_retd (pd_gM C_4 T.c_Head T.m_Head_with_speed (hr.mono (by decide)) hgd T.g_Head (pd_var 0) (ad_plain (pa_consd (pd_var 1) (pa_consd (pd_ix (pd_var 2) pd_int fun _ _ => rfl) (pa_consd (pd_ix (pd_var 2) pd_int fun _ _ => rfl) (pa_consd (pd_ix (pd_var 2) pd_int fun _ _ => rfl) pa_nild)))))))))))⟩
theorem ok__law_right (T : Txt K mg) {fd : FuncData} (F : FunD K d__law_right.name d__law_right.qual d__law_right.params d__law_right.body d__law_right.scope (d__law_right.dvs K) (d__law_right.kws K) (He.ga K "_law_right") fd) {fd__law_names : FuncData} (G__law_names : FnG P w K mg base CX0 3 (He.ga K "_law_names") fd__law_names ["_law_rng_here", "_law_many"] (spI K mg 1 f__law_names)) (b__law_names : Binds K fd__law_names ["_law_rng_here", "_law_many"] []) (k__law_names : PySem.W.keepIn K (.ref (He.ga K "_law_names")) = true) {fd__law_head : FuncData} (G__law_head : FnG P w K mg base CX0 4 (He.ga K "_law_head") fd__law_head ["_law_rng_here", "_law_names_here"] (spI K mg 1 f__law_head)) (b__law_head : Binds K fd__law_head ["_law_rng_here", "_law_names_here"] []) (k__law_head : PySem.W.keepIn K (.ref (He.ga K "_law_head")) = true) {fd__law_real : FuncData} (G__law_real : FnG P w K mg base CX0 6 (He.ga K "_law_real") fd__law_real ["_law_head_here"] (spP K mg 1 f__law_real)) (b__law_real : Binds K fd__law_real ["_law_head_here"] []) (k__law_real : PySem.W.keepIn K (.ref (He.ga K "_law_real")) = true) {fd__law_is_head : FuncData} (G__law_is_head : FnG P w K mg base CX0 4 (He.ga K "_law_is_head") fd__law_is_head ["_law_made", "_law_head_here"] (spP K mg 2 f__law_is_head)) (b__law_is_head : Binds K fd__law_is_head ["_law_made", "_law_head_here"] []) (k__law_is_head : PySem.W.keepIn K (.ref (He.ga K "_law_is_head")) = true) {fd__law_copies_right : FuncData} (G__law_copies_right : FnG P w K mg base CX0 6 (He.ga K "_law_copies_right") fd__law_copies_right ["_law_head_here"] (spP K mg 1 f__law_copies_right)) (b__law_copies_right : Binds K fd__law_copies_right ["_law_head_here"] []) (k__law_copies_right : PySem.W.keepIn K (.ref (He.ga K "_law_copies_right")) = true) {fd__law_is_told : FuncData} (G__law_is_told : FnG P w K mg base CX0 5 (He.ga K "_law_is_told") fd__law_is_told ["_law_rng_here", "_law_made", "_law_head_here"] (spI K mg 2 f__law_is_told)) (b__law_is_told : Binds K fd__law_is_told ["_law_rng_here", "_law_made", "_law_head_here"] []) (k__law_is_told : PySem.W.keepIn K (.ref (He.ga K "_law_is_told")) = true) {fd__law_others : FuncData} (G__law_others : FnG P w K mg base CX0 3 (He.ga K "_law_others") fd__law_others ["_law_rng_here", "_law_head_here", "_law_names_here"] (spI K mg 2 f__law_others)) (b__law_others : Binds K fd__law_others ["_law_rng_here", "_law_head_here", "_law_names_here"] []) (k__law_others : PySem.W.keepIn K (.ref (He.ga K "_law_others")) = true) {fd__law_due : FuncData} (G__law_due : FnG P w K mg base CX0 2 (He.ga K "_law_due") fd__law_due ["_law_head_here"] (spP K mg 1 f__law_due)) (b__law_due : Binds K fd__law_due ["_law_head_here"] []) (k__law_due : PySem.W.keepIn K (.ref (He.ga K "_law_due")) = true) {fd_Head_DeqD : FuncData} (G_Head_DeqD : FnG P w K mg base CX0 1 (He.ma K (He.ga K "Head") "__eq__") fd_Head_DeqD ["self", "other"] (spP K mg 2 f_Head_DeqD)) (b_Head_DeqD : Binds K fd_Head_DeqD ["self", "other"] []) {fd__law_with : FuncData} (G__law_with : FnG P w K mg base CX0 7 (He.ga K "_law_with") fd__law_with ["_law_made", "_law_pace", "_law_shifts"] (spP K mg 3 f__law_with)) (b__law_with : Binds K fd__law_with ["_law_made", "_law_pace", "_law_shifts"] []) (k__law_with : PySem.W.keepIn K (.ref (He.ga K "_law_with")) = true) {fd_Head_DreprD : FuncData} (G_Head_DreprD : FnG P w K mg base CX0 1 (He.ma K (He.ga K "Head") "__repr__") fd_Head_DreprD ["self"] (spP K mg 1 f_Head_DreprD)) (b_Head_DreprD : Binds K fd_Head_DreprD ["self"] []) (C_5 : CallG P w K mg base CX0 6 (He.ma K (He.ga K "Head") "with_speed") ["speed"] (spW K mg cf_5)) :
    FnG P w K mg base CX0 8 (He.ga K "_law_right") fd ["_law_rng_here"] (spI K mg 0 f__law_right) :=
  fn_i (k := 7) (N := N__law_right) (m := m__law_right) F sc__law_right (by decide) fun cdv A outer s H E hr hgd => ⟨_, (pss_consd (ps_setd (i := 1) sc__law_right.nd rfl (by first | exact Or.inl rfl | exact Or.inr rfl) (pd_fnI (i := 0) G__law_names (hr.mono (by decide)) hgd (by rfl) T.g__law_names k__law_names b__law_names .nil (fun _ => RepL.nil) (pv 0) (pa_consd pd_int pa_nild)))
  (pss_consd (ps_pard (i := 4) (j := 5) rfl sc__law_right.nd rfl rfl (by decide) rfl rfl (pa_consd (pd_fnI (i := 0) G__law_head (hr.mono (by decide)) hgd (by rfl) T.g__law_head k__law_head b__law_head .nil (fun _ => RepL.nil) (pv 0) (pa_consd (pd_var 1) pa_nild)) (pa_consd (pd_fnI (i := 0) G__law_head (hr.mono (by decide)) hgd (by rfl) T.g__law_head k__law_head b__law_head .nil (fun _ => RepL.nil) (pv 0) (pa_consd (pd_op (r := rAddA K) o_add (pd_slice (pd_var 1) (pp_some pd_int) pp_none) (pd_slice (pd_var 1) pp_none (pp_some pd_int))) pa_nild)) pa_nild)) rfl)
  (pss_consd (ps_pard (i := 6) (j := 7) rfl sc__law_right.nd rfl rfl (by decide) rfl rfl (pa_consd (pd_fn G__law_real (hr.mono (by decide)) hgd (by rfl) T.g__law_real k__law_real b__law_real .nil (fun _ => RepL.nil) (pa_consd (pd_var 4) pa_nild)) (pa_consd (pd_fn G__law_real (hr.mono (by decide)) hgd (by rfl) T.g__law_real k__law_real b__law_real .nil (fun _ => RepL.nil) (pa_consd (pd_var 5) pa_nild)) pa_nild)) rfl)
  (pss_consd (ps_ifd (pt_w (pw_ord (pt_notd (pt_val (pd_fn G__law_is_head (hr.mono (by decide)) hgd (by rfl) T.g__law_is_head k__law_is_head b__law_is_head .nil (fun _ => RepL.nil) (pa_consd (pd_var 6) (pa_consd (pd_var 4) pa_nild))))) (pw_ord (pt_notd (pt_val (pd_fn G__law_is_head (hr.mono (by decide)) hgd (by rfl) T.g__law_is_head k__law_is_head b__law_is_head .nil (fun _ => RepL.nil) (pa_consd (pd_var 7) (pa_consd (pd_var 5) pa_nild))))) (pw_or1d (pt_notd (pt_val (pd_fn G__law_copies_right (hr.mono (by decide)) hgd (by rfl) T.g__law_copies_right k__law_copies_right b__law_copies_right .nil (fun _ => RepL.nil) (pa_consd (pd_var 4) pa_nild)))))))) (pss_oned (ps_retd pd_bl)) pss_nild)
  (pss_consd (ps_ifd (pt_w (pw_ord (pt_notd (pt_val (pd_fnI (i := 0) G__law_is_told (hr.mono (by decide)) hgd (by rfl) T.g__law_is_told k__law_is_told b__law_is_told .nil (fun _ => RepL.nil) (pv 0) (pa_consd (pd_var 6) (pa_consd (pd_var 4) pa_nild))))) (pw_ord (pt_notd (pt_val (pd_fnI (i := 0) G__law_is_told (hr.mono (by decide)) hgd (by rfl) T.g__law_is_told k__law_is_told b__law_is_told .nil (fun _ => RepL.nil) (pv 0) (pa_consd (pd_var 7) (pa_consd (pd_var 5) pa_nild))))) (pw_or1d (pt_notd (pt_val (pd_fn G__law_is_head (hr.mono (by decide)) hgd (by rfl) T.g__law_is_head k__law_is_head b__law_is_head .nil (fun _ => RepL.nil) (pa_consd (pd_var 6) (pa_consd (pd_var 4) pa_nild))))))))) (pss_oned (ps_retd pd_bl)) pss_nild)
  (pss_consd (ps_ford PassesOwn.never rfl (it_any (pd_op (r := rAddA K) o_add (pd_fnI (i := 0) G__law_others (hr.mono (by decide)) hgd (by rfl) T.g__law_others k__law_others b__law_others .nil (fun _ => RepL.nil) (pv 0) (pa_consd (pd_var 4) (pa_consd (pd_var 1) pa_nild))) (pd_lst (pa_consd (pd_var 5) pa_nild)))) (pg_named (i := 2) sc__law_right.nd rfl (by first | exact Or.inl rfl | exact Or.inr rfl)) (pss_consd (ps_setd (i := 8) sc__law_right.nd rfl (by first | exact Or.inl rfl | exact Or.inr rfl) (pd_cmp (r := rEqD K) (o_eq (roomU hr)) (pd_fn G__law_due (hr.mono (by decide)) hgd (by rfl) T.g__law_due k__law_due b__law_due .nil (fun _ => RepL.nil) (pa_consd (pd_var 2) pa_nild)) (pd_fn G__law_due (hr.mono (by decide)) hgd (by rfl) T.g__law_due k__law_due b__law_due .nil (fun _ => RepL.nil) (pa_consd (pd_var 4) pa_nild)) (nomark _)))
  (pss_oned (ps_ifd (pt_cmp (r := rNeD K) (o_ne (roomU hr)) (pd_lst (pa_consd (pd_cmp (r := rOwnG K (He.ga K "Head") (spP K mg 2 f_Head_DeqD) E0) (o_eqOwn T.g_Head T.s_Head_DeqD.1 T.s_Head_DeqD.2 G_Head_DeqD b_Head_DeqD (hr.mono (by decide)) hgd T.o_Head) (pd_var 6) (pd_fn G__law_real (hr.mono (by decide)) hgd (by rfl) T.g__law_real k__law_real b__law_real .nil (fun _ => RepL.nil) (pa_consd (pd_var 2) pa_nild)) (nomark _)) (pa_consd (pd_cmp (r := rOwnG K (He.ga K "Head") (spP K mg 2 f_Head_DeqD) E0) (o_eqOwn T.g_Head T.s_Head_DeqD.1 T.s_Head_DeqD.2 G_Head_DeqD b_Head_DeqD (hr.mono (by decide)) hgd T.o_Head) (pd_fn G__law_real (hr.mono (by decide)) hgd (by rfl) T.g__law_real k__law_real b__law_real .nil (fun _ => RepL.nil) (pa_consd (pd_var 2) pa_nild)) (pd_var 6) (nomark _)) (pa_consd (pd_cmp (r := rOwnN K (He.ga K "Head") (spP K mg 2 f_Head_DeqD) E0) (o_neOwn T.g_Head T.s_Head_DeqD.1 T.ne_Head T.i_Head.cm T.s_Head_DeqD.2 G_Head_DeqD b_Head_DeqD (hr.mono (by decide)) hgd T.o_Head) (pd_var 6) (pd_fn G__law_real (hr.mono (by decide)) hgd (by rfl) T.g__law_real k__law_real b__law_real .nil (fun _ => RepL.nil) (pa_consd (pd_var 2) pa_nild)) (nomark _)) pa_nild)))) (pd_lst (pa_consd (pd_var 8) (pa_consd (pd_var 8) (pa_consd (pd_not (pd_var 8)) pa_nild)))) (nomark _)) (pss_oned (ps_retd pd_bl)) pss_nild))))
  (pss_consd (ps_setd (i := 3) sc__law_right.nd rfl (by first | exact Or.inl rfl | exact Or.inr rfl) (pd_fn G__law_with (hr.mono (by decide)) hgd (by rfl) T.g__law_with k__law_with b__law_with .nil (fun _ => RepL.nil) (pa_consd (pd_var 6) (pa_consd (pd_ix (pd_var 5) pd_int fun _ _ => rfl) (pa_consd (pd_ix (pd_var 5) pd_int fun _ _ => rfl) pa_nild)))))
  (pss_consd (ps_ifd (pt_w (pw_ord (pt_notd (pt_val (pd_fn G__law_is_head (hr.mono (by decide)) hgd (by rfl) T.g__law_is_head k__law_is_head b__law_is_head .nil (fun _ => RepL.nil) (pa_consd (pd_var 3) (pa_consd (pd_op (r := rAddA K) o_add (pd_slice (pd_var 4) pp_none (pp_some pd_int)) (pd_slice (pd_var 5) (pp_some pd_int) pp_none)) pa_nild))))) (pw_or1d (pt_notd (pt_val (pd_fnI (i := 0) G__law_is_told (hr.mono (by decide)) hgd (by rfl) T.g__law_is_told k__law_is_told b__law_is_told .nil (fun _ => RepL.nil) (pv 0) (pa_consd (pd_var 3) (pa_consd (pd_op (r := rAddA K) o_add (pd_slice (pd_var 4) pp_none (pp_some pd_int)) (pd_slice (pd_var 5) (pp_some pd_int) pp_none)) pa_nild)))))))) (pss_oned (ps_retd pd_bl)) pss_nild)
  (pss_consd (ps_ifd (pt_w (pw_ord (pt_notd (pt_val (pd_fn G__law_is_head (hr.mono (by decide)) hgd (by rfl) T.g__law_is_head k__law_is_head b__law_is_head .nil (fun _ => RepL.nil) (pa_consd (pd_var 6) (pa_consd (pd_var 4) pa_nild))))) (pw_or1d (pt_notd (pt_val (pd_fnI (i := 0) G__law_is_told (hr.mono (by decide)) hgd (by rfl) T.g__law_is_told k__law_is_told b__law_is_told .nil (fun _ => RepL.nil) (pv 0) (pa_consd (pd_var 6) (pa_consd (pd_var 4) pa_nild)))))))) (pss_oned (ps_retd pd_bl)) pss_nild)
  (pss_consd (ps_ifd (pt_notd (pt_val (pd_fn G__law_is_head (hr.mono (by decide)) hgd (by rfl) T.g__law_is_head k__law_is_head b__law_is_head .nil (fun _ => RepL.nil) (pa_consd (pd_gM C_5 T.c_Head T.m_Head_with_speed (hr.mono (by decide)) hgd T.g_Head (pd_var 6) (ad_kw0 (ks := ["speed"]) (pk_consd (pd_ix (pd_var 5) pd_int fun _ _ => rfl) pk_nild))) (pa_consd (pd_op (r := rAddA K) o_add (pd_slice (pd_var 4) pp_none (pp_some pd_int)) (pd_tup (pa_consd (pd_ix (pd_var 5) pd_int fun _ _ => rfl) (pa_consd (pd_lst pa_nild) pa_nild)))) pa_nild))))) (pss_oned (ps_retd pd_bl)) pss_nild)
  (pss_oned (ps_retd (pd_and (pd_cmp (r := rOwnN K (He.ga K "Head") (spP K mg 2 f_Head_DeqD) E0) (o_neOwn T.g_Head T.s_Head_DeqD.1 T.ne_Head T.i_Head.cm T.s_Head_DeqD.2 G_Head_DeqD b_Head_DeqD (hr.mono (by decide)) hgd T.o_Head) (pd_var 6) (pd_callTy (rL := rTupleA K) c_tuple (by rfl) T.f_tuple bt_tuple (pa_consd (pd_fn G__law_due (hr.mono (by decide)) hgd (by rfl) T.g__law_due k__law_due b__law_due .nil (fun _ => RepL.nil) (pa_consd (pd_var 4) pa_nild)) pa_nild)) (nomark _)) (pd_and (pd_cmp (r := rOwnN K (He.ga K "Head") (spP K mg 2 f_Head_DeqD) E0) (o_neOwn T.g_Head T.s_Head_DeqD.1 T.ne_Head T.i_Head.cm T.s_Head_DeqD.2 G_Head_DeqD b_Head_DeqD (hr.mono (by decide)) hgd T.o_Head) (pd_var 6) (pd_callB (rL := rReprO (He.ga K "Head") (spP K mg 1 f_Head_DreprD)) (c_reprO T.s_Head_DreprD G_Head_DreprD (hr.mono (by decide)) hgd b_Head_DreprD T.g_Head) (by rfl) T.f_repr bt_repr (pa_consd (pd_var 6) pa_nild)) (nomark _)) (pd_one (pd_cmp (r := rOwnN K (He.ga K "Head") (spP K mg 2 f_Head_DeqD) E0) (o_neOwn T.g_Head T.s_Head_DeqD.1 T.ne_Head T.i_Head.cm T.s_Head_DeqD.2 G_Head_DeqD b_Head_DeqD (hr.mono (by decide)) hgd T.o_Head) (pd_var 6) (pd_ix (pd_var 4) pd_int fun _ _ => rfl) (nomark _)))))))))))))))))⟩
theorem ok__law_rng (T : Txt K mg) {fd : FuncData} (F : FunD K d__law_rng.name d__law_rng.qual d__law_rng.params d__law_rng.body d__law_rng.scope (d__law_rng.dvs K) (d__law_rng.kws K) (He.ga K "_law_rng") fd)  :
    FnG P w K mg base CX0 1 (He.ga K "_law_rng") fd ["_law_script", "_law_k"] (spO K mg 2 f__law_rng) :=
  fn_o (k := 0) (N := N__law_rng) (m := m__law_rng) (mL := ml__law_rng) F sc__law_rng rfl fun cdv A outer s H E hr hgd => ⟨_, _, (ps_setd (i := 2) sc__law_rng.nd rfl (by first | exact Or.inl rfl | exact Or.inr rfl) (pd_if (pt_cmp o_lt (pd_var 1) (pd_callB (rL := rLenA K) c_len (by rfl) T.f_len bt_len (pa_consd (pd_var 0) pa_nild)) (nomark _)) (pd_ix (pd_var 0) (pd_var 1) fun _ _ => rfl) (pd_op (r := rAddA K) o_add (pd_op o_mul pd_int (pd_var 1)) pd_int))),
  (pa_consd (pd_callB (rL := rMaxA K) (c_max rfl) (by rfl) T.f_max bt_max (pa_consd pd_int (pa_consd (pd_op o_sub (pd_callB c_abs (by rfl) T.f_abs bt_abs (pa_consd (pd_var 2) pa_nild)) (pd_op o_pow pd_int pd_int)) pa_nild))) (pa_consd (pd_op (r := rAddA K) o_add (pd_op o_mod (pd_callTy c_int (by rfl) T.f_int bt_int (pa_consd (pd_op (r := rAddA K) o_add (pd_op (r := rAddA K) o_add (pd_op o_mul (pd_op o_mod (pd_callTy c_int (by rfl) T.f_int bt_int (pa_consd (pd_callB c_abs (by rfl) T.f_abs bt_abs (pa_consd (pd_var 2) pa_nild)) pa_nild)) pd_int) pd_int) (pd_op o_mul pd_int (pd_var 1))) pd_int) pa_nild)) pd_int) pd_int) pa_nild))⟩
theorem ok_law (T : Txt K mg) {fd : FuncData} (F : FunD K d_law.name d_law.qual d_law.params d_law.body d_law.scope (d_law.dvs K) (d_law.kws K) (He.ga K "law") fd) {fd__law_right : FuncData} (G__law_right : FnG P w K mg base CX0 8 (He.ga K "_law_right") fd__law_right ["_law_rng_here"] (spI K mg 0 f__law_right)) (b__law_right : Binds K fd__law_right ["_law_rng_here"] []) (k__law_right : PySem.W.keepIn K (.ref (He.ga K "_law_right")) = true) {fd__law_rng : FuncData} (G__law_rng : FnG P w K mg base CX0 1 (He.ga K "_law_rng") fd__law_rng ["_law_script", "_law_k"] (spO K mg 2 f__law_rng)) (b__law_rng : Binds K fd__law_rng ["_law_script", "_law_k"] []) (k__law_rng : PySem.W.keepIn K (.ref (He.ga K "_law_rng")) = true) :
    FnG P w K mg base CX0 9 (He.ga K "law") fd ["_law_script"] (spP K mg 1 f_law) :=
  fn_p (k := 8) (N := N_law) (m := m_law) F sc_law fun cdv A outer s H E hr hgd => ⟨_, (pss_consd (ps_ifd (pt_cmp (r := rNeD K) (o_ne (roomU hr)) (pd_lst (pa_consd (pd_cconst (d := D.int 4) (by rfl) T.g_Head (T.v_Head_MOST_KINDS.choose_spec).1 (T.v_Head_MOST_KINDS.choose_spec).2 (fun _ => Rep.int)) (pa_consd (pd_cconst (d := D.int 3) (by rfl) T.g_Head (T.v_Head_MOST_CHANGES.choose_spec).1 (T.v_Head_MOST_CHANGES.choose_spec).2 (fun _ => Rep.int)) pa_nild))) (pd_lst (pa_consd pd_int (pa_consd pd_int pa_nild))) (nomark _)) (pss_oned (ps_retd pd_bl)) pss_nild)
  (pss_oned (ps_retd (pd_callB (rL := rAll K) (c_all rfl) (by rfl) T.f_all bt_all (pa_consd (pd_comp (own := [("_law_k", 1)]) (g := gName 1) (mgt := (mSet 1)) rfl sc_law.nd (it_range1 (by rfl) T.f_range (pa_consd (pd_callB (rL := rMaxA K) (c_max rfl) (by rfl) T.f_max bt_max (pa_consd pd_int (pa_consd (pd_callB (rL := rMinA K) (c_min rfl) (by rfl) T.f_min bt_min (pa_consd pd_int (pa_consd (pd_callB (rL := rLenA K) c_len (by rfl) T.f_len bt_len (pa_consd (pd_var 0) pa_nild)) pa_nild))) pa_nild))) pa_nild)) (by show blkC N_law (defScope s_law) _ _ = true; decide +kernel) (fun _ _ _ _ _ => (pgc_name (i := 1) (by decide) (pg_name (i := 1) sc_law.nd rfl (by first | exact Or.inl rfl | exact Or.inr rfl)))) (fun _ _ _ _ _ => pts_nild) (fun _ _ _ _ _ => (PEd.cast (t2 := tCall (spI K mg 0 f__law_right) [] E0 (tCons (tCall (spO K mg 2 f__law_rng) [] E0 _) tNil)) (pd_fnF G__law_right (hr.mono (by decide)) hgd (by rfl) T.g__law_right k__law_right b__law_right G__law_rng (hr.mono (by decide)) (by rfl) T.g__law_rng k__law_rng b__law_rng (pa_consd (pd_var 0) (pa_consd (pd_var 1) pa_nild))) rfl)) s) pa_nild)))))⟩
end
theorem facts {P : Program} {w : World} {K : PySem.W.Frag} {h : Heap} {mg : Str → Option Value} {f : Addr} (X : K.In h) (G : h.Ns mainGlobals mg) (hfa : mg "law" = some (.ref f)) (c : SaysM fa exA fnA K) :
    ∃ fd : FuncData, (∀ (s : Shared) (v : Value), BindsTo s fd ⟨[v], []⟩ [("_law_script", v)]) ∧ ∀ base : Heap, K.In base → base.Ns mainGlobals mg → FnG P w K mg base CX0 9 f fd ["_law_script"] (spP K mg 1 f_law) := by
  have g_Head : mg "Head" = some (.ref (He.ga K "Head")) := He.glo_ok X G (c.fact 0)
  have f_range : mg "range" = none := He.free_ok X G (c.fact 1)
  have f_len : mg "len" = none := He.free_ok X G (c.fact 2)
  have f_min : mg "min" = none := He.free_ok X G (c.fact 3)
  have f_max : mg "max" = none := He.free_ok X G (c.fact 4)
  have f_divmod : mg "divmod" = none := He.free_ok X G (c.fact 5)
  have f_int : mg "int" = none := He.free_ok X G (c.fact 6)
  have g__law_draw : mg "_law_draw" = some (.ref (He.ga K "_law_draw")) := He.glo_ok X G (c.fact 7)
  have g__law_choice : mg "_law_choice" = some (.ref (He.ga K "_law_choice")) := He.glo_ok X G (c.fact 8)
  have g__law_names : mg "_law_names" = some (.ref (He.ga K "_law_names")) := He.glo_ok X G (c.fact 9)
  have g__law_number : mg "_law_number" = some (.ref (He.ga K "_law_number")) := He.glo_ok X G (c.fact 10)
  have g__law_head : mg "_law_head" = some (.ref (He.ga K "_law_head")) := He.glo_ok X G (c.fact 11)
  have k_Head : Mk K (He.ga K "Head") (He.ma K (He.ga K "Head") "__init__") := He.mkr_ok (c.fact 12)
  have c_Head : Cls K (He.ga K "Head") := He.cls_ok (c.fact 13)
  have f_isinstance : mg "isinstance" = none := He.free_ok X G (c.fact 14)
  have f_str : mg "str" = none := He.free_ok X G (c.fact 15)
  have f_all : mg "all" = none := He.free_ok X G (c.fact 16)
  have g_is_name : mg "is_name" = some (.ref (He.ga K "is_name")) := He.glo_ok X G (c.fact 17)
  have g_check_name : mg "check_name" = some (.ref (He.ga K "check_name")) := He.glo_ok X G (c.fact 18)
  have f_bool : mg "bool" = none := He.free_ok X G (c.fact 19)
  have g_is_integer : mg "is_integer" = some (.ref (He.ga K "is_integer")) := He.glo_ok X G (c.fact 20)
  have g_is_positive : mg "is_positive" = some (.ref (He.ga K "is_positive")) := He.glo_ok X G (c.fact 21)
  have g_check_positive : mg "check_positive" = some (.ref (He.ga K "check_positive")) := He.glo_ok X G (c.fact 22)
  have f_tuple : mg "tuple" = none := He.free_ok X G (c.fact 23)
  have f_list : mg "list" = none := He.free_ok X G (c.fact 24)
  have g_is_list : mg "is_list" = some (.ref (He.ga K "is_list")) := He.glo_ok X G (c.fact 25)
  have f_enumerate : mg "enumerate" = none := He.free_ok X G (c.fact 26)
  have g_check_kinds : mg "check_kinds" = some (.ref (He.ga K "check_kinds")) := He.glo_ok X G (c.fact 27)
  have g_is_count : mg "is_count" = some (.ref (He.ga K "is_count")) := He.glo_ok X G (c.fact 28)
  have g_check_count : mg "check_count" = some (.ref (He.ga K "check_count")) := He.glo_ok X G (c.fact 29)
  have g_is_pair : mg "is_pair" = some (.ref (He.ga K "is_pair")) := He.glo_ok X G (c.fact 30)
  have g_check_changes : mg "check_changes" = some (.ref (He.ga K "check_changes")) := He.glo_ok X G (c.fact 31)
  have n_Head__name : NoAttr K (He.ga K "Head") "_name" := He.noat_ok (c.fact 32)
  have n_Head__left : NoAttr K (He.ga K "Head") "_left" := He.noat_ok (c.fact 33)
  have n_Head__right : NoAttr K (He.ga K "Head") "_right" := He.noat_ok (c.fact 34)
  have f_sorted : mg "sorted" = none := He.free_ok X G (c.fact 35)
  have n_Head__kinds : NoAttr K (He.ga K "Head") "_kinds" := He.noat_ok (c.fact 36)
  have n_Head__speed : NoAttr K (He.ga K "Head") "_speed" := He.noat_ok (c.fact 37)
  have g_changes_left : mg "changes_left" = some (.ref (He.ga K "changes_left")) := He.glo_ok X G (c.fact 38)
  have n_Head__changes : NoAttr K (He.ga K "Head") "_changes" := He.noat_ok (c.fact 39)
  have g__law_real : mg "_law_real" = some (.ref (He.ga K "_law_real")) := He.glo_ok X G (c.fact 40)
  have g__law_left : mg "_law_left" = some (.ref (He.ga K "_law_left")) := He.glo_ok X G (c.fact 41)
  have g__law_due : mg "_law_due" = some (.ref (He.ga K "_law_due")) := He.glo_ok X G (c.fact 42)
  have g__law_parts : mg "_law_parts" = some (.ref (He.ga K "_law_parts")) := He.glo_ok X G (c.fact 43)
  have f_repr : mg "repr" = none := He.free_ok X G (c.fact 44)
  have g__law_is_head : mg "_law_is_head" = some (.ref (He.ga K "_law_is_head")) := He.glo_ok X G (c.fact 45)
  have g__law_copies_right : mg "_law_copies_right" = some (.ref (He.ga K "_law_copies_right")) := He.glo_ok X G (c.fact 46)
  have g__law_steps : mg "_law_steps" = some (.ref (He.ga K "_law_steps")) := He.glo_ok X G (c.fact 47)
  have m_Head_speed_at : Meth K (He.ga K "Head") "speed_at" (He.ma K (He.ga K "Head") "speed_at") := He.meth_ok (c.fact 48)
  have g_check_integer : mg "check_integer" = some (.ref (He.ga K "check_integer")) := He.glo_ok X G (c.fact 49)
  have g__law_speed : mg "_law_speed" = some (.ref (He.ga K "_law_speed")) := He.glo_ok X G (c.fact 50)
  have m_Head_does : Meth K (He.ga K "Head") "does" (He.ma K (He.ga K "Head") "does") := He.meth_ok (c.fact 51)
  have g__law_is_told : mg "_law_is_told" = some (.ref (He.ga K "_law_is_told")) := He.glo_ok X G (c.fact 52)
  have g__law_others : mg "_law_others" = some (.ref (He.ga K "_law_others")) := He.glo_ok X G (c.fact 53)
  have m_Head_with_speed : Meth K (He.ga K "Head") "with_speed" (He.ma K (He.ga K "Head") "with_speed") := He.meth_ok (c.fact 54)
  have g__law_with : mg "_law_with" = some (.ref (He.ga K "_law_with")) := He.glo_ok X G (c.fact 55)
  have g__law_right : mg "_law_right" = some (.ref (He.ga K "_law_right")) := He.glo_ok X G (c.fact 56)
  have f_abs : mg "abs" = none := He.free_ok X G (c.fact 57)
  have g__law_rng : mg "_law_rng" = some (.ref (He.ga K "_law_rng")) := He.glo_ok X G (c.fact 58)
  have v_Head_MOST_CHANGES : ∃ u, ClX.CRead K (He.ga K "Head") (.type "type") ∧ ClX.CVal K (He.ga K "Head") (.type "type") "MOST_CHANGES" (.int 3) u := cintB_ok (c.more 0)
  have v_Head_MOST_KINDS : ∃ u, ClX.CRead K (He.ga K "Head") (.type "type") ∧ ClX.CVal K (He.ga K "Head") (.type "type") "MOST_KINDS" (.int 4) u := cintB_ok (c.more 1)
  have i_Head : IsiC K (He.ga K "Head") := isiB_ok c_Head (c.more 2)
  have p_Head_changes : PropOf K (He.ga K "Head") "changes" (He.ma K (He.ga K "Head") "changes") (pgA "Head" "changes" K) := propB_ok (c.more 8)
  have p_Head_speed : PropOf K (He.ga K "Head") "speed" (He.ma K (He.ga K "Head") "speed") (pgA "Head" "speed" K) := propB_ok (c.more 9)
  have p_Head_kinds : PropOf K (He.ga K "Head") "kinds" (He.ma K (He.ga K "Head") "kinds") (pgA "Head" "kinds" K) := propB_ok (c.more 10)
  have p_Head_right : PropOf K (He.ga K "Head") "right" (He.ma K (He.ga K "Head") "right") (pgA "Head" "right" K) := propB_ok (c.more 11)
  have p_Head_left : PropOf K (He.ga K "Head") "left" (He.ma K (He.ga K "Head") "left") (pgA "Head" "left" K) := propB_ok (c.more 12)
  have p_Head_name : PropOf K (He.ga K "Head") "name" (He.ma K (He.ga K "Head") "name") (pgA "Head" "name" K) := propB_ok (c.more 13)
  have sys : SysOk K := sysB_ok (c.more 14)
  have s_Head_DreprD : PySem.W.findIn K (.ref (He.ga K "Head")) "__repr__" = some (some (.ref (He.ma K (He.ga K "Head") "__repr__"))) ∧ PySem.W.isFn K (.ref (He.ma K (He.ga K "Head") "__repr__")) = true := specB_ok (c.more 15)
  have s_Head_DeqD : PySem.W.findIn K (.ref (He.ga K "Head")) "__eq__" = some (some (.ref (He.ma K (He.ga K "Head") "__eq__"))) ∧ PySem.W.isFn K (.ref (He.ma K (He.ga K "Head") "__eq__")) = true := specB_ok (c.more 16)
  have ne_Head : PySem.W.findIn K (.ref (He.ga K "Head")) "__ne__" = some (some (.builtin "object.__ne__")) := neB_ok (c.more 19)
  have dt_Head_DinitD_0 : ∀ F : Hp, Rep K mg F (.tup []) (.ref (He.dflAt ("Head", some "__init__") 0 K)) := dtupB_ok (c.more 20)
  have t_tab_str : TabOk K mg ((fun _ => Value.type "str") K) tab_str := tabB_ok (c.more 3) (known_tab (show KnownL K mg (tab_str.map (·.1)) from ⟨trivial, trivial, trivial, trivial, trivial, trivial, trivial, ⟨g_Head, i_Head⟩, trivial⟩))
  have t_tab_int : TabOk K mg ((fun _ => Value.type "int") K) tab_int := tabB_ok (c.more 4) (known_tab (show KnownL K mg (tab_int.map (·.1)) from ⟨trivial, trivial, trivial, trivial, trivial, trivial, trivial, ⟨g_Head, i_Head⟩, trivial⟩))
  have t_tab_bool : TabOk K mg ((fun _ => Value.type "bool") K) tab_bool := tabB_ok (c.more 5) (known_tab (show KnownL K mg (tab_bool.map (·.1)) from ⟨trivial, trivial, trivial, trivial, trivial, trivial, trivial, ⟨g_Head, i_Head⟩, trivial⟩))
  have t_tab_list_tuple : TabTOk K mg ((fun _ => [Value.type "list", Value.type "tuple"]) K) tab_list_tuple := tabTB_ok (c.more 6) (known_tab (show KnownL K mg (tab_list_tuple.map (·.1)) from ⟨trivial, trivial, trivial, trivial, trivial, trivial, trivial, ⟨g_Head, i_Head⟩, trivial⟩))
  have t_tab_tuple : TabOk K mg ((fun _ => Value.type "tuple") K) tab_tuple := tabB_ok (c.more 7) (known_tab (show KnownL K mg (tab_tuple.map (·.1)) from ⟨trivial, trivial, trivial, trivial, trivial, trivial, trivial, ⟨g_Head, i_Head⟩, trivial⟩))
  have o_Head : FirstOk K mg (He.ga K "Head") allT := firstB_ok (c.more 17) (known_of (show KnownL K mg allT from ⟨trivial, trivial, trivial, trivial, trivial, trivial, trivial, ⟨g_Head, i_Head⟩, trivial⟩))
  have t_tab_Head : TabOk K mg ((fun K => Value.ref (He.ga K "Head")) K) tab_Head := tabB_ok (c.more 18) (known_tab (show KnownL K mg (tab_Head.map (·.1)) from ⟨trivial, trivial, trivial, trivial, trivial, trivial, trivial, ⟨g_Head, i_Head⟩, trivial⟩))
  have T : Txt K mg := ⟨v_Head_MOST_CHANGES, g_Head, v_Head_MOST_KINDS, f_range, f_len, f_min, f_max, f_divmod, f_int, g__law_draw, g__law_choice, g__law_names, g__law_number, g__law_head, k_Head, c_Head, i_Head, t_tab_str, f_isinstance, f_str, f_all, g_is_name, g_check_name, t_tab_int, t_tab_bool, f_bool, g_is_integer, g_is_positive, g_check_positive, t_tab_list_tuple, f_tuple, f_list, g_is_list, f_enumerate, g_check_kinds, g_is_count, g_check_count, t_tab_tuple, g_is_pair, g_check_changes, n_Head__name, n_Head__left, n_Head__right, f_sorted, n_Head__kinds, n_Head__speed, g_changes_left, n_Head__changes, g__law_real, g__law_left, g__law_due, p_Head_changes, p_Head_speed, p_Head_kinds, p_Head_right, p_Head_left, p_Head_name, g__law_parts, f_repr, sys, s_Head_DreprD, g__law_is_head, s_Head_DeqD, o_Head, t_tab_Head, g__law_copies_right, g__law_steps, m_Head_speed_at, g_check_integer, g__law_speed, m_Head_does, g__law_is_told, g__law_others, ne_Head, m_Head_with_speed, g__law_with, g__law_right, f_abs, g__law_rng, dt_Head_DinitD_0⟩
  obtain ⟨fd__law_draw, F__law_draw⟩ := c.def_ 0 (d := d__law_draw) rfl
  have b__law_draw : Binds K fd__law_draw ["_law_rng_here", "_law_many"] [] := FunD.bindsN (ps := ["_law_rng_here", "_law_many"]) F__law_draw fun _ _ _ _ _ _ us hl => match us, hl with | [_, _], _ => rfl
  obtain ⟨fd__law_choice, F__law_choice⟩ := c.def_ 1 (d := d__law_choice) rfl
  have b__law_choice : Binds K fd__law_choice ["_law_rng_here", "_law_some"] [] := FunD.bindsN (ps := ["_law_rng_here", "_law_some"]) F__law_choice fun _ _ _ _ _ _ us hl => match us, hl with | [_, _], _ => rfl
  obtain ⟨fd__law_names, F__law_names⟩ := c.def_ 2 (d := d__law_names) rfl
  have b__law_names : Binds K fd__law_names ["_law_rng_here", "_law_many"] [] := FunD.bindsN (ps := ["_law_rng_here", "_law_many"]) F__law_names fun _ _ _ _ _ _ us hl => match us, hl with | [_, _], _ => rfl
  obtain ⟨fd__law_number, F__law_number⟩ := c.def_ 3 (d := d__law_number) rfl
  have b__law_number : Binds K fd__law_number ["_law_rng_here"] [] := FunD.bindsN (ps := ["_law_rng_here"]) F__law_number fun _ _ _ _ _ _ us hl => match us, hl with | [_], _ => rfl
  obtain ⟨fd__law_head, F__law_head⟩ := c.def_ 4 (d := d__law_head) rfl
  have b__law_head : Binds K fd__law_head ["_law_rng_here", "_law_names_here"] [] := FunD.bindsN (ps := ["_law_rng_here", "_law_names_here"]) F__law_head fun _ _ _ _ _ _ us hl => match us, hl with | [_, _], _ => rfl
  obtain ⟨fd_is_name, F_is_name⟩ := c.def_ 5 (d := d_is_name) rfl
  have b_is_name : Binds K fd_is_name ["value"] [] := FunD.bindsN (ps := ["value"]) F_is_name fun _ _ _ _ _ _ us hl => match us, hl with | [_], _ => rfl
  obtain ⟨fd_check_name, F_check_name⟩ := c.def_ 6 (d := d_check_name) rfl
  have b_check_name : Binds K fd_check_name ["value"] [] := FunD.bindsN (ps := ["value"]) F_check_name fun _ _ _ _ _ _ us hl => match us, hl with | [_], _ => rfl
  obtain ⟨fd_is_integer, F_is_integer⟩ := c.def_ 7 (d := d_is_integer) rfl
  have b_is_integer : Binds K fd_is_integer ["value"] [] := FunD.bindsN (ps := ["value"]) F_is_integer fun _ _ _ _ _ _ us hl => match us, hl with | [_], _ => rfl
  obtain ⟨fd_is_positive, F_is_positive⟩ := c.def_ 8 (d := d_is_positive) rfl
  have b_is_positive : Binds K fd_is_positive ["value"] [] := FunD.bindsN (ps := ["value"]) F_is_positive fun _ _ _ _ _ _ us hl => match us, hl with | [_], _ => rfl
  obtain ⟨fd_check_positive, F_check_positive⟩ := c.def_ 9 (d := d_check_positive) rfl
  have b_check_positive : Binds K fd_check_positive ["value"] [] := FunD.bindsN (ps := ["value"]) F_check_positive fun _ _ _ _ _ _ us hl => match us, hl with | [_], _ => rfl
  obtain ⟨fd_is_list, F_is_list⟩ := c.def_ 10 (d := d_is_list) rfl
  have b_is_list : Binds K fd_is_list ["value"] [] := FunD.bindsN (ps := ["value"]) F_is_list fun _ _ _ _ _ _ us hl => match us, hl with | [_], _ => rfl
  obtain ⟨fd_check_kinds, F_check_kinds⟩ := c.def_ 11 (d := d_check_kinds) rfl
  have b_check_kinds : Binds K fd_check_kinds ["kinds", "most"] [] := FunD.bindsN (ps := ["kinds", "most"]) F_check_kinds fun _ _ _ _ _ _ us hl => match us, hl with | [_, _], _ => rfl
  obtain ⟨fd_is_count, F_is_count⟩ := c.def_ 12 (d := d_is_count) rfl
  have b_is_count : Binds K fd_is_count ["value"] [] := FunD.bindsN (ps := ["value"]) F_is_count fun _ _ _ _ _ _ us hl => match us, hl with | [_], _ => rfl
  obtain ⟨fd_check_count, F_check_count⟩ := c.def_ 13 (d := d_check_count) rfl
  have b_check_count : Binds K fd_check_count ["value"] [] := FunD.bindsN (ps := ["value"]) F_check_count fun _ _ _ _ _ _ us hl => match us, hl with | [_], _ => rfl
  obtain ⟨fd_is_pair, F_is_pair⟩ := c.def_ 14 (d := d_is_pair) rfl
  have b_is_pair : Binds K fd_is_pair ["value"] [] := FunD.bindsN (ps := ["value"]) F_is_pair fun _ _ _ _ _ _ us hl => match us, hl with | [_], _ => rfl
  obtain ⟨fd_check_changes, F_check_changes⟩ := c.def_ 15 (d := d_check_changes) rfl
  have b_check_changes : Binds K fd_check_changes ["changes", "most"] [] := FunD.bindsN (ps := ["changes", "most"]) F_check_changes fun _ _ _ _ _ _ us hl => match us, hl with | [_, _], _ => rfl
  obtain ⟨fd_changes_left, F_changes_left⟩ := c.def_ 16 (d := d_changes_left) rfl
  have b_changes_left : Binds K fd_changes_left ["speed", "changes"] [] := FunD.bindsN (ps := ["speed", "changes"]) F_changes_left fun _ _ _ _ _ _ us hl => match us, hl with | [_, _], _ => rfl
  obtain ⟨fd_Head_DinitD, F_Head_DinitD⟩ := c.def_ 17 (d := d_Head_DinitD) rfl
  have b_Head_DinitD : Binds K fd_Head_DinitD ["self", "name", "left", "right", "kinds", "speed", "changes"] [] := by
    obtain ⟨ds, hv, hb⟩ := FunD.binds1 (ps := ["self", "name", "left", "right", "kinds", "speed", "changes"]) F_Head_DinitD 7 1 (fun z => nomatch z) rfl fun T kV doc pm an cdv ct us its l1 l2 => match us, its, l1, l2 with | [_, _, _, _, _, _, _], [_], _, _ => ⟨_, rfl, rfl⟩
    have hv2 : Vals [] ds := hv
    cases hv2
    exact hb
  obtain ⟨fd__law_real, F__law_real⟩ := c.def_ 18 (d := d__law_real) rfl
  have b__law_real : Binds K fd__law_real ["_law_head_here"] [] := FunD.bindsN (ps := ["_law_head_here"]) F__law_real fun _ _ _ _ _ _ us hl => match us, hl with | [_], _ => rfl
  obtain ⟨fd__law_left, F__law_left⟩ := c.def_ 19 (d := d__law_left) rfl
  have b__law_left : Binds K fd__law_left ["_law_pace", "_law_shifts"] [] := FunD.bindsN (ps := ["_law_pace", "_law_shifts"]) F__law_left fun _ _ _ _ _ _ us hl => match us, hl with | [_, _], _ => rfl
  obtain ⟨fd__law_due, F__law_due⟩ := c.def_ 20 (d := d__law_due) rfl
  have b__law_due : Binds K fd__law_due ["_law_head_here"] [] := FunD.bindsN (ps := ["_law_head_here"]) F__law_due fun _ _ _ _ _ _ us hl => match us, hl with | [_], _ => rfl
  obtain ⟨fd_Head_changes, F_Head_changes⟩ := c.def_ 21 (d := d_Head_changes) rfl
  have b_Head_changes : Binds K fd_Head_changes ["self"] [] := FunD.bindsN (ps := ["self"]) F_Head_changes fun _ _ _ _ _ _ us hl => match us, hl with | [_], _ => rfl
  obtain ⟨fd_Head_speed, F_Head_speed⟩ := c.def_ 22 (d := d_Head_speed) rfl
  have b_Head_speed : Binds K fd_Head_speed ["self"] [] := FunD.bindsN (ps := ["self"]) F_Head_speed fun _ _ _ _ _ _ us hl => match us, hl with | [_], _ => rfl
  obtain ⟨fd_Head_kinds, F_Head_kinds⟩ := c.def_ 23 (d := d_Head_kinds) rfl
  have b_Head_kinds : Binds K fd_Head_kinds ["self"] [] := FunD.bindsN (ps := ["self"]) F_Head_kinds fun _ _ _ _ _ _ us hl => match us, hl with | [_], _ => rfl
  obtain ⟨fd_Head_right, F_Head_right⟩ := c.def_ 24 (d := d_Head_right) rfl
  have b_Head_right : Binds K fd_Head_right ["self"] [] := FunD.bindsN (ps := ["self"]) F_Head_right fun _ _ _ _ _ _ us hl => match us, hl with | [_], _ => rfl
  obtain ⟨fd_Head_left, F_Head_left⟩ := c.def_ 25 (d := d_Head_left) rfl
  have b_Head_left : Binds K fd_Head_left ["self"] [] := FunD.bindsN (ps := ["self"]) F_Head_left fun _ _ _ _ _ _ us hl => match us, hl with | [_], _ => rfl
  obtain ⟨fd_Head_name, F_Head_name⟩ := c.def_ 26 (d := d_Head_name) rfl
  have b_Head_name : Binds K fd_Head_name ["self"] [] := FunD.bindsN (ps := ["self"]) F_Head_name fun _ _ _ _ _ _ us hl => match us, hl with | [_], _ => rfl
  obtain ⟨fd__law_parts, F__law_parts⟩ := c.def_ 27 (d := d__law_parts) rfl
  have b__law_parts : Binds K fd__law_parts ["_law_made"] [] := FunD.bindsN (ps := ["_law_made"]) F__law_parts fun _ _ _ _ _ _ us hl => match us, hl with | [_], _ => rfl
  obtain ⟨fd_Head_DreprD, F_Head_DreprD⟩ := c.def_ 28 (d := d_Head_DreprD) rfl
  have b_Head_DreprD : Binds K fd_Head_DreprD ["self"] [] := FunD.bindsN (ps := ["self"]) F_Head_DreprD fun _ _ _ _ _ _ us hl => match us, hl with | [_], _ => rfl
  obtain ⟨fd__law_is_head, F__law_is_head⟩ := c.def_ 29 (d := d__law_is_head) rfl
  have b__law_is_head : Binds K fd__law_is_head ["_law_made", "_law_head_here"] [] := FunD.bindsN (ps := ["_law_made", "_law_head_here"]) F__law_is_head fun _ _ _ _ _ _ us hl => match us, hl with | [_, _], _ => rfl
  obtain ⟨fd_Head_DeqD, F_Head_DeqD⟩ := c.def_ 30 (d := d_Head_DeqD) rfl
  have b_Head_DeqD : Binds K fd_Head_DeqD ["self", "other"] [] := FunD.bindsN (ps := ["self", "other"]) F_Head_DeqD fun _ _ _ _ _ _ us hl => match us, hl with | [_, _], _ => rfl
  obtain ⟨fd__law_copies_right, F__law_copies_right⟩ := c.def_ 31 (d := d__law_copies_right) rfl
  have b__law_copies_right : Binds K fd__law_copies_right ["_law_head_here"] [] := FunD.bindsN (ps := ["_law_head_here"]) F__law_copies_right fun _ _ _ _ _ _ us hl => match us, hl with | [_], _ => rfl
  obtain ⟨fd__law_steps, F__law_steps⟩ := c.def_ 32 (d := d__law_steps) rfl
  have b__law_steps : Binds K fd__law_steps ["_law_rng_here", "_law_head_here"] [] := FunD.bindsN (ps := ["_law_rng_here", "_law_head_here"]) F__law_steps fun _ _ _ _ _ _ us hl => match us, hl with | [_, _], _ => rfl
  obtain ⟨fd_check_integer, F_check_integer⟩ := c.def_ 33 (d := d_check_integer) rfl
  have b_check_integer : Binds K fd_check_integer ["value"] [] := FunD.bindsN (ps := ["value"]) F_check_integer fun _ _ _ _ _ _ us hl => match us, hl with | [_], _ => rfl
  obtain ⟨fd_Head_speed_at, F_Head_speed_at⟩ := c.def_ 34 (d := d_Head_speed_at) rfl
  have b_Head_speed_at : Binds K fd_Head_speed_at ["self", "step"] [] := FunD.bindsN (ps := ["self", "step"]) F_Head_speed_at fun _ _ _ _ _ _ us hl => match us, hl with | [_, _], _ => rfl
  obtain ⟨fd__law_speed, F__law_speed⟩ := c.def_ 35 (d := d__law_speed) rfl
  have b__law_speed : Binds K fd__law_speed ["_law_head_here", "_law_moment"] [] := FunD.bindsN (ps := ["_law_head_here", "_law_moment"]) F__law_speed fun _ _ _ _ _ _ us hl => match us, hl with | [_, _], _ => rfl
  obtain ⟨fd_Head_does, F_Head_does⟩ := c.def_ 36 (d := d_Head_does) rfl
  have b_Head_does : Binds K fd_Head_does ["self", "kind"] [] := FunD.bindsN (ps := ["self", "kind"]) F_Head_does fun _ _ _ _ _ _ us hl => match us, hl with | [_, _], _ => rfl
  obtain ⟨fd__law_is_told, F__law_is_told⟩ := c.def_ 37 (d := d__law_is_told) rfl
  have b__law_is_told : Binds K fd__law_is_told ["_law_rng_here", "_law_made", "_law_head_here"] [] := FunD.bindsN (ps := ["_law_rng_here", "_law_made", "_law_head_here"]) F__law_is_told fun _ _ _ _ _ _ us hl => match us, hl with | [_, _, _], _ => rfl
  obtain ⟨fd__law_others, F__law_others⟩ := c.def_ 38 (d := d__law_others) rfl
  have b__law_others : Binds K fd__law_others ["_law_rng_here", "_law_head_here", "_law_names_here"] [] := FunD.bindsN (ps := ["_law_rng_here", "_law_head_here", "_law_names_here"]) F__law_others fun _ _ _ _ _ _ us hl => match us, hl with | [_, _, _], _ => rfl
  obtain ⟨fd_Head_with_speed, F_Head_with_speed⟩ := c.def_ 39 (d := d_Head_with_speed) rfl
  obtain ⟨fd__law_with, F__law_with⟩ := c.def_ 40 (d := d__law_with) rfl
  have b__law_with : Binds K fd__law_with ["_law_made", "_law_pace", "_law_shifts"] [] := FunD.bindsN (ps := ["_law_made", "_law_pace", "_law_shifts"]) F__law_with fun _ _ _ _ _ _ us hl => match us, hl with | [_, _, _], _ => rfl
  obtain ⟨fd__law_right, F__law_right⟩ := c.def_ 41 (d := d__law_right) rfl
  have b__law_right : Binds K fd__law_right ["_law_rng_here"] [] := FunD.bindsN (ps := ["_law_rng_here"]) F__law_right fun _ _ _ _ _ _ us hl => match us, hl with | [_], _ => rfl
  obtain ⟨fd__law_rng, F__law_rng⟩ := c.def_ 42 (d := d__law_rng) rfl
  have b__law_rng : Binds K fd__law_rng ["_law_script", "_law_k"] [] := FunD.bindsN (ps := ["_law_script", "_law_k"]) F__law_rng fun _ _ _ _ _ _ us hl => match us, hl with | [_, _], _ => rfl
  obtain ⟨fd_law, F_law⟩ := c.def_ 43 (d := d_law) rfl
  have e := hfa.symm.trans (He.glo_ok X G (c.fact 59 (f := .glo "law") rfl))
  cases e
  refine ⟨fd_law, fun s v => FunD.bindsA (ps := ["_law_script"]) F_law (fun _ _ _ _ _ _ us hl => match us, hl with | [_], _ => rfl) s [v] rfl, fun base _ _ => ?_⟩
  have G__law_draw := ok__law_draw (P := P) (w := w) (base := base) T F__law_draw 
  have G__law_choice := ok__law_choice (P := P) (w := w) (base := base) T F__law_choice G__law_draw b__law_draw F__law_draw.kp
  have G__law_names := ok__law_names (P := P) (w := w) (base := base) T F__law_names G__law_choice b__law_choice F__law_choice.kp G__law_draw b__law_draw F__law_draw.kp
  have G__law_number := ok__law_number (P := P) (w := w) (base := base) T F__law_number G__law_draw b__law_draw F__law_draw.kp G__law_choice b__law_choice F__law_choice.kp
  have G__law_head := ok__law_head (P := P) (w := w) (base := base) T F__law_head G__law_choice b__law_choice F__law_choice.kp G__law_draw b__law_draw F__law_draw.kp G__law_number b__law_number F__law_number.kp
  have G_is_name := ok_is_name (P := P) (w := w) (base := base) T F_is_name 
  have G_check_name := ok_check_name (P := P) (w := w) (base := base) T F_check_name G_is_name b_is_name F_is_name.kp
  have G_is_integer := ok_is_integer (P := P) (w := w) (base := base) T F_is_integer 
  have G_is_positive := ok_is_positive (P := P) (w := w) (base := base) T F_is_positive G_is_integer b_is_integer F_is_integer.kp
  have G_check_positive := ok_check_positive (P := P) (w := w) (base := base) T F_check_positive G_is_positive b_is_positive F_is_positive.kp
  have G_is_list := ok_is_list (P := P) (w := w) (base := base) T F_is_list 
  have G_check_kinds := ok_check_kinds (P := P) (w := w) (base := base) T F_check_kinds G_is_list b_is_list F_is_list.kp G_is_name b_is_name F_is_name.kp
  have G_is_count := ok_is_count (P := P) (w := w) (base := base) T F_is_count G_is_integer b_is_integer F_is_integer.kp
  have G_check_count := ok_check_count (P := P) (w := w) (base := base) T F_check_count G_is_count b_is_count F_is_count.kp
  have G_is_pair := ok_is_pair (P := P) (w := w) (base := base) T F_is_pair G_is_integer b_is_integer F_is_integer.kp
  have G_check_changes := ok_check_changes (P := P) (w := w) (base := base) T F_check_changes G_is_list b_is_list F_is_list.kp G_is_pair b_is_pair F_is_pair.kp
  have G_changes_left := ok_changes_left (P := P) (w := w) (base := base) T F_changes_left 
  have G_Head_DinitD := ok_Head_DinitD (P := P) (w := w) (base := base) T F_Head_DinitD G_check_name b_check_name F_check_name.kp G_check_positive b_check_positive F_check_positive.kp G_check_kinds b_check_kinds F_check_kinds.kp G_check_count b_check_count F_check_count.kp G_check_changes b_check_changes F_check_changes.kp G_changes_left b_changes_left F_changes_left.kp
  have Q_0 : BindA K fd_Head_DinitD ["self", "name", "left", "right", "kinds", "speed", "changes"] 1 ["kinds", "changes", "speed", "right", "left", "name"] [(0, 0), (3, 5), (3, 4), (3, 3), (3, 0), (3, 2), (3, 1)] (d_Head_DinitD.dvs K) [] := bindA_d F_Head_DinitD 1 ["kinds", "changes", "speed", "right", "left", "name"] [(0, 0), (3, 5), (3, 4), (3, 3), (3, 0), (3, 2), (3, 1)] (fun z => nomatch z) fun T kV doc pm an cdv ct us its ws l1 l2 l3 => match us, its, ws, l1, l2, l3 with | [_], [_], [_, _, _, _, _, _], _, _, _ => ⟨_, rfl, rfl⟩
  have C_0 : CallG P w K mg base CX0 4 (He.ma K (He.ga K "Head") "__init__") ["kinds", "changes", "speed", "right", "left", "name"] (spIw K mg ci_0) := CallG.ofArrI (ix2 := [(3, 5), (3, 4), (3, 3), (3, 0), (3, 2), (3, 1)]) G_Head_DinitD Q_0 (fun F => (RepL.cons (dt_Head_DinitD_0 F) RepL.nil)) (fun F => RepL.nil) (fun ds es l1 l2 => match ds, es, l1, l2 with | [], [_, _, _, _, _, _], _, _ => rfl) (fun y vs zs l1 l2 => match vs, zs, l1, l2 with | [], [_, _, _, _, _, _], _, _ => rfl)
  have Q_1 : BindA K fd_Head_DinitD ["self", "name", "left", "right", "kinds", "speed", "changes"] 6 [] [(0, 0), (0, 1), (0, 2), (0, 3), (0, 4), (0, 5), (1, 0)] (d_Head_DinitD.dvs K) [] := bindA_d F_Head_DinitD 6 [] [(0, 0), (0, 1), (0, 2), (0, 3), (0, 4), (0, 5), (1, 0)] (fun z => nomatch z) fun T kV doc pm an cdv ct us its ws l1 l2 l3 => match us, its, ws, l1, l2, l3 with | [_, _, _, _, _, _], [_], [], _, _, _ => ⟨_, rfl, rfl⟩
  have C_1 : CallG P w K mg base CX0 4 (He.ma K (He.ga K "Head") "__init__") [] (spIw K mg ci_1) := CallG.ofArrI (ix2 := [(0, 0), (0, 1), (0, 2), (0, 3), (0, 4), (1, 0)]) G_Head_DinitD Q_1 (fun F => (RepL.cons (dt_Head_DinitD_0 F) RepL.nil)) (fun F => RepL.nil) (fun ds es l1 l2 => match ds, es, l1, l2 with | [_, _, _, _, _], [], _, _ => rfl) (fun y vs zs l1 l2 => match vs, zs, l1, l2 with | [_, _, _, _, _], [], _, _ => rfl)
  have G__law_real := ok__law_real (P := P) (w := w) (base := base) T F__law_real G_Head_DinitD b_Head_DinitD
  have G__law_left := ok__law_left (P := P) (w := w) (base := base) T F__law_left 
  have G__law_due := ok__law_due (P := P) (w := w) (base := base) T F__law_due G__law_left b__law_left F__law_left.kp
  have G_Head_changes := ok_Head_changes (P := P) (w := w) (base := base) T F_Head_changes 
  have G_Head_speed := ok_Head_speed (P := P) (w := w) (base := base) T F_Head_speed 
  have G_Head_kinds := ok_Head_kinds (P := P) (w := w) (base := base) T F_Head_kinds 
  have G_Head_right := ok_Head_right (P := P) (w := w) (base := base) T F_Head_right 
  have G_Head_left := ok_Head_left (P := P) (w := w) (base := base) T F_Head_left 
  have G_Head_name := ok_Head_name (P := P) (w := w) (base := base) T F_Head_name 
  have G__law_parts := ok__law_parts (P := P) (w := w) (base := base) T F__law_parts G_Head_changes b_Head_changes G_Head_speed b_Head_speed G_Head_kinds b_Head_kinds G_Head_right b_Head_right G_Head_left b_Head_left G_Head_name b_Head_name
  have G_Head_DreprD := ok_Head_DreprD (P := P) (w := w) (base := base) T F_Head_DreprD 
  have G__law_is_head := ok__law_is_head (P := P) (w := w) (base := base) T F__law_is_head G__law_due b__law_due F__law_due.kp G__law_parts b__law_parts F__law_parts.kp G_Head_DreprD b_Head_DreprD
  have G_Head_DeqD := ok_Head_DeqD (P := P) (w := w) (base := base) T F_Head_DeqD 
  have G__law_copies_right := ok__law_copies_right (P := P) (w := w) (base := base) T F__law_copies_right G__law_is_head b__law_is_head F__law_is_head.kp G_Head_DinitD b_Head_DinitD G_Head_DeqD b_Head_DeqD C_0 C_1
  have G__law_steps := ok__law_steps (P := P) (w := w) (base := base) T F__law_steps G__law_number b__law_number F__law_number.kp
  have G_check_integer := ok_check_integer (P := P) (w := w) (base := base) T F_check_integer G_is_integer b_is_integer F_is_integer.kp
  have G_Head_speed_at := ok_Head_speed_at (P := P) (w := w) (base := base) T F_Head_speed_at G_check_integer b_check_integer F_check_integer.kp
  have Q_2 : BindA K fd_Head_speed_at ["self", "step"] 1 ["step"] [(0, 0), (3, 0)] [] [] := bindA_e F_Head_speed_at 1 ["step"] [(0, 0), (3, 0)] fun kV doc pm an cdv ct us ws l1 l2 => match us, ws, l1, l2 with | [_], [_], _, _ => rfl
  have C_2 : CallG P w K mg base CX0 3 (He.ma K (He.ga K "Head") "speed_at") ["step"] (spW K mg cf_2) := CallG.ofArr G_Head_speed_at Q_2 (fun F => RepL.nil) (fun F => RepL.nil) (fun ds es l1 l2 => match ds, es, l1, l2 with | [_], [_], _, _ => rfl)
  have G__law_speed := ok__law_speed (P := P) (w := w) (base := base) T F__law_speed 
  have G_Head_does := ok_Head_does (P := P) (w := w) (base := base) T F_Head_does 
  have Q_3 : BindA K fd_Head_does ["self", "kind"] 1 ["kind"] [(0, 0), (3, 0)] [] [] := bindA_e F_Head_does 1 ["kind"] [(0, 0), (3, 0)] fun kV doc pm an cdv ct us ws l1 l2 => match us, ws, l1, l2 with | [_], [_], _, _ => rfl
  have C_3 : CallG P w K mg base CX0 1 (He.ma K (He.ga K "Head") "does") ["kind"] (spW K mg cf_3) := CallG.ofArr G_Head_does Q_3 (fun F => RepL.nil) (fun F => RepL.nil) (fun ds es l1 l2 => match ds, es, l1, l2 with | [_], [_], _, _ => rfl)
  have G__law_is_told := ok__law_is_told (P := P) (w := w) (base := base) T F__law_is_told G__law_steps b__law_steps F__law_steps.kp G_Head_speed_at b_Head_speed_at G__law_speed b__law_speed F__law_speed.kp G_Head_does b_Head_does C_2 C_3
  have G__law_others := ok__law_others (P := P) (w := w) (base := base) T F__law_others G__law_left b__law_left F__law_left.kp G__law_choice b__law_choice F__law_choice.kp G__law_draw b__law_draw F__law_draw.kp
  have B_Head_with_speed := body_Head_with_speed (P := P) (w := w) (base := base) T G_Head_DinitD b_Head_DinitD
  have C_4 : CallG P w K mg base CX0 6 (He.ma K (He.ga K "Head") "with_speed") [] (spW K mg cf_4) := starP (n := 2) (ks := []) (ps := ["self", "speed"]) (pv := "changes") (ex := false) (g := fun us ws => arrL [(0, 0), (0, 1)] us [] [] ws) F_Head_with_speed sc_Head_with_speed (fun kV doc pm an cdv ct us ws h1 h2 h3 => match us, ws, h1, h2, h3 with | [u0, u1], [], _, _, _ => rfl | u0 :: u1 :: r :: rs, [], _, _, _ => rfl) (fun F ds vs es zs r s l1 l2 => rep_arr r RepL.nil RepL.nil s _) (fun vs zs us ws r s l1 l2 => ⟨vals_arr r .nil .nil s [(0, 0), (0, 1)], match vs, zs, l1, l2 with | [_, _], [], _, _ => rfl⟩) (B_Head_with_speed)
  have C_5 : CallG P w K mg base CX0 6 (He.ma K (He.ga K "Head") "with_speed") ["speed"] (spW K mg cf_5) := starP (n := 1) (ks := ["speed"]) (ps := ["self", "speed"]) (pv := "changes") (ex := true) (g := fun us ws => arrL [(0, 0), (3, 0)] us [] [] ws) F_Head_with_speed sc_Head_with_speed (fun kV doc pm an cdv ct us ws h1 h2 h3 => match us, ws, h1, h2, h3 with | [u0], [w0], _, _, _ => rfl | u0 :: r :: rs, _, _, h2, _ => absurd (h2 rfl) (by simp)) (fun F ds vs es zs r s l1 l2 => rep_arr r RepL.nil RepL.nil s _) (fun vs zs us ws r s l1 l2 => ⟨vals_arr r .nil .nil s [(0, 0), (3, 0)], match vs, zs, l1, l2 with | [_], [_], _, _ => rfl⟩) (B_Head_with_speed)
  have G__law_with := ok__law_with (P := P) (w := w) (base := base) T F__law_with C_4
  have G__law_right := ok__law_right (P := P) (w := w) (base := base) T F__law_right G__law_names b__law_names F__law_names.kp G__law_head b__law_head F__law_head.kp G__law_real b__law_real F__law_real.kp G__law_is_head b__law_is_head F__law_is_head.kp G__law_copies_right b__law_copies_right F__law_copies_right.kp G__law_is_told b__law_is_told F__law_is_told.kp G__law_others b__law_others F__law_others.kp G__law_due b__law_due F__law_due.kp G_Head_DeqD b_Head_DeqD G__law_with b__law_with F__law_with.kp G_Head_DreprD b_Head_DreprD C_5
  have G__law_rng := ok__law_rng (P := P) (w := w) (base := base) T F__law_rng 
  exact ok_law T F_law G__law_right b__law_right F__law_right.kp G__law_rng b__law_rng F__law_rng.kp
end Gk10
section
open PySem L2 Mir
local macro_rules | `(tactic| walk_at "wp") => `(tactic| first
  | ((with_reducible show Wp _ _ _); first
    | with_reducible refine Wp.seq ?_ | with_reducible refine Wp.op2 ?_ | with_reducible refine Wp.pur ?_
    | ((with_reducible refine' Wp.var ?h ?_); (case h => exact rfl))
    | with_reducible refine Wp.cons ?_ | with_reducible refine Wp.nil ?_ | with_reducible refine Wp.asg ?_ | with_reducible refine Wp.ret ?_
    | ((with_reducible refine' Wp.set ?z ?h ?_); (case z => exact rfl); (case h => repeat (first | exact At1.z | apply At1.s)))
    | with_reducible refine Wp.mif ?_ | with_reducible refine Wp.tst ?_ | with_reducible refine Wp.drop ?_ | with_reducible refine Wp.tup ?_ | with_reducible refine Wp.lst ?_
    | with_reducible refine Wp.fn ?_ | with_reducible refine Wp.call ?_ | with_reducible refine Wp.gtup ?_ | with_reducible refine Wp.unp ?_ | with_reducible refine Wp.unp0 ?_
    | ((with_reducible refine' Wp.fnI ?h0 ?_); (case h0 => exact rfl))
    | with_reducible refine Wp.op1 ?_ | with_reducible refine Wp.prop ?_ | with_reducible refine Wp.meth ?_ | with_reducible refine Wp.methK ?_ | with_reducible refine Wp.fld ?_ | with_reducible refine Wp.make ?_
    | ((with_reducible refine Wp.own ?z ?_); (case z => decide))
    | ((with_reducible refine' Wp.append ?h0 ?_); (case h0 => exact rfl))
    | ((with_reducible refine' Wp.item ?h0 ?_); (case h0 => exact rfl))
    | with_reducible refine Wp.notB ?_ | with_reducible refine Wp.andB ?_ | with_reducible refine Wp.orB ?_ | with_reducible refine Wp.notV ?_ | with_reducible refine Wp.andV ?_ | with_reducible refine Wp.orV ?_ | with_reducible refine Wp.chain ?_
    | with_reducible refine Wp.slice ?_ | with_reducible refine Wp.it ?_ | with_reducible refine Wp.for ?_ | with_reducible refine Wp.forNil ?_ | with_reducible refine Wp.forCons ?_
    | ((with_reducible refine' Wp.varOwnL ?h ?z ?a ?_); (case h => exact rfl); (case z => decide); (case a => repeat (first | exact At1.z | apply At1.s)))
    | ((with_reducible refine' Wp.takeL ?h ?_); (case h => exact rfl))
    | ((with_reducible refine' Wp.act0 ?h0 ?_); (case h0 => exact rfl))
    | ((with_reducible refine' Wp.act1 ?h0 ?_); (case h0 => exact rfl))
    | ((with_reducible refine' Wp.put ?h ?_); (case h => repeat (first | exact At1.z | apply At1.s)))
    | ((with_reducible refine Wp.ownC ?z ?_); (case z => decide))
    | ((with_reducible refine Wp.parO ?z ?_); (case z => decide)) | ((with_reducible refine Wp.parO2 ?z ?_); (case z => decide))
    | with_reducible refine Wp.join ?_ | with_reducible refine Wp.joined ?_ | with_reducible refine Wp.fldSet ?_ | ((with_reducible refine' Wp.fldOwn ?h0 ?_); (case h0 => exact rfl))
    | ((with_reducible refine' Wp.peek ?h0 ?_); (case h0 => exact rfl)) | ((with_reducible refine' Wp.peekB ?h0 ?_); (case h0 => exact rfl))
    | with_reducible refine Wp.methV ?_ | with_reducible refine Wp.makeV ?_ | with_reducible refine Wp.kw ?_ | with_reducible refine Wp.star ?_ | with_reducible refine Wp.fnF ?_
    | with_reducible refine Wp.parI ?_ | with_reducible refine Wp.iNil ?_ | with_reducible refine Wp.iV ?_ | with_reducible refine Wp.iN ?_ | with_reducible refine Wp.setNil ?_ | with_reducible refine Wp.setV ?_
    | ((with_reducible refine Wp.setN ?z ?_); (case z => decide)) | with_reducible refine Wp.newL ?_ | with_reducible refine Wp.newD ?_ | ((with_reducible refine Wp.parN ?z ?_); (case z => decide))
    | ((with_reducible refine' Wp.peekN ?e ?_); (case e => simp only [List.map_cons, List.map_nil, looked]; done))
    | ((with_reducible refine' Wp.sub ?h0 ?_); (case h0 => exact rfl))
    | with_reducible refine Wp.d1 ?_ | with_reducible refine Wp.bnd ?_ | with_reducible refine Wp.lft ?_)
  | ((with_reducible show Lf _ _); first
    | with_reducible refine Lf.add ?_ | with_reducible refine Lf.sub ?_ | with_reducible refine Lf.eqI ?_ | with_reducible refine Lf.neI ?_ | with_reducible refine Lf.eqB ?_ | with_reducible refine Lf.neB ?_
    | with_reducible refine Lf.ixL ?_ | with_reducible refine Lf.ixT ?_ | with_reducible refine Lf.at0 ?_ | with_reducible refine Lf.at1 ?_ | with_reducible refine Lf.at2 ?_
    | with_reducible refine Lf.lt ?_ | with_reducible refine Lf.le ?_ | with_reducible refine Lf.gt ?_ | with_reducible refine Lf.ge ?_ | with_reducible refine Lf.neg ?_
    | with_reducible refine Lf.lenL ?_ | with_reducible refine Lf.lenT ?_ | with_reducible refine Lf.lenC ?_ | with_reducible refine Lf.itL ?_ | with_reducible refine Lf.itT ?_ | with_reducible refine Lf.asI ?_
    | with_reducible refine Lf.slL ?_ | with_reducible refine Lf.slT ?_ | with_reducible refine Lf.abs ?_ | with_reducible refine Lf.max ?_ | with_reducible refine Lf.min ?_ | with_reducible refine Lf.intI ?_
    | with_reducible refine Lf.toL ?_ | with_reducible refine Lf.toL2 ?_ | with_reducible refine Lf.toT ?_ | with_reducible refine Lf.toT2 ?_ | with_reducible refine Lf.truL ?_ | with_reducible refine Lf.truB ?_
    | with_reducible refine Lf.pow9 ?_ | with_reducible refine Lf.pow18 ?_ | with_reducible refine Lf.pow20 ?_ | with_reducible refine Lf.pow29 ?_ | with_reducible refine Lf.pow30 ?_
    | with_reducible refine Lf.leS ?_ | with_reducible refine Lf.chars ?_ | with_reducible refine Lf.enumL ?_ | with_reducible refine Lf.enumT ?_ | with_reducible refine Lf.rev ?_ | with_reducible refine Lf.mul2 ?_ | with_reducible refine Lf.clear ?_
    | with_reducible refine Lf.inL ?_ | with_reducible refine Lf.inT ?_ | with_reducible refine Lf.ninL ?_ | with_reducible refine Lf.ninT ?_ | with_reducible refine Lf.catN ?_
    | ((with_reducible refine Lf.divmod ?h ?_); (case h => exact ⟨by omega, by omega⟩))
    | ((with_reducible refine' Lf.isi ?h ?_); (case h => first | assumption | exact rfl))
    | ((with_reducible refine Lf.extend ?h ?_); (case h => first | assumption | (simp; done) | (simp; omega) | (simp at *; omega)))
    | ((with_reducible refine Lf.sortL ?h ?_); (case h => first | assumption | (simp; omega) | (simp at *; omega)))
    | ((with_reducible refine Lf.sortT ?h ?_); (case h => first | assumption | (simp; omega) | (simp at *; omega)))
    | with_reducible refine Lf.kw ?_
    | with_reducible refine Lf.all ?_ | with_reducible refine Lf.any ?_ | with_reducible refine Lf.the ?_
    | ((with_reducible refine Lf.addL ?h ?_); (case h => first | assumption | (simp; done) | (simp; omega) | (simp at *; omega)))
    | ((with_reducible refine Lf.addT ?h ?_); (case h => first | assumption | (simp; done) | (simp; omega) | (simp at *; omega)))
    | ((with_reducible refine Lf.mul ?h ?_); (case h => first | assumption | exact ⟨big_of (by omega) (by omega), big_of (by omega) (by omega)⟩))
    | ((with_reducible refine Lf.mod ?h ?_); (case h => omega)) | ((with_reducible refine Lf.div ?h ?_); (case h => exact ⟨by omega, big_of (by omega) (by omega)⟩))
    | ((with_reducible refine Lf.rng1 ?h ?_); (case h => exact ⟨by omega, by omega⟩))
    | ((with_reducible refine' Lf.ok ?h ?_); (case h => first | with_reducible assumption | assumption)))
  | with_reducible refine Sq.nx ?_ | with_reducible refine Sq.rt ?_ | with_reducible refine Lp.nx ?_ | with_reducible refine Lp.rt ?_ | with_reducible refine Bl.ok ?_
  | with_reducible refine Br.t ?_ | with_reducible refine Br.f ?_ | with_reducible refine Br.not ?_
  | ((with_reducible refine Br.dec_t ?h ?_); (case h => first | assumption | omega)) | ((with_reducible refine Br.dec_f ?h ?_); (case h => first | assumption | omega))
  | ((with_reducible show Li _ _); first | ((with_reducible refine' Li.ok ?h ?_); (case h => first | with_reducible assumption | assumption)) | with_reducible refine Li.kw ?_)
  | ((with_reducible refine' Ex.app ?h ?_); (case h => repeat (first | exact App.nil | apply App.cons)))
  | ((with_reducible refine' Ex.at1 ?h ?_); (case h => repeat (first | exact At1.z | apply At1.s)))
  | ((with_reducible refine' Ex.own ?h ?_); (case h => exact rfl)) | ((with_reducible refine' Ex.ownL ?h ?_); (case h => exact rfl)) | ((with_reducible refine' Ex.ownN ?h ?_); (case h => exact rfl))
  | with_reducible refine Ex.int ?_ | with_reducible refine Ex.str ?_
  | ((with_reducible show List.length _ ≤ 100000 ∧ _); (refine ⟨?h, ?_⟩); (case h => first | assumption | (simp; done) | (simp; omega) | (simp at *; omega)))
  | ((with_reducible show List.length _ < 100000 ∧ _); (refine ⟨?h, ?_⟩); (case h => first | assumption | (simp; done) | (simp; omega) | (simp at *; omega)))
  | ((with_reducible show List.length _ = _ ∧ _); (refine ⟨?h, ?_⟩); (case h => exact rfl))
  | ((with_reducible show (List.length _ = _ ∧ List.length _ = _) ∧ _); (refine ⟨?h, ?_⟩); (case h => exact ⟨rfl, rfl⟩))
  | ((with_reducible show isK _ _ = true ∧ _); (refine ⟨?h, ?_⟩); (case h => first | assumption | exact rfl))
  | ((with_reducible show isC _ _ _ = true ∧ _); (refine ⟨?h, ?_⟩); (case h => first | assumption | exact rfl))
  | fail)
set_option linter.all false
set_option maxRecDepth 100000
namespace Mir
open PySem L2
/-! ### what the laws draw: numbers, choices, names -/
def mDraw : M Out := (mSeq (mIf (tst (op2 gtD (mItem 0 (pur (D.int 0))) (pur (D.int 0)))) (mSeq (mAsg (mCall divmodD (mCons (mItem 0 (pur (D.int 0))) (mCons (mVar 1) mNil))) (mGtup [(mSub 0 (pur (D.int 0))), (mSet 2)]))
  (mRet (mVar 2))) (pur Out.nx))
  (mSeq (mAsg (op2 modD (mCall intD (mCons (op2 addD (op2 mulD (mItem 0 (pur (D.int 1))) (pur (D.int 39373))) (pur (D.int 9973))) mNil)) (pur (D.int 2147483629))) (mSub 0 (pur (D.int 1))))
  (mRet (op2 modD (mCall intD (mCons (op2 divD (op2 modD (mCall intD (mCons (op2 mulD (mItem 0 (pur (D.int 1))) (mItem 0 (pur (D.int 1)))) mNil)) (pur (D.int 2147483563))) (pur (D.int 13))) mNil)) (mVar 1)))))
def fDraw : Cell → List D → Option (D × Cell) := runI ["_law_rng_here", "_law_many", "_law_digit"] mDraw
/-- the state of the draws -/
def Rg (c : Cell) : Prop := ∃ a b : Int, c = .lst [.int a, .int b] ∧ 0 ≤ a ∧ 0 ≤ b ∧ b < 2147483630
theorem draw_rg {c : Cell} (h : Rg c) {many : Int} (hm : 0 < many) (hm2 : many < 1000000000) : ∃ (r : Int) (c' : Cell), fDraw c [.int many] = some (.int r, c') ∧ 0 ≤ r ∧ r < many ∧ Rg c' := by
  obtain ⟨a, b, rfl, h1, h2, h3⟩ := h
  have e : ∃ d c2, fDraw (.lst [.int a, .int b]) [.int many] = some (d, c2) ∧ (∃ r, d = .int r ∧ 0 ≤ r ∧ r < many ∧ Rg c2) := by
    refine runI_rt (sd := [.own (.lst [.int a, .int b]), .val (.int many), .no]) rfl ?_
    unfold mDraw
    repeat' (first | walk_at "wp" | fail)
    refine Br.dec (fun h => ?_) fun h => ?_
    · repeat' (first | walk_at "wp" | fail)
      refine ⟨0, rfl, ?_⟩
      repeat' (first | walk_at "wp" | fail)
      have k1 : 0 ≤ a / many := Int.ediv_nonneg h1 (by omega)
      exact ⟨_, _, _, rfl, rfl, a % many, rfl, Int.emod_nonneg _ (by omega), Int.emod_lt_of_pos _ (by omega), a / many, b, rfl, k1, h2, h3⟩
    · have k1 := Int.emod_nonneg (b * 39373 + 9973) (show (2147483629 : Int) ≠ 0 by decide)
      have k2 := Int.emod_lt_of_pos (b * 39373 + 9973) (show (0 : Int) < 2147483629 by decide)
      repeat' (first | walk_at "wp" | fail)
      refine ⟨1, rfl, ?_⟩
      repeat' (first | walk_at "wp" | fail)
      generalize (b * 39373 + 9973) % 2147483629 = x at *
      have es : [D.int a, D.int b].set 1 (D.int x) = [D.int a, D.int x] := rfl
      rw [es]
      repeat' (first | walk_at "wp" | fail)
      have k3 := Int.emod_nonneg (x * x) (show (2147483563 : Int) ≠ 0 by decide)
      have k4 := Int.emod_lt_of_pos (x * x) (show (0 : Int) < 2147483563 by decide)
      generalize x * x % 2147483563 = y at *
      repeat' (first | walk_at "wp" | fail)
      exact ⟨_, _, _, rfl, rfl, _, rfl, Int.emod_nonneg _ (by omega), Int.emod_lt_of_pos _ (by omega), a, x, rfl, h1, k1, by omega⟩
  obtain ⟨d, c2, e1, r, rfl, k⟩ := e
  exact ⟨r, c2, e1, k⟩
def mChoice : M Out := (mRet (op2 ixD (mVar 1) (mFnI 1 fDraw 0 [] (mCons (mCall lenD (mCons (mVar 1) mNil)) mNil))))
def fChoice : Cell → List D → Option (D × Cell) := runI ["_law_rng_here", "_law_some"] mChoice
theorem choice_rg {c : Cell} (h : Rg c) (ds : List D) (h1 : 0 < ds.length) (h2 : ds.length < 1000) : ∃ x c', fChoice c [.lst ds] = some (x, c') ∧ x ∈ ds ∧ Rg c' := by
  obtain ⟨i, c', e, k1, k2, k3⟩ := draw_rg h (many := (ds.length : Int)) (by omega) (by omega)
  have hi : i.toNat < ds.length := by omega
  have ei : ((i.toNat : Nat) : Int) = i := by omega
  have hx : atI ds i = some ds[i.toNat] := by
    have := Mir.atI_nat (List.getElem?_eq_getElem hi)
    rw [ei] at this
    exact this
  have e2 : ∃ d c2, fChoice c [.lst ds] = some (d, c2) ∧ (d = ds[i.toNat] ∧ c2 = c') := by
    refine runI_rt (sd := [.own c, .val (.lst ds)]) rfl ?_
    unfold mChoice
    repeat' (first | walk_at "wp" | fail)
    exact ⟨_, _, _, rfl, rfl, rfl, rfl⟩
  obtain ⟨d, c2, e3, rfl, rfl⟩ := e2
  exact ⟨_, _, e3, List.getElem_mem hi, k3⟩
def mRng : M Out := (mAsg (mIf (tst (op2 ltD (mVar 1) (mCall lenD (mCons (mVar 0) mNil)))) (op2 ixD (mVar 0) (mVar 1)) (op2 addD (op2 mulD (pur (D.int 11)) (mVar 1)) (pur (D.int 3)))) (mSet 2))
def mlRng : M (List D) := (mCons (mCall maxD (mCons (pur (D.int 0)) (mCons (op2 subD (mCall absD (mCons (mVar 2) mNil)) (op2 powD (pur (D.int 10)) (pur (D.int 18)))) mNil))) (mCons (op2 addD (op2 modD (mCall intD (mCons (op2 addD (op2 addD (op2 mulD (op2 modD (mCall intD (mCons (mCall absD (mCons (mVar 2) mNil)) mNil)) (pur (D.int 2147483549))) (pur (D.int 48271))) (op2 mulD (pur (D.int 7919)) (mVar 1))) (pur (D.int 31))) mNil)) (pur (D.int 2147483629))) (pur (D.int 1))) mNil))
def fRng : List D → Option Cell := runO ["_law_script", "_law_k", "_law_cell"] mRng mlRng
theorem rng_rg (ns : List Int) (k : Nat) (hk : k ≤ 100) : ∃ c, fRng [.scr ns, .int (k : Int)] = some c ∧ Rg c := by
  have hb : ((k : Int)).natAbs < big := big_of (by omega) (by omega)
  have hc : ∃ z : Int, Wp (mIf (tst (op2 ltD (mVar 1) (mCall lenD (mCons (mVar 0) mNil)))) (op2 ixD (mVar 0) (mVar 1)) (op2 addD (op2 mulD (pur (D.int 11)) (mVar 1)) (pur (D.int 3)))) [.val (.scr ns), .val (.int (k : Int)), .no] fun d sd => d = .int z ∧ sd = [.val (.scr ns), .val (.int (k : Int)), .no] := by
    by_cases z : (k : Int) < ns.length
    · have hn : k < ns.length := by omega
      refine ⟨ns[k], ?_⟩
      have e : ixD (.scr ns) (.int (k : Int)) = some (.int ns[k]) := by
        show (atI ns (k : Int)).map D.int = _
        rw [Mir.atI_nat (List.getElem?_eq_getElem hn)]
        rfl
      repeat' (first | ((with_reducible refine' Lf.ok ?h ?_); (case h => with_reducible first | exact e)) | walk_at "wp" | fail)
      exact ⟨rfl, rfl⟩
    · refine ⟨11 * (k : Int) + 3, ?_⟩
      repeat' (first | walk_at "wp" | fail)
      exact ⟨rfl, rfl⟩
  obtain ⟨z, hz⟩ := hc
  generalize ha : (if z < 0 then -z else z) = a
  have h1 := Int.emod_nonneg a (show (2147483549 : Int) ≠ 0 by decide)
  have h2 := Int.emod_lt_of_pos a (show (0 : Int) < 2147483549 by decide)
  have m1 := Int.emod_nonneg (a % 2147483549 * 48271 + 7919 * (k : Int) + 31) (show (2147483629 : Int) ≠ 0 by decide)
  have m2 := Int.emod_lt_of_pos (a % 2147483549 * 48271 + 7919 * (k : Int) + 31) (show (0 : Int) < 2147483629 by decide)
  refine ⟨.lst [.int (if a - 1000000000000000000 > 0 then a - 1000000000000000000 else 0), .int ((a % 2147483549 * 48271 + 7919 * (k : Int) + 31) % 2147483629 + 1)], ?_, _, _, rfl, ?_, ?_, ?_⟩
  · refine runO_ok (sd := [.val (.scr ns), .val (.int (k : Int)), .no]) rfl ?_
    unfold mRng
    refine Wp.asg (hz.mono ?_)
    rintro d sd ⟨rfl, rfl⟩
    repeat' (first | walk_at "wp" | fail)
    refine ⟨rfl, ?_⟩
    unfold mlRng
    repeat' (first | walk_at "wp" | fail)
    rw [ha]
    repeat' (first | walk_at "wp" | fail)
    exact ⟨rfl, by simp⟩
  · split <;> omega
  · omega
  · omega
end Mir
set_option linter.all false
set_option maxRecDepth 100000
namespace Mir
open PySem L2
/-! ### drawn names: one to eight letters, all different -/
theorem pick_self (s : Slot) : pick s s = s := by cases s <;> rfl
theorem pick_own (c : Cell) (s : Slot) : pick (.own c) s = s := rfl
def mNames : M Out := (mSeq (mParI [3, 4] (mIV (pur (D.str "abcdefghijklmnopqrstuvwxyz")) (mIN (mNewD mNil) mINil)))
  (mSeq (mFor (bnd (mCons (mVar 1) mNil) fun ds => lft (rng1D ds)) (mSet 2) (mSeq (mAsg (mJoin (pur (D.str "")) (mComp (bnd (mCons (op2 addD (pur (D.int 1)) (mFnI 1 fChoice 0 [] (mCons (mLst (mCons (pur (D.int 0)) (mCons (pur (D.int 0)) (mCons (pur (D.int 1)) (mCons (pur (D.int 2)) (mCons (pur (D.int 7)) mNil)))))) mNil))) mNil) fun ds => lft (rng1D ds)) [7] (mSet 7) (pur true) (op2 ixD (mVar 3) (mFnI 1 fDraw 0 [] (mCons (pur (D.int 26)) mNil))))) (mSet 5))
  (mSeq (mAsg (op2 addD (mLst (mCons (mVar 5) mNil)) (mComp (bnd (mVar 3) fun d => lft (charsD d)) [8] (mSet 8) (pur true) (op2 addD (op2 addD (mSlice (mVar 5) (pur none) (bnd (pur (D.int 6)) fun d => bnd (lft (asI d)) fun i => pur (some i))) (mVar 8)) (pur (D.str "q"))))) (mSet 6))
  (mDrop (mAct1 4 actAppend (op2 ixD (mComp (mIt (mVar 6)) [8] (mSet 8) (mPeekB 4 (tst (op2 (inD true) (mVar 8) (mVar 4)))) (mVar 8)) (pur (D.int 0))))))))
  (mRet (mVar 4))))
def fNames : Cell → List D → Option (D × Cell) := runI ["_law_rng_here", "_law_many", "_law_k", "_law_letters", "_law_found", "_law_word", "_law_fresh", "_law_turn", "_law_one"] mNames
/-- one to eight letters from a to z -/
def Nm (x : Str) : Prop := (1 ≤ x.length ∧ x.length ≤ 8) ∧ ∀ c ∈ x.cps.toList, 97 ≤ c ∧ c ≤ 122
def letters : Str := "abcdefghijklmnopqrstuvwxyz"
theorem letters_at : ∀ n : Nat, n < 26 → letters.cps.toList[n]? = some (97 + n) := by decide +kernel
theorem letter_ix {r : Int} (h : 0 ≤ r) (h2 : r < 26) : ixD (.str letters) (.int r) = some (.str ⟨#[97 + r.toNat]⟩) := by
  have e : ((r.toNat : Nat) : Int) = r := by omega
  have k := Mir.atI_nat (letters_at r.toNat (by omega))
  rw [e] at k
  show (if letters.length ≤ 100000 then (atI letters.cps.toList r).map _ else none) = _
  rw [if_pos (show letters.length ≤ 100000 by decide +kernel), k]
  rfl
theorem join_ones : ∀ cs : List Nat, Str.join "" (cs.map fun c => (⟨#[c]⟩ : Str)) = ⟨cs.toArray⟩
  | [] => rfl
  | [c] => rfl
  | c :: d :: r => by
    have h := join_ones (d :: r)
    show (⟨#[c]⟩ : Str) ++ "" ++ Str.join "" ((d :: r).map fun c => (⟨#[c]⟩ : Str)) = _
    rw [h]
    refine Str.ext' ?_
    show #[c] ++ #[] ++ (d :: r).toArray = _
    simp
theorem joined_ones {cs : List Nat} (h : cs.length ≤ 1000) : joinD (.str "") (.lst (cs.map fun c => D.str ⟨#[c]⟩)) = some (.str ⟨cs.toArray⟩) := by
  have e : (cs.map fun c => D.str ⟨#[c]⟩) = (cs.map fun c => (⟨#[c]⟩ : Str)).map D.str := by rw [List.map_map]; rfl
  have e2 : ((cs.map fun c => (⟨#[c]⟩ : Str)).map (·.length)).sum = cs.length := by
    clear h e
    induction cs with
    | nil => rfl
    | cons a r ih =>
      rw [List.map_cons, List.map_cons, List.sum_cons, ih, List.length_cons]
      show 1 + r.length = _
      omega
  unfold joinD
  rw [e]
  simp only [itemsD, strsD_map, e2]
  have e3 : ("" : Str).length = 0 := rfl
  rw [e3, Nat.mul_zero, if_pos (by omega)]
  refine congrArg (fun z => some (D.str z)) ?_
  refine Eq.trans (StrLaws.glued_eq_join "" _) (join_ones cs)
theorem fa2_ex {α β γ : Type} {R : α → β → Prop} {f : γ → β} {P : γ → Prop} {l : List α} {ds : List β} (h : Fa2 R l ds) (k : ∀ a d, R a d → ∃ c, d = f c ∧ P c) : ∃ cs : List γ, ds = cs.map f ∧ (∀ c ∈ cs, P c) ∧ cs.length = l.length := by
  induction h with
  | nil => exact ⟨[], rfl, fun _ h => by simp at h, rfl⟩
  | cons h _ ih =>
    obtain ⟨cs, rfl, h1, h2⟩ := ih
    obtain ⟨c, rfl, h3⟩ := k _ _ h
    refine ⟨c :: cs, rfl, ?_, by rw [List.length_cons, List.length_cons, h2]⟩
    intro x hx
    rcases List.mem_cons.mp hx with rfl | hx
    · exact h3
    · exact h1 x hx
/-- different things can't all lie in a shorter list -/
theorem pigeon {α : Type} [DecidableEq α] : ∀ (l m : List α), l.Nodup → (∀ x ∈ l, x ∈ m) → l.length ≤ m.length
  | [], m, _, _ => Nat.zero_le _
  | a :: l, m, hn, h => by
    have ha : a ∈ m := h a List.mem_cons_self
    have hn' := List.nodup_cons.mp hn
    have ih := pigeon l (m.erase a) hn'.2 fun x hx => by
      refine (List.mem_erase_of_ne ?_).mpr (h x (List.mem_cons_of_mem _ hx))
      rintro rfl
      exact hn'.1 hx
    have := List.length_erase_of_mem ha
    have := List.length_pos_of_mem ha
    rw [List.length_cons]
    omega
theorem nodup_map {α β : Type} {f : α → β} (hf : ∀ a b, f a = f b → a = b) : ∀ {l : List α}, l.Nodup → (l.map f).Nodup
  | [], _ => List.nodup_nil
  | a :: l, h => by
    have h' := List.nodup_cons.mp h
    rw [List.map_cons]
    refine List.nodup_cons.mpr ⟨?_, nodup_map hf h'.2⟩
    intro hm
    obtain ⟨b, hb, e⟩ := List.mem_map.mp hm
    rw [hf _ _ e] at hb
    exact h'.1 hb
theorem cutS_to (x : Str) (k : Nat) (h : k ≤ x.length) : (cutS x none (some (k : Int))).cps.toList = x.cps.toList.take k := by
  unfold cutS
  have e1 : HT.sIx x.length 0 none = 0 := rfl
  have e2 : HT.sIx x.length x.length (some (k : Int)) = k := by
    simp only [HT.sIx]
    first | omega | (split <;> omega) | (simp; omega)
  rw [e1, e2]
  simp
theorem cutS_sub (x : Str) (lo hi : Option Int) : ∀ c ∈ (cutS x lo hi).cps.toList, c ∈ x.cps.toList := by
  intro c hc
  unfold cutS at hc
  simp only [List.toList_toArray] at hc
  exact List.mem_of_mem_drop (List.mem_of_mem_take hc)
theorem cutS_len6 (x : Str) : (cutS x none (some 6)).length ≤ 6 := by
  unfold cutS
  show ((List.take _ _).toArray).size ≤ 6
  rw [List.size_toArray, List.length_take]
  have e1 : HT.sIx x.length 0 none = 0 := rfl
  have e2 : HT.sIx x.length x.length (some (6 : Int)) ≤ 6 := by
    simp only [HT.sIx]
    first | omega | (split <;> omega) | (simp; omega)
  rw [e1]
  omega
theorem mem_app {a b : Str} {c : Nat} : c ∈ (a ++ b).cps.toList ↔ c ∈ a.cps.toList ∨ c ∈ b.cps.toList := by
  rw [Str.cps_append, Array.toList_append, List.mem_append]
/-- the words that are drawn on -/
def freshS (w : Str) : List Str := w :: letters.cps.toList.map fun c => cutS w none (some 6) ++ ⟨#[c]⟩ ++ "q"
theorem fresh_nm {w : Str} (h : Nm w) : ∀ x ∈ freshS w, Nm x := by
  intro x hx
  rcases List.mem_cons.mp hx with rfl | hx
  · exact h
  · obtain ⟨c, hc, rfl⟩ := List.mem_map.mp hx
    have hl : ∀ c ∈ letters.cps.toList, 97 ≤ c ∧ c ≤ 122 := by decide +kernel
    have l6 := cutS_len6 w
    have e : (cutS w none (some 6) ++ ⟨#[c]⟩ ++ "q" : Str).length = (cutS w none (some 6)).length + 1 + 1 := by
      rw [Str.length_append, Str.length_append]
      rfl
    refine ⟨by rw [e]; omega, ?_⟩
    intro d hd
    rcases mem_app.mp hd with hd | hd
    · rcases mem_app.mp hd with hd | hd
      · exact h.2 d (cutS_sub _ _ _ d hd)
      · have : d = c := by simpa using hd
        subst this
        exact hl d hc
    · have : d = 113 := by
        have hq : ("q" : Str).cps.toList = [113] := by decide +kernel
        rw [hq] at hd
        simpa using hd
      omega
theorem fresh_one (w : Str) (ns : List Str) (h : ns.length < 26) : ∃ y r, (freshS w).filter (fun x => !decide (x ∈ ns)) = y :: r := by
  have hn : (letters.cps.toList.map fun c => (cutS w none (some 6) ++ ⟨#[c]⟩ ++ "q" : Str)).Nodup := by
    refine nodup_map ?_ (by decide +kernel)
    intro a b e
    have h := congrArg (fun s : Str => s.cps.toList) e
    simp only [Str.cps_append, Array.toList_append] at h
    have h2 := List.append_cancel_right h
    have h3 := List.append_cancel_left h2
    simpa using h3
  cases e : (freshS w).filter (fun x => !decide (x ∈ ns)) with
  | cons y r => exact ⟨y, r, rfl⟩
  | nil =>
    exfalso
    have hs : ∀ x ∈ (letters.cps.toList.map fun c => (cutS w none (some 6) ++ ⟨#[c]⟩ ++ "q" : Str)), x ∈ ns := by
      intro x hx
      have := List.filter_eq_nil_iff.mp e x (List.mem_cons_of_mem _ hx)
      simpa using this
    have := pigeon _ _ hn hs
    rw [List.length_map, show letters.cps.toList.length = 26 by decide +kernel] at this
    omega
theorem names_rg {c : Cell} (h : Rg c) (many : Nat) (hm : many ≤ 20) : ∃ (ns : List Str) (c' : Cell), fNames c [.int (many : Int)] = some (.lst (ns.map .str), c') ∧ ns.length = many ∧ (∀ x ∈ ns, Nm x) ∧ ns.Nodup ∧ Rg c' := by
  have key : ∃ d c2, fNames c [.int (many : Int)] = some (d, c2) ∧ ∃ ns : List Str, d = .lst (ns.map .str) ∧ ns.length = many ∧ (∀ x ∈ ns, Nm x) ∧ ns.Nodup ∧ Rg c2 := by
    refine runI_rt (sd := [.own c, .val (.int (many : Int)), .no, .no, .no, .no, .no, .no, .no]) rfl ?_
    unfold mNames
    repeat' (first | walk_at "wp" | fail)
    refine Wp.forInv (fun i : Nat => D.int (i : Int)) (fun don sd => ∃ (c : Cell) (ns : List Str) (s2 s5 s6 : Slot), Rg c ∧ ns.length = don.length ∧ (∀ x ∈ ns, Nm x) ∧ ns.Nodup ∧ sd = [.own c, .val (.int (many : Int)), s2, .val (.str letters), .own (.lst (ns.map .str)), s5, s6, .no, .no]) _ ⟨c, [], _, _, _, h, rfl, by simp, List.nodup_nil, rfl⟩ ?_ ?_
    · rintro don i r sd e ⟨c, ns, s2, s5, s6, hc, hl, hnm, hnd, rfl⟩
      have hdl : don.length < 20 := by
        have := congrArg List.length e
        rw [List.length_range, List.length_append, List.length_cons] at this
        omega
      obtain ⟨x, c1, e1, hx, hc1⟩ := choice_rg hc [.int 0, .int 0, .int 1, .int 2, .int 7] (by decide) (by decide)
      have hx' : ∃ k : Int, x = .int k ∧ 0 ≤ k ∧ k ≤ 7 := by
        simp only [List.mem_cons, List.not_mem_nil, or_false] at hx
        rcases hx with rfl | rfl | rfl | rfl | rfl <;> exact ⟨_, rfl, by decide, by decide⟩
      obtain ⟨k, rfl, hk1, hk2⟩ := hx'
      repeat' (first | walk_at "wp" | fail)
      refine Wp.compC (fun i : Nat => D.int (i : Int)) (fun _ d => ∃ z : Nat, d = .str ⟨#[z]⟩ ∧ 97 ≤ z ∧ z ≤ 122) Rg (fun c => [Slot.own c, .val (.int (many : Int)), .val (.int (i : Int)), .val (.str letters), .own (.lst (ns.map .str)), s5, s6, .no, .no]) (List.range (1 + k).toNat) c1 ?_
      repeat' (first | walk_at "wp" | fail)
      refine ⟨rfl, by rw [List.length_range]; omega, rfl, hc1, fun _ => by (first | rfl | (simp [Mir.back, wipeS, pick_self, pick_own]; done)), ?_, ?_⟩
      · intro j c _ hc
        obtain ⟨z, c2, e2, hz1, hz2, hc2⟩ := draw_rg hc (many := 26) (by decide) (by decide)
        have e3 := letter_ix hz1 hz2
        repeat' (first | walk_at "wp" | fail)
        exact ⟨⟨_, rfl, by omega, by omega⟩, c2, hc2, rfl⟩
      · intro ds c2 hds hc2
        obtain ⟨cs, rfl, h1, h2⟩ := fa2_ex (f := fun z : Nat => D.str ⟨#[z]⟩) (P := fun z => 97 ≤ z ∧ z ≤ 122) hds fun _ d h => h
        rw [List.length_range] at h2
        have ej := joined_ones (cs := cs) (by omega)
        have hw : Nm ⟨cs.toArray⟩ := by
          have e : (⟨cs.toArray⟩ : Str).length = cs.length := by show cs.toArray.size = _; simp
          refine ⟨by rw [e]; omega, ?_⟩
          intro c hc
          exact h1 c (by simpa using hc)
        generalize (⟨cs.toArray⟩ : Str) = w at *
        repeat' (first | walk_at "wp" | fail)
        refine Wp.comp (fun c : Nat => D.str ⟨#[c]⟩) (fun _ => true) (fun c => .str (cutS w none (some 6) ++ ⟨#[c]⟩ ++ "q")) letters.cps.toList ?_
        repeat' (first | walk_at "wp" | fail)
        refine ⟨rfl, by decide +kernel, by (first | rfl | (simp [Mir.back, wipeS, pick_self, pick_own]; done)), ?_, ?_⟩
        · intro a _
          repeat' (first | walk_at "wp" | fail)
          refine ⟨rfl, ?_⟩
          repeat' (first | walk_at "wp" | fail)
          refine Lf.slS (by have := hw.1; omega) ?_
          repeat' (first | walk_at "wp" | fail)
          have l6 := cutS_len6 w
          refine Lf.addS (by show _ + 1 ≤ _; omega) ?_
          repeat' (first | walk_at "wp" | fail)
          refine Lf.addS (by rw [Str.length_append]; show _ + 1 + 1 ≤ _; omega) ?_
          exact ⟨rfl, rfl⟩
        · have ef : (D.str w :: (letters.cps.toList.filter fun _ => true).map fun c => D.str (cutS w none (some 6) ++ ⟨#[c]⟩ ++ "q")) = (freshS w).map .str := by
            rw [List.filter_eq_self.mpr fun _ _ => rfl]
            unfold freshS
            rw [List.map_cons, List.map_map]
            rfl
          refine Lf.addL (by rw [List.length_map, List.filter_eq_self.mpr fun _ _ => rfl, show letters.cps.toList.length = 26 by decide +kernel]; show 1 + 26 ≤ 100000; decide) ?_
          rw [List.singleton_append, ef]
          repeat' (first | walk_at "wp" | fail)
          obtain ⟨y, r2, e10⟩ := fresh_one w ns (by omega)
          have hy : y ∈ (freshS w).filter fun x => !decide (x ∈ ns) := by rw [e10]; simp
          have hy' := List.mem_filter.mp hy
          have hyn : y ∉ ns := by simpa using hy'.2
          refine Wp.comp D.str (fun x => !decide (x ∈ ns)) D.str (freshS w) ?_
          repeat' (first | walk_at "wp" | fail)
          refine ⟨rfl, ?_, by (first | rfl | (simp [Mir.back, wipeS, pick_self, pick_own]; done)), ?_, ?_⟩
          · unfold freshS
            rw [List.length_cons, List.length_map, show letters.cps.toList.length = 26 by decide +kernel]
            decide
          · intro a _
            repeat' (first | walk_at "wp" | fail)
            refine Lf.ninL ?_
            repeat' (first | walk_at "wp" | fail)
            refine ⟨rfl, ?_⟩
            refine Br.both (fun _ => ?_) fun _ => rfl
            repeat' (first | walk_at "wp" | fail)
            exact ⟨rfl, rfl⟩
          · rw [e10, List.map_cons]
            repeat' (first | walk_at "wp" | fail)
            have em : ns.map D.str ++ [D.str y] = (ns ++ [y]).map D.str := by rw [List.map_append, List.map_cons, List.map_nil]
            rw [em]
            refine .inl ⟨rfl, c2, ns ++ [y], _, _, _, hc2, by simp [hl], ?_, ?_, rfl⟩
            · intro x hx
              rcases List.mem_append.mp hx with hx | hx
              · exact hnm x hx
              · have : x = y := by simpa using hx
                subst this
                exact fresh_nm hw x hy'.1
            · rw [List.nodup_append]
              refine ⟨hnd, by simp, ?_⟩
              intro a ha b hb
              have : b = y := by simpa using hb
              subst this
              rintro rfl
              exact hyn ha
    · rintro sd ⟨c, ns, s2, s5, s6, hc, hl, hnm, hnd, rfl⟩
      repeat' (first | walk_at "wp" | fail)
      rw [List.length_range] at hl
      exact ⟨_, _, _, rfl, rfl, ns, rfl, by omega, hnm, hnd, hc⟩
  obtain ⟨d, c2, e, ns, rfl, k⟩ := key
  exact ⟨ns, c2, e, k⟩
end Mir
set_option linter.all false
set_option maxRecDepth 100000
namespace Mir
open PySem L2
/-! ### walks by number, slices, sizes: for the heads and beams -/
theorem mapIdx_map2 {α β γ : Type} (f : Nat → β → γ) (g : α → β) : ∀ (l : List α) , (l.map g).mapIdx f = l.mapIdx fun i a => f i (g a) := by
  intro l
  induction l generalizing f with
  | nil => rfl
  | cons a l ih => rw [List.map_cons, List.mapIdx_cons, List.mapIdx_cons, ih]
/-- a walk with the number of each turn -/
theorem Wp.forIdx {α : Type} {g : D → M Unit} {b : M Out} {Q : Out → SD → Prop} {sd : SD} (enc : Nat → α → D) (I : List α → SD → Prop) (l : List α) (h0 : I [] sd)
    (hs : ∀ don a r sd, l = don ++ a :: r → I don sd → Wp (g (enc don.length a)) sd fun _ sd1 => Wp b sd1 fun o sd2 => (o = .nx ∧ I (don ++ [a]) sd2) ∨ ∃ d, o = .rt d ∧ Q (.rt d) sd2)
    (he : ∀ sd, I l sd → Q .nx sd) : Wp (forM g b (l.mapIdx enc)) sd Q := by
  have main : ∀ (r don : List α) (sd : SD), l = don ++ r → I don sd → Wp (forM g b (r.mapIdx fun i a => enc (don.length + i) a)) sd Q := by
    intro r
    induction r with
    | nil =>
      intro don sd e h
      rw [List.append_nil] at e
      exact Wp.forNil (he sd (by rw [e]; exact h))
    | cons a r ih =>
      intro don sd e h
      rw [List.mapIdx_cons]
      refine Wp.forCons ((hs don a r sd e h).mono fun _ sd1 h => h.mono fun o sd2 h => ?_)
      rcases h with ⟨rfl, h⟩ | ⟨d, rfl, q⟩
      · have := ih (don ++ [a]) sd2 (by rw [e]; simp) h
        simp only [List.length_append, List.length_cons, List.length_nil] at this
        have ef : (fun i a => enc (don.length + (0 + 1) + i) a) = fun i a => enc (don.length + (i + 1)) a := by
          funext i a
          congr 1
          omega
        rw [ef] at this
        exact this
      · exact q
  have := main l [] sd rfl h0
  simpa using this
theorem cut_nn {xs : List D} (a b : Nat) (h1 : a ≤ xs.length) (h2 : b ≤ xs.length) : cutD xs (some (a : Int)) (some (b : Int)) = (xs.drop a).take (b - a) := by
  unfold cutD
  rw [HT.sIx_nat, HT.sIx_nat, Nat.min_eq_left h1, Nat.min_eq_left h2]
theorem cut_le {xs : List D} (k : Nat) : cutD xs none (some (k : Int)) = xs.take k := by
  unfold cutD
  rw [HT.sIx_none, HT.sIx_nat, Nat.sub_zero, List.drop_zero, Nat.min_def]
  split
  · rfl
  · rw [List.take_of_length_le (Nat.le_refl _), List.take_of_length_le (by omega)]
theorem cut_ge {xs : List D} (k : Nat) (h : k ≤ xs.length) : cutD xs (some (k : Int)) none = xs.drop k := by
  unfold cutD
  rw [HT.sIx_none, HT.sIx_nat, Nat.min_eq_left h]
  apply List.take_of_length_le
  simp
/-- ints below 10 ** 80 -/
def Sz (x : Int) : Prop := x.natAbs < 100000000000000000000000000000000000000000000000000000000000000000000000000000000
theorem Sz.of {x : Int} (h : -10000000000000000000000000000000000000000 < x ∧ x < 10000000000000000000000000000000000000000) : Sz x := by
  unfold Sz
  omega
theorem Sz.bg {x : Int} (h : Sz x) : x.natAbs < big := by
  have : (2:Nat)^300 ≤ big := show (2:Nat)^300 ≤ 2^4000 from Nat.pow_le_pow_right (n := 2) (by decide) (show 300 ≤ 4000 by decide)
  have h2 : (100000000000000000000000000000000000000000000000000000000000000000000000000000000 : Nat) ≤ 2^300 := by decide +kernel
  unfold Sz at h
  omega
theorem Sz.sm {x : Int} (h : Sz x) : Mir.sm (.int x) = true := by
  have h2 : (100000000000000000000000000000000000000000000000000000000000000000000000000000000 : Nat) ≤ 10^90 := by decide +kernel
  unfold Sz at h
  unfold Mir.sm
  exact decide_eq_true (by omega)
theorem prs_len (l : List Pr) : (prs l).length = l.length := by simp [prs]
theorem prs_app (a b : List Pr) : prs (a ++ b) = prs a ++ prs b := by simp [prs]
theorem prs_take (a : List Pr) (n : Nat) : (prs a).take n = prs (a.take n) := by simp [prs]
theorem Nm.okS {x : Str} (h : Nm x) : okS x := fun c hc => by
  have := h.2 c hc
  omega
theorem sm_strs : ∀ {l : List Str}, (∀ x ∈ l, Nm x) → sml (l.map .str) = true ∧ dpl (l.map .str) = 0 ∧ wtl (l.map .str) ≤ 9 * l.length
  | [], _ => ⟨rfl, rfl, Nat.zero_le _⟩
  | x :: l, h => by
    obtain ⟨h1, h2, h3⟩ := sm_strs (l := l) fun y hy => h y (List.mem_cons_of_mem _ hy)
    have hx := h x List.mem_cons_self
    refine ⟨?_, ?_, ?_⟩
    · simp only [List.map_cons, sml, sm, h1, strOk_of hx.okS, Bool.and_self]
    · simp only [List.map_cons, dpl, dp, h2, Nat.max_self]
    · simp only [List.map_cons, wtl, wt, List.length_cons]
      have := hx.1
      omega
theorem sm_prs : ∀ {l : List Pr}, (∀ q ∈ l, Sz q.1 ∧ Sz q.2) → sml (prs l) = true ∧ dpl (prs l) ≤ 1 ∧ wtl (prs l) ≤ 3 * l.length
  | [], _ => ⟨rfl, Nat.zero_le _, Nat.zero_le _⟩
  | q :: l, h => by
    obtain ⟨h1, h2, h3⟩ := sm_prs (l := l) fun y hy => h y (List.mem_cons_of_mem _ hy)
    obtain ⟨k1, k2⟩ := h q List.mem_cons_self
    have e : prs (q :: l) = .tup [.int q.1, .int q.2] :: prs l := rfl
    rw [e]
    refine ⟨?_, ?_, ?_⟩
    · simp only [sml, Mir.sm, h1]
      have a := k1.sm
      have b := k2.sm
      simp only [Mir.sm] at a b
      simp only [a, b, Bool.and_self]
    · simp only [dpl, dp]
      omega
    · simp only [wtl, wt, List.length_cons]
      omega
theorem se_strs : ∀ {l : List Str}, (∀ x ∈ l, Nm x) → sel (l.map .str) = true
  | [], _ => rfl
  | x :: l, h => by
    have h1 := se_strs (l := l) fun y hy => h y (List.mem_cons_of_mem _ hy)
    have hx := h x List.mem_cons_self
    simp only [List.map_cons, sel, se, h1, strOk_of hx.okS, Bool.and_self]
theorem se_prs : ∀ (l : List Pr), sel (prs l) = true ∧ dpl (prs l) ≤ 1
  | [] => ⟨rfl, Nat.zero_le _⟩
  | q :: l => by
    obtain ⟨h1, h2⟩ := se_prs l
    have e : prs (q :: l) = .tup [.int q.1, .int q.2] :: prs l := rfl
    rw [e]
    refine ⟨?_, ?_⟩
    · simp only [sel, se, h1, Bool.and_self]
    · simp only [dpl, dp]
      omega
theorem Se.strs {l : List Str} (h : ∀ x ∈ l, Nm x) : Se (.tup (l.map .str)) := ⟨se_strs h, by
  show dpl _ + 1 ≤ 12
  rw [(sm_strs h).2.1]
  decide⟩
theorem Se.prs (l : List Pr) : Se (.tup (Mir.prs l)) := ⟨(se_prs l).1, by
  show dpl _ + 1 ≤ 12
  have := (se_prs l).2
  omega⟩
theorem str_map_inj : ∀ {l m : List Str}, l.map D.str = m.map D.str → l = m
  | [], [], _ => rfl
  | [], _ :: _, h => by simp at h
  | _ :: _, [], h => by simp at h
  | a :: l, b :: m, h => by
    simp only [List.map_cons, List.cons.injEq, D.str.injEq] at h
    rw [h.1, str_map_inj h.2]
theorem sortS_sub {l : List Str} {x : Str} : x ∈ sortS l ↔ x ∈ l := (sortS_perm l).mem_iff
theorem sortS_len (l : List Str) : (sortS l).length = l.length := (sortS_perm l).length_eq
theorem sortS_sort (l : List Str) : sortS (sortS l) = sortS l := sortS_eq.mpr (sortS_perm l)
end Mir
set_option linter.all false
set_option maxRecDepth 100000
namespace Gk10
open PySem L2 Mir
/-! ### what is drawn: numbers, heads as models -/
theorem draw_e {c : Cell} (h : Rg c) {many : Int} (hm : 0 < many) (hm2 : many < 1000000000) : ∃ (r : Int) (c' : Cell), f__law_draw c [.int many] = some (.int r, c') ∧ 0 ≤ r ∧ r < many ∧ Rg c' := draw_rg h hm hm2
theorem choice_e {c : Cell} (h : Rg c) (ds : List D) (h1 : 0 < ds.length) (h2 : ds.length < 1000) : ∃ x c', f__law_choice c [.lst ds] = some (x, c') ∧ x ∈ ds ∧ Rg c' := choice_rg h ds h1 h2
theorem names_e {c : Cell} (h : Rg c) (many : Nat) (hm : many ≤ 20) : ∃ (ns : List Str) (c' : Cell), f__law_names c [.int (many : Int)] = some (.lst (ns.map .str), c') ∧ ns.length = many ∧ (∀ x ∈ ns, Nm x) ∧ ns.Nodup ∧ Rg c' := names_rg h many hm
theorem rng_e (ns : List Int) (k : Nat) (hk : k ≤ 100) : ∃ c, f__law_rng [.scr ns, .int (k : Int)] = some c ∧ Rg c := rng_rg ns k hk
theorem number_ok {c : Cell} (h : Rg c) : ∃ (z : Int) (c' : Cell), f__law_number c [] = some (.int z, c') ∧ (-1000000000000000000000000000000 < z ∧ z < 1000000000000000000000000000000) ∧ Rg c' := by
  obtain ⟨r1, c1, e1, a1, b1, h1⟩ := draw_e h (many := 9) (by decide) (by decide)
  obtain ⟨r2, c2, e2, a2, b2, h2⟩ := draw_e h1 (many := 99) (by decide) (by decide)
  obtain ⟨r3, c3, e3, a3, b3, h3⟩ := draw_e h2 (many := 9) (by decide) (by decide)
  obtain ⟨r4, c4, e4, a4, b4, h4⟩ := draw_e h3 (many := 9) (by decide) (by decide)
  obtain ⟨x, c5, e5, hx, h5⟩ := choice_e h4 [.int r1, .int r2, .int (1000000000 + r3), .int (100000000000000000000000000000 + r4)] (by simp) (by simp)
  obtain ⟨r6, c6, e6, a6, b6, h6⟩ := draw_e h5 (many := 2) (by decide) (by decide)
  have hx' : ∃ k : Int, x = .int k ∧ 0 ≤ k ∧ k < 1000000000000000000000000000000 := by
    simp only [List.mem_cons, List.not_mem_nil, or_false] at hx
    rcases hx with rfl | rfl | rfl | rfl <;> exact ⟨_, rfl, by omega, by omega⟩
  obtain ⟨k, rfl, k1, k2⟩ := hx'
  have hk : Sz k := Sz.of (by omega)
  have key : ∃ d c2, f__law_number c [] = some (d, c2) ∧ ((∃ z : Int, d = .int z ∧ (-1000000000000000000000000000000 < z ∧ z < 1000000000000000000000000000000)) ∧ Rg c2) := by
    have hr : r6 = 0 ∨ r6 = 1 := by omega
    refine runI_rt (sd := [.own c, .no]) rfl ?_
    unfold m__law_number
    repeat' (first | walk_at "wp" | fail)
    rcases hr with rfl | rfl
    · have hb : k.natAbs < big ∧ (1 : Int).natAbs < big := ⟨hk.bg, big_of (by decide) (by decide)⟩
      repeat' (first | walk_at "wp" | fail)
      exact ⟨_, _, _, rfl, rfl, ⟨_, rfl, by omega⟩, h6⟩
    · have hb : k.natAbs < big ∧ (-1 : Int).natAbs < big := ⟨hk.bg, big_of (by decide) (by decide)⟩
      repeat' (first | walk_at "wp" | fail)
      exact ⟨_, _, _, rfl, rfl, ⟨_, rfl, by omega⟩, h6⟩
  obtain ⟨d, c', e, ⟨z, rfl, hz⟩, hc⟩ := key
  exact ⟨z, c', e, hz, hc⟩
/-- a head as the law has it -/
structure Hd where
  nm : Str
  l : Int
  r : Int
  ks : List Str
  sp : Int
  ch : List Pr
def md (h : Hd) : D := .tup [.str h.nm, .int h.l, .int h.r, .lst (h.ks.map .str), .int h.sp, .lst (prs h.ch)]
/-- ticks rise -/
def Up (l : List Pr) : Prop := l.Pairwise fun a b => a.1 < b.1
/-- a head that the document lets, with numbers below b -/
structure Okb (b : Int) (h : Hd) : Prop where
  nm : Nm h.nm
  l : 1 ≤ h.l ∧ h.l < b
  r : 1 ≤ h.r ∧ h.r < b
  ks : (1 ≤ h.ks.length ∧ h.ks.length ≤ 4) ∧ (∀ x ∈ h.ks, Nm x) ∧ h.ks.Nodup
  sp : 0 ≤ h.sp ∧ h.sp < b
  ch : h.ch.length ≤ 3 ∧ Up h.ch ∧ ∀ q ∈ h.ch, (-b < q.1 ∧ q.1 < b) ∧ 0 ≤ q.2 ∧ q.2 < b
abbrev Ok (h : Hd) : Prop := Okb 10000000000000000000000000000000000000000 h
abbrev Ok0 (h : Hd) : Prop := Okb 100000000000000000000000000000000000 h
theorem Okb.mono {b c : Int} {h : Hd} (k : Okb b h) (hb : b ≤ c) : Okb c h :=
  ⟨k.nm, by have := k.l; omega, by have := k.r; omega, k.ks, by have := k.sp; omega, k.ch.1, k.ch.2.1, fun q hq => by
    have := k.ch.2.2 q hq
    omega⟩
theorem Okb.ok {h : Hd} (k : Ok0 h) : Ok h := k.mono (by decide)
theorem up_snoc {l : List Pr} {q : Pr} (h : Up l) (k : ∀ a ∈ l, a.1 < q.1) : Up (l ++ [q]) := by
  unfold Up
  rw [List.pairwise_append]
  refine ⟨h, by simp, ?_⟩
  intro a ha b hb
  have : b = q := by simpa using hb
  subst this
  exact k a ha
set_option maxHeartbeats 1000001 in
theorem head_ok {c : Cell} (h : Rg c) {ns : List Str} (hl : ns.length = 7) (hn : ∀ x ∈ ns, Nm x) (hd : ns.Nodup) : ∃ (g : Hd) (c' : Cell), f__law_head c [.lst (ns.map .str)] = some (md g, c') ∧ Ok0 g ∧ ns[0]? = some g.nm ∧ (∃ k, k ≤ 4 ∧ g.ks = (ns.drop 1).take k) ∧ Rg c' := by
  have key : ∃ d c2, f__law_head c [.lst (ns.map .str)] = some (d, c2) ∧ (∃ g : Hd, d = md g ∧ Ok0 g ∧ ns[0]? = some g.nm ∧ (∃ k, k ≤ 4 ∧ g.ks = (ns.drop 1).take k) ∧ Rg c2) := by
    refine runI_rt (sd := [.own c, .val (.lst (ns.map .str)), .no, .no, .no, .no, .no, .no]) rfl ?_
    unfold m__law_head
    repeat' (first | walk_at "wp" | fail)
    refine Wp.compC (fun i : Nat => D.int (i : Int)) (fun _ d => ∃ z : Int, d = .int z ∧ 1 ≤ z ∧ z ≤ 200000000000000000000) Rg (fun c => [.own c, .val (.lst (ns.map .str)), .no, .no, .no, .no, .no, .no]) (List.range 2) c ?_
    repeat' (first | walk_at "wp" | fail)
    refine ⟨rfl, by decide, rfl, h, fun _ => rfl, ?_, ?_⟩
    · intro i c _ hc
      obtain ⟨r1, c1, e1, a1, b1, h1⟩ := draw_e hc (many := 4) (by decide) (by decide)
      obtain ⟨r2, c2, e2, a2, b2, h2⟩ := draw_e h1 (many := 4) (by decide) (by decide)
      obtain ⟨x, c3, e3, hx, h3⟩ := choice_e h2 [.int r1, .int (100000000000000000000 + r2)] (by simp) (by simp)
      have hx' : ∃ k : Int, x = .int k ∧ 0 ≤ k ∧ k < 110000000000000000000 := by
        simp only [List.mem_cons, List.not_mem_nil, or_false] at hx
        rcases hx with rfl | rfl <;> exact ⟨_, rfl, by omega, by omega⟩
      obtain ⟨k, rfl, k1, k2⟩ := hx'
      repeat' (first | walk_at "wp" | fail)
      exact ⟨⟨_, rfl, by omega, by omega⟩, c3, h3, rfl⟩
    · intro ds c2 hds hc2
      obtain ⟨zs, rfl, hz1, hz2⟩ := fa2_ex (f := fun z : Int => D.int z) (P := fun z => 1 ≤ z ∧ z ≤ 200000000000000000000) hds fun _ d h => h
      obtain ⟨a, b, rfl⟩ : ∃ a b, zs = [a, b] := by
        match zs, hz2 with
        | [a, b], _ => exact ⟨a, b, rfl⟩
      have ha := hz1 a (by simp)
      have hb := hz1 b (by simp)
      obtain ⟨t0, c3, e3, ht, hc3⟩ := number_ok hc2
      obtain ⟨s3, c4, e4, hs1, hs2, hc4⟩ := draw_e hc3 (many := 9) (by decide) (by decide)
      obtain ⟨m, c5, e5, hm1, hm2, hc5⟩ := draw_e hc4 (many := 4) (by decide) (by decide)
      have hspd : ∀ x ∈ [D.int 0, .int 1, .int 2, .int (1000000000 - 1 - s3)], ∃ v : Int, x = .int v ∧ 0 ≤ v ∧ v < 1000000000 := by
        intro x hx
        simp only [List.mem_cons, List.not_mem_nil, or_false] at hx
        rcases hx with rfl | rfl | rfl | rfl <;> exact ⟨_, rfl, by omega, by omega⟩
      generalize hS : [D.int 0, .int 1, .int 2, .int (1000000000 - 1 - s3)] = S at *
      have hS4 : S.length = 4 := by rw [← hS]; rfl
      repeat' (first | walk_at "wp" | fail)
      rw [hS]
      repeat' (first | walk_at "wp" | fail)
      refine Wp.forInv (fun i : Nat => D.int (i : Int)) (fun don sd => ∃ (c : Cell) (s3 : Slot) (l : List Pr) (t : Int), Rg c ∧ l.length = don.length ∧ Up l ∧ (∀ q ∈ l, q.1 < t ∧ -1000000000000000000000000000000 < q.1 ∧ 0 ≤ q.2 ∧ q.2 < 1000000000) ∧ (-1000000000000000000000000000000 < t ∧ t < 1000000000000000000000000000000 + don.length * 200000000000000000000) ∧
        sd = [.own c, .val (.lst (ns.map .str)), .val (.lst [.int a, .int b]), s3, .own (.lst (prs l)), .val (.int t), .val (.lst S), .no]) _ ⟨c5, _, [], t0, hc5, rfl, List.Pairwise.nil, by simp, by simpa using ht, rfl⟩ ?_ ?_
      · rintro don i r sd e ⟨c, s3, l, t, hc, hll, hup, hq, ht, rfl⟩
        have hdl : don.length < 4 := by
          have := congrArg List.length e
          rw [List.length_range, List.length_append, List.length_cons] at this
          omega
        obtain ⟨x, c6, e6, hx, hc6⟩ := choice_e hc S (by omega) (by omega)
        obtain ⟨v, rfl, hv1, hv2⟩ := hspd x hx
        obtain ⟨r1, c7, e7, hr1, hr2, hc7⟩ := draw_e hc6 (many := 9) (by decide) (by decide)
        obtain ⟨r3, c8, e8, hr3, hr4, hc8⟩ := draw_e hc7 (many := 9) (by decide) (by decide)
        obtain ⟨y, c9, e9, hy, hc9⟩ := choice_e hc8 [.int 0, .int r1, .int (100000000000000000000 + r3)] (by simp) (by simp)
        have hy' : ∃ k : Int, y = .int k ∧ 0 ≤ k ∧ k < 110000000000000000000 := by
          simp only [List.mem_cons, List.not_mem_nil, or_false] at hy
          rcases hy with rfl | rfl | rfl <;> exact ⟨_, rfl, by omega, by omega⟩
        obtain ⟨k, rfl, k1, k2⟩ := hy'
        have hpl : (prs l).length < 100000 := by rw [prs_len]; omega
        repeat' (first | walk_at "wp" | fail)
        refine .inl ⟨rfl, c9, _, l ++ [(t, v)], _, hc9, by simp [hll], up_snoc hup (fun a ha => (hq a ha).1), ?_, ?_, by rw [prs_app]; rfl⟩
        · intro q hm
          rcases List.mem_append.mp hm with hm | hm
          · have := hq q hm
            omega
          · have : q = (t, v) := by simpa using hm
            subst this
            show t < _ ∧ _
            omega
        · simp only [List.length_append, List.length_cons, List.length_nil]
          omega
      · rintro sd ⟨c, s3, l, t, hc, hll, hup, hq, ht, rfl⟩
        rw [List.length_range] at hll ht
        obtain ⟨n0, rest, rfl⟩ : ∃ n0 rest, ns = n0 :: rest := by
          cases ns with
          | nil => simp at hl
          | cons a r => exact ⟨a, r, rfl⟩
        have hrl : rest.length = 6 := by simpa using hl
        obtain ⟨d, c6, e6, hd1, hd2, hc6⟩ := draw_e hc (many := 4) (by decide) (by decide)
        obtain ⟨x, c7, e7, hx, hc7⟩ := choice_e hc6 S (by omega) (by omega)
        obtain ⟨v, rfl, hv1, hv2⟩ := hspd x hx
        have ecut : sliceD (.lst ((n0 :: rest).map .str)) (some 1) (some (2 + d)) = some (.lst ((rest.take (1 + d).toNat).map .str)) := by
          have e2 : ((1 + d).toNat + 1 : Nat) = 2 + d := by omega
          show some (D.lst (cutD _ _ _)) = _
          rw [← e2]
          have := cut_nn (xs := (n0 :: rest).map D.str) 1 ((1 + d).toNat + 1) (by simp) (by simp; omega)
          rw [show ((1 : Nat) : Int) = 1 from rfl] at this
          rw [this]
          simp
        rw [List.map_cons] at *
        repeat' (first | ((with_reducible refine' Lf.ok ?h ?_); (case h => with_reducible first | exact ecut)) | walk_at "wp" | fail)
        refine ⟨_, _, _, rfl, rfl, ⟨n0, a, b, rest.take (1 + d).toNat, v, l⟩, rfl, ⟨hn n0 (by simp), by show 1 ≤ a ∧ a < _; omega, by show 1 ≤ b ∧ b < _; omega, ⟨?_, ?_, ?_⟩, by show 0 ≤ v ∧ v < _; omega, ?_, hup, ?_⟩, rfl, ⟨(1 + d).toNat, by omega, by simp⟩, hc7⟩
        · show 1 ≤ (rest.take _).length ∧ (rest.take _).length ≤ 4
          rw [List.length_take]
          omega
        · intro x hx
          exact hn x (List.mem_cons_of_mem _ (List.mem_of_mem_take hx))
        · exact (List.nodup_cons.mp hd).2.sublist (List.take_sublist _ _)
        · show l.length ≤ 3
          omega
        · intro q hm
          have := hq q hm
          omega
  obtain ⟨d, c', e, g, rfl, k⟩ := key
  exact ⟨g, c', e, k⟩
end Gk10
set_option linter.all false
set_option maxRecDepth 100000
namespace Gk10
open PySem L2 Mir
/-! ### the changes that are left, the speed at a step -/
def left : Int → List Pr → List Pr
  | _, [] => []
  | v, q :: r => if q.2 = v then left q.2 r else q :: left q.2 r
def spd : Int → List Pr → Int → Int
  | v, [], _ => v
  | v, q :: r, m => spd (if q.1 ≤ m then q.2 else v) r m
theorem left_mem : ∀ {l : List Pr} {v : Int} {q : Pr}, q ∈ left v l → q ∈ l
  | [], _, _, h => by simp [left] at h
  | a :: r, v, q, h => by
    unfold left at h
    split at h
    · exact List.mem_cons_of_mem _ (left_mem h)
    · rcases List.mem_cons.mp h with rfl | h
      · exact List.mem_cons_self
      · exact List.mem_cons_of_mem _ (left_mem h)
theorem left_len : ∀ (l : List Pr) (v : Int), (left v l).length ≤ l.length
  | [], _ => Nat.zero_le _
  | a :: r, v => by
    unfold left
    have := left_len r a.2
    split
    · rw [List.length_cons]; omega
    · rw [List.length_cons, List.length_cons]; omega
theorem left_up : ∀ {l : List Pr} {v : Int}, Up l → Up (left v l)
  | [], _, _ => List.Pairwise.nil
  | a :: r, v, h => by
    have h' := List.pairwise_cons.mp h
    unfold left
    split
    · exact left_up h'.2
    · exact List.pairwise_cons.mpr ⟨fun b hb => h'.1 b (left_mem hb), left_up h'.2⟩
theorem spd_far : ∀ (l : List Pr) (v m : Int), (∀ q ∈ l, m < q.1) → spd v l m = v
  | [], _, _, _ => rfl
  | a :: r, v, m, h => by
    unfold spd
    have := h a List.mem_cons_self
    rw [if_neg (by omega)]
    exact spd_far r v m fun q hq => h q (List.mem_cons_of_mem _ hq)
theorem spd_left : ∀ {l : List Pr} (v m : Int), Up l → spd v (left v l) m = spd v l m
  | [], _, _, _ => rfl
  | a :: r, v, m, h => by
    have h' := List.pairwise_cons.mp h
    have ih := spd_left a.2 m h'.2
    unfold left
    split
    · rename_i e
      rw [← e]
      show _ = spd (if a.1 ≤ m then a.2 else a.2) r m
      rw [ite_self]
      exact ih
    · show spd (if a.1 ≤ m then a.2 else v) (left a.2 r) m = spd (if a.1 ≤ m then a.2 else v) r m
      by_cases z : a.1 ≤ m
      · rw [if_pos z]
        exact ih
      · rw [if_neg z, spd_far, spd_far]
        · intro q hq
          have := h'.1 q hq
          omega
        · intro q hq
          have := h'.1 q (left_mem hq)
          omega
def mLeftB : M Out := (mSeq (mIf (tst (op2 neD (mVar 4) (mVar 0))) (mDrop (mAct1 2 actAppend (mTup (mCons (mVar 3) (mCons (mVar 4) mNil))))) (pur Out.nx))
  (mAsg (mVar 4) (mSet 0)))
theorem left_w (x : Slot) : ∀ (l acc : List Pr) (v : Int) (s3 s4 : Slot), acc.length + l.length ≤ 1000 →
    Wp (forM (mGtup [(mSet 3), (mSet 4)]) mLeftB (prs l)) [.val (.int v), x, .own (.lst (prs acc)), s3, s4] fun o sd => o = .nx ∧ ∃ s0 s3 s4, sd = [s0, x, .own (.lst (prs (acc ++ left v l))), s3, s4]
  | [], acc, v, s3, s4, _ => Wp.forNil ⟨rfl, _, _, _, by rw [left, List.append_nil]⟩
  | (t, u) :: r, acc, v, s3, s4, hl => by
    have e : prs ((t, u) :: r) = .tup [.int t, .int u] :: prs r := rfl
    rw [List.length_cons] at hl
    rw [e]
    refine Wp.forCons ?_
    unfold mLeftB
    repeat' (first | walk_at "wp" | fail)
    refine Br.dec (fun z => ?_) fun z => ?_
    · repeat' (first | walk_at "wp" | fail)
      refine (left_w x r acc u _ _ (by omega)).mono ?_
      rintro o sd ⟨rfl, s0, s3, s4, rfl⟩
      refine ⟨rfl, s0, s3, s4, ?_⟩
      rw [left, if_pos z]
    · have hp : (prs acc).length < 100000 := by rw [prs_len]; omega
      repeat' (first | walk_at "wp" | fail)
      have e2 : prs acc ++ [D.tup [.int t, .int u]] = prs (acc ++ [(t, u)]) := by rw [prs_app]; rfl
      rw [e2]
      refine (left_w x r (acc ++ [(t, u)]) u _ _ (by simp; omega)).mono ?_
      rintro o sd ⟨rfl, s0, s3, s4, rfl⟩
      refine ⟨rfl, s0, s3, s4, ?_⟩
      rw [left, if_neg z, List.append_assoc]
      rfl
theorem left_ok (v : Int) (l : List Pr) (hl : l.length ≤ 3) {x : D} (hx : x = .lst (prs l) ∨ x = .tup (prs l)) : f__law_left [.int v, x] = some (.tup (prs (left v l))) ∧ f_changes_left [.int v, x] = some (.tup (prs (left v l))) := by
  have hit : itemsD x = some (prs l) := by rcases hx with rfl | rfl <;> rfl
  constructor
  · refine runP_rt (sd := [.val (.int v), .val x, .no, .no, .no]) rfl ?_
    unfold m__law_left
    repeat' (first | walk_at "wp" | fail)
    refine (left_w (.val x) l [] v _ _ (by simp; omega)).mono ?_
    rintro o sd ⟨rfl, s0, s3, s4, rfl⟩
    repeat' (first | walk_at "wp" | fail)
    rfl
  · refine runP_rt (sd := [.val (.int v), .val x, .no, .no, .no]) rfl ?_
    unfold m_changes_left
    repeat' (first | walk_at "wp" | fail)
    refine (left_w (.val x) l [] v _ _ (by simp; omega)).mono ?_
    rintro o sd ⟨rfl, s0, s3, s4, rfl⟩
    repeat' (first | walk_at "wp" | fail)
    rfl
/-! ### what is checked -/
theorem leS_one (a c : Nat) : leS ⟨#[a]⟩ ⟨#[c]⟩ = decide (a ≤ c) := by
  show (!(decide (c < a) || (c == a && false))) = _
  rw [Bool.and_false, Bool.or_false, Bool.eq_iff_iff]
  simp
theorem isname_ok {x : Str} (h : Nm x) : f_is_name [.str x] = some (.bl true) := by
  have h1 : isiD tab_str (.str x) = some (.bl true) := rfl
  have h2 : lenD [.str x] = some (.int (x.length : Int)) := by
    obtain ⟨y, e, p⟩ := Lf.lenS (x := x) (P := fun d => d = .int (x.length : Int)) (by have := h.1; omega) rfl
    rw [e, p]
  have hl := h.1
  refine runP_rt (sd := [.val (.str x), .no]) rfl ?_
  unfold m_is_name
  repeat' (first | ((with_reducible refine' Lf.ok ?h ?_); (case h => with_reducible first | exact h1 | exact h2)) | walk_at "wp" | fail)
  refine Wp.comp (fun c : Nat => D.str ⟨#[c]⟩) (fun _ => true) (fun _ => .bl true) x.cps.toList ?_
  repeat' (first | walk_at "wp" | fail)
  refine ⟨rfl, by rw [Array.length_toList]; have : x.length = x.cps.size := rfl; omega, rfl, ?_, ?_⟩
  · intro c hc
    have hq := h.2 c hc
    have ea : leS "a" ⟨#[c]⟩ = true := by
      have := leS_one 97 c
      rw [show ("a" : Str) = ⟨#[97]⟩ from by decide +kernel, this]
      exact decide_eq_true hq.1
    have ez : leS ⟨#[c]⟩ "z" = true := by
      have := leS_one c 122
      rw [show ("z" : Str) = ⟨#[122]⟩ from by decide +kernel, this]
      exact decide_eq_true hq.2
    repeat' (first | walk_at "wp" | fail)
    refine ⟨rfl, ?_⟩
    repeat' (first | walk_at "wp" | fail)
    rw [ea]
    repeat' (first | walk_at "wp" | fail)
    rw [ez]
    exact ⟨rfl, rfl⟩
  · repeat' (first | walk_at "wp" | fail)
    simp
theorem check_name_ok {x : Str} (h : Nm x) : f_check_name [.str x] = some .non := by
  have h1 := isname_ok h
  refine runP_nx (sd := [.val (.str x)]) rfl ?_
  unfold m_check_name
  repeat' (first | ((with_reducible refine' Lf.ok ?h ?_); (case h => with_reducible first | exact h1)) | walk_at "wp" | fail)
  rfl
theorem is_integer_ok (i : Int) : f_is_integer [.int i] = some (.bl true) := by
  have h1 : isiD tab_int (.int i) = some (.bl true) := rfl
  have h2 : isiD tab_bool (.int i) = some (.bl false) := rfl
  refine runP_rt (sd := [.val (.int i)]) rfl ?_
  unfold m_is_integer
  repeat' (first | ((with_reducible refine' Lf.ok ?h ?_); (case h => with_reducible first | exact h1 | exact h2)) | walk_at "wp" | fail)
  rfl
theorem check_integer_ok (i : Int) : f_check_integer [.int i] = some .non := by
  have h1 := is_integer_ok i
  refine runP_nx (sd := [.val (.int i)]) rfl ?_
  unfold m_check_integer
  repeat' (first | ((with_reducible refine' Lf.ok ?h ?_); (case h => with_reducible first | exact h1)) | walk_at "wp" | fail)
  rfl
theorem is_positive_ok {i : Int} (h : 1 ≤ i) : f_is_positive [.int i] = some (.bl true) := by
  have h1 := is_integer_ok i
  refine runP_rt (sd := [.val (.int i)]) rfl ?_
  unfold m_is_positive
  repeat' (first | ((with_reducible refine' Lf.ok ?h ?_); (case h => with_reducible first | exact h1)) | walk_at "wp" | fail)
  rw [decide_eq_true h]
theorem check_positive_ok {i : Int} (h : 1 ≤ i) : f_check_positive [.int i] = some .non := by
  have h1 := is_positive_ok h
  refine runP_nx (sd := [.val (.int i)]) rfl ?_
  unfold m_check_positive
  repeat' (first | ((with_reducible refine' Lf.ok ?h ?_); (case h => with_reducible first | exact h1)) | walk_at "wp" | fail)
  rfl
theorem is_count_ok {i : Int} (h : 0 ≤ i) : f_is_count [.int i] = some (.bl true) := by
  have h1 := is_integer_ok i
  refine runP_rt (sd := [.val (.int i)]) rfl ?_
  unfold m_is_count
  repeat' (first | ((with_reducible refine' Lf.ok ?h ?_); (case h => with_reducible first | exact h1)) | walk_at "wp" | fail)
  rw [decide_eq_true h]
theorem check_count_ok {i : Int} (h : 0 ≤ i) : f_check_count [.int i] = some .non := by
  have h1 := is_count_ok h
  refine runP_nx (sd := [.val (.int i)]) rfl ?_
  unfold m_check_count
  repeat' (first | ((with_reducible refine' Lf.ok ?h ?_); (case h => with_reducible first | exact h1)) | walk_at "wp" | fail)
  rfl
theorem is_pair_ok (a b : Int) : f_is_pair [.tup [.int a, .int b]] = some (.bl true) := by
  have h0 : isiD tab_tuple (.tup [.int a, .int b]) = some (.bl true) := rfl
  have h1 := is_integer_ok a
  have h2 := is_integer_ok b
  refine runP_rt (sd := [.val (.tup [.int a, .int b])]) rfl ?_
  unfold m_is_pair
  repeat' (first | ((with_reducible refine' Lf.ok ?h ?_); (case h => with_reducible first | exact h0 | exact h1 | exact h2)) | walk_at "wp" | fail)
  refine Br.dec_t rfl ?_
  repeat' (first | ((with_reducible refine' Lf.ok ?h ?_); (case h => with_reducible first | exact h0 | exact h1 | exact h2)) | walk_at "wp" | fail)
  rfl
theorem is_list_ok {x : D} {xs : List D} (hx : x = .lst xs ∨ x = .tup xs) : f_is_list [x] = some (.bl true) := by
  have h0 : isiD tab_list_tuple x = some (.bl true) := by rcases hx with rfl | rfl <;> rfl
  refine runP_rt (sd := [.val x]) rfl ?_
  unfold m_is_list
  repeat' (first | ((with_reducible refine' Lf.ok ?h ?_); (case h => with_reducible first | exact h0)) | walk_at "wp" | fail)
  rfl
theorem check_kinds_ok {ks : List Str} (h1 : 1 ≤ ks.length ∧ ks.length ≤ 4) (h2 : ∀ x ∈ ks, Nm x) (h3 : ks.Nodup) {x : D} (hx : x = .lst (ks.map .str) ∨ x = .tup (ks.map .str)) : f_check_kinds [x, .int 4] = some .non := by
  have a1 := is_list_ok hx
  have a2 : lenD [x] = some (.int (ks.length : Int)) := by
    rcases hx with rfl | rfl
    · show some (D.int ((ks.map D.str).length : Int)) = _
      rw [List.length_map]
    · show some (D.int ((ks.map D.str).length : Int)) = _
      rw [List.length_map]
  have a3 : enumA [x] = some (ks.mapIdx fun i k => D.tup [.int (i : Int), .str k]) := by
    rw [← mapIdx_map2 (fun i d => D.tup [.int (i : Int), d]) D.str]
    rcases hx with rfl | rfl <;> rfl
  have a4 : ∀ n : Nat, ∃ y, sliceD x none (some (n : Int)) = some y ∧ (y = .lst ((ks.take n).map .str) ∨ y = .tup ((ks.take n).map .str)) := by
    intro n
    rcases hx with rfl | rfl
    · exact ⟨_, rfl, .inl (by rw [cut_le, List.map_take])⟩
    · exact ⟨_, rfl, .inr (by rw [cut_le, List.map_take])⟩
  refine runP_nx (sd := [.val x, .val (.int 4), .no, .no]) rfl ?_
  unfold m_check_kinds
  repeat' (first | ((with_reducible refine' Lf.ok ?h ?_); (case h => with_reducible first | exact a1 | exact a2 | exact a3)) | walk_at "wp" | fail)
  refine Wp.forIdx (fun i k => D.tup [.int (i : Int), .str k]) (fun _ sd => ∃ s2 s3, sd = [.val x, .val (.int 4), s2, s3]) ks ⟨_, _, rfl⟩ ?_ ?_
  · rintro don k r sd rfl ⟨s2, s3, rfl⟩
    have b1 := isname_ok (h2 k (by simp))
    obtain ⟨y, b2, hy⟩ := a4 don.length
    rw [List.take_left] at hy
    have hk : k ∉ don := by
      intro hm
      have := List.nodup_append.mp h3
      exact this.2.2 k hm k (by simp) rfl
    have b3 : inD false (.str k) y = some (.bl false) := by
      have hd : decide (k ∈ don) = false := decide_eq_false hk
      rcases hy with rfl | rfl
      · obtain ⟨d, e, p⟩ := Lf.inL (x := k) (l := don) (P := fun d => d = .bl false) (by rw [hd])
        rw [e, p]
      · obtain ⟨d, e, p⟩ := Lf.inT (x := k) (l := don) (P := fun d => d = .bl false) (by rw [hd])
        rw [e, p]
    repeat' (first | ((with_reducible refine' Lf.ok ?h ?_); (case h => with_reducible first | exact b1 | exact b2 | exact b3)) | walk_at "wp" | fail)
    exact .inl ⟨rfl, _, _, rfl⟩
  · rintro sd ⟨s2, s3, rfl⟩
    rfl
theorem check_changes_ok {l : List Pr} (h1 : l.length ≤ 3) (h2 : Up l) (h3 : ∀ q ∈ l, 0 ≤ q.2) {x : D} (hx : x = .lst (prs l) ∨ x = .tup (prs l)) : f_check_changes [x, .int 3] = some .non := by
  have a1 := is_list_ok hx
  have a2 : lenD [x] = some (.int (l.length : Int)) := by
    rcases hx with rfl | rfl
    · show some (D.int ((prs l).length : Int)) = _
      rw [prs_len]
    · show some (D.int ((prs l).length : Int)) = _
      rw [prs_len]
  have a3 : enumA [x] = some (l.mapIdx fun i q => D.tup [.int (i : Int), .tup [.int q.1, .int q.2]]) := by
    rw [← mapIdx_map2 (fun i d => D.tup [.int (i : Int), d]) (fun q : Pr => D.tup [.int q.1, .int q.2])]
    rcases hx with rfl | rfl <;> rfl
  have a4 : ∀ (n : Nat) (q : Pr), l[n]? = some q → ixD x (.int (n : Int)) = some (.tup [.int q.1, .int q.2]) := by
    intro n q h
    have hh : (prs l)[n]? = some (.tup [.int q.1, .int q.2]) := by
      unfold prs
      rw [List.getElem?_map, h]
      rfl
    have hz := Mir.atI_nat hh
    rcases hx with rfl | rfl <;> exact hz
  refine runP_nx (sd := [.val x, .val (.int 3), .no, .no]) rfl ?_
  unfold m_check_changes
  repeat' (first | ((with_reducible refine' Lf.ok ?h ?_); (case h => with_reducible first | exact a1 | exact a2 | exact a3)) | walk_at "wp" | fail)
  refine Wp.forIdx (fun i q => D.tup [.int (i : Int), .tup [.int q.1, .int q.2]]) (fun _ sd => ∃ s2 s3, sd = [.val x, .val (.int 3), s2, s3]) l ⟨_, _, rfl⟩ ?_ ?_
  · rintro don ⟨t, u⟩ r sd e ⟨s2, s3, rfl⟩
    have b1 := is_pair_ok t u
    have hu : 0 ≤ u := h3 (t, u) (by rw [e]; simp)
    repeat' (first | ((with_reducible refine' Lf.ok ?h ?_); (case h => with_reducible first | exact b1)) | walk_at "wp" | fail)
    rcases List.eq_nil_or_concat don with rfl | ⟨d0, ⟨t1, u1⟩, rfl⟩
    · refine Br.dec_f (by simp) ?_
      repeat' (first | walk_at "wp" | fail)
      exact .inl ⟨rfl, _, _, rfl⟩
    · have ht : t1 < t := by
        have := e ▸ h2
        unfold Up at this
        rw [List.concat_eq_append, List.append_assoc, List.singleton_append] at this
        have := (List.pairwise_cons.mp (List.pairwise_append.mp this).2.1).1 (t, u) (by simp)
        exact this
      have b2 := a4 d0.length (t1, u1) (by rw [e]; simp)
      have e3 : (((d0.concat (t1, u1)).length : Nat) : Int) - 1 = (d0.length : Int) := by
        rw [List.length_concat]
        omega
      refine Br.dec_t (by rw [List.length_concat]; omega) ?_
      repeat' (first | walk_at "wp" | fail)
      rw [e3]
      repeat' (first | ((with_reducible refine' Lf.ok ?h ?_); (case h => with_reducible first | exact b2)) | walk_at "wp" | fail)
      exact .inl ⟨rfl, _, _, rfl⟩
  · rintro sd ⟨s2, s3, rfl⟩
    rfl
/-! ### a head is made -/
def hF (h : Hd) : List D := [.str h.nm, .int h.l, .int h.r, .tup ((sortS h.ks).map .str), .int h.sp, .tup (prs (left h.sp h.ch))]
def hD (h : Hd) : D := .ins "Head" ["_name", "_left", "_right", "_kinds", "_speed", "_changes"] (hF h)
theorem init_ok {h : Hd} (k : Ok h) {x y : D} (hx : x = .lst (h.ks.map .str) ∨ x = .tup (h.ks.map .str)) (hy : y = .lst (prs h.ch) ∨ y = .tup (prs h.ch)) :
    f_Head_DinitD (.ins "Head" [] []) [.str h.nm, .int h.l, .int h.r, x, .int h.sp, y] = some (.non, .ins "Head" ["_name", "_left", "_right", "_kinds", "_speed", "_changes"] (hF h)) := by
  have a1 := check_name_ok k.nm
  have a2 := check_positive_ok k.l.1
  have a3 := check_positive_ok k.r.1
  have a4 := check_kinds_ok k.ks.1 k.ks.2.1 k.ks.2.2 hx
  have a5 := check_count_ok k.sp.1
  have a6 := check_changes_ok k.ch.1 k.ch.2.1 (fun q hq => (k.ch.2.2 q hq).2.1) hy
  have a7 := (left_ok h.sp h.ch k.ch.1 hy).2
  have a8 : sortD [x] = some (.lst ((sortS h.ks).map .str)) := by
    rcases hx with rfl | rfl
    · obtain ⟨d, e, p⟩ := Lf.sortL (l := h.ks) (P := fun d => d = .lst ((sortS h.ks).map .str)) (by have := k.ks.1; omega) rfl
      rw [e, p]
    · obtain ⟨d, e, p⟩ := Lf.sortT (l := h.ks) (P := fun d => d = .lst ((sortS h.ks).map .str)) (by have := k.ks.1; omega) rfl
      rw [e, p]
  have key : ∃ c, f_Head_DinitD (.ins "Head" [] []) [.str h.nm, .int h.l, .int h.r, x, .int h.sp, y] = some (.non, c) ∧ c = .ins "Head" ["_name", "_left", "_right", "_kinds", "_speed", "_changes"] (hF h) := by
    refine runI_nx (sd := [.own (.ins "Head" [] []), .val (.str h.nm), .val (.int h.l), .val (.int h.r), .val x, .val (.int h.sp), .val y]) rfl ?_
    unfold m_Head_DinitD
    repeat' (first | ((with_reducible refine' Lf.ok ?h ?_); (case h => with_reducible first | exact a1 | exact a2 | exact a3 | exact a4 | exact a5 | exact a6 | exact a7 | exact a8)) | walk_at "wp" | fail)
    refine ⟨⟨by decide +kernel, by decide⟩, ?_⟩
    repeat' (first | ((with_reducible refine' Lf.ok ?h ?_); (case h => with_reducible first | exact a1 | exact a2 | exact a3 | exact a4 | exact a5 | exact a6 | exact a7 | exact a8)) | walk_at "wp" | fail)
    refine ⟨⟨by decide +kernel, by decide⟩, ?_⟩
    repeat' (first | ((with_reducible refine' Lf.ok ?h ?_); (case h => with_reducible first | exact a1 | exact a2 | exact a3 | exact a4 | exact a5 | exact a6 | exact a7 | exact a8)) | walk_at "wp" | fail)
    refine ⟨⟨by decide +kernel, by decide⟩, ?_⟩
    repeat' (first | ((with_reducible refine' Lf.ok ?h ?_); (case h => with_reducible first | exact a1 | exact a2 | exact a3 | exact a4 | exact a5 | exact a6 | exact a7 | exact a8)) | walk_at "wp" | fail)
    refine ⟨⟨by decide +kernel, by decide⟩, ?_⟩
    repeat' (first | ((with_reducible refine' Lf.ok ?h ?_); (case h => with_reducible first | exact a1 | exact a2 | exact a3 | exact a4 | exact a5 | exact a6 | exact a7 | exact a8)) | walk_at "wp" | fail)
    refine ⟨⟨by decide +kernel, by decide⟩, ?_⟩
    repeat' (first | ((with_reducible refine' Lf.ok ?h ?_); (case h => with_reducible first | exact a1 | exact a2 | exact a3 | exact a4 | exact a5 | exact a6 | exact a7 | exact a8)) | walk_at "wp" | fail)
    refine ⟨⟨by decide +kernel, by decide⟩, ?_⟩
    repeat' (first | ((with_reducible refine' Lf.ok ?h ?_); (case h => with_reducible first | exact a1 | exact a2 | exact a3 | exact a4 | exact a5 | exact a6 | exact a7 | exact a8)) | walk_at "wp" | fail)
    exact ⟨_, _, rfl, rfl, rfl⟩
  obtain ⟨c, e, rfl⟩ := key
  exact e
end Gk10
set_option linter.all false
set_option maxRecDepth 100000
namespace Gk10
open PySem L2 Mir
/-! ### the six properties, the text, whether it is the head -/
theorem isK_hD (h : Hd) : isK "Head" (hD h) = true := rfl
theorem real_ok {h : Hd} (k : Ok h) : f__law_real [md h] = some (hD h) := by
  have a1 := init_ok k (.inl rfl) (.inl rfl)
  have i0 : ixD (md h) (.int 0) = some (.str h.nm) := rfl
  have i1 : ixD (md h) (.int 1) = some (.int h.l) := rfl
  have i2 : ixD (md h) (.int 2) = some (.int h.r) := rfl
  have i3 : ixD (md h) (.int 3) = some (.lst (h.ks.map .str)) := rfl
  have i4 : ixD (md h) (.int 4) = some (.int h.sp) := rfl
  have i5 : ixD (md h) (.int 5) = some (.lst (prs h.ch)) := rfl
  refine runP_rt (sd := [.val (md h)]) rfl ?_
  unfold m__law_real
  repeat' (first | ((with_reducible refine' Lf.ok ?h ?_); (case h => with_reducible first | exact i0 | exact i1 | exact i2 | exact i3 | exact i4 | exact i5)) | walk_at "wp" | fail)
  exact ⟨rfl, rfl⟩
theorem due_ok {h : Hd} (k : Ok h) : f__law_due [md h] = some (.lst (hF h)) := by
  have i0 : ixD (md h) (.int 0) = some (.str h.nm) := rfl
  have i1 : ixD (md h) (.int 1) = some (.int h.l) := rfl
  have i2 : ixD (md h) (.int 2) = some (.int h.r) := rfl
  have i3 : ixD (md h) (.int 3) = some (.lst (h.ks.map .str)) := rfl
  have i4 : ixD (md h) (.int 4) = some (.int h.sp) := rfl
  have i5 : ixD (md h) (.int 5) = some (.lst (prs h.ch)) := rfl
  have a1 := (left_ok h.sp h.ch k.ch.1 (.inl rfl)).1
  have hl : h.ks.length ≤ 100000 := by have := k.ks.1; omega
  refine runP_rt (sd := [.val (md h)]) rfl ?_
  unfold m__law_due
  repeat' (first | ((with_reducible refine' Lf.ok ?h ?_); (case h => with_reducible first | exact i0 | exact i1 | exact i2 | exact i3 | exact i4 | exact i5 | exact a1)) | walk_at "wp" | fail)
  rfl
theorem name_ok (h : Hd) : f_Head_name [hD h] = some (.str h.nm) := by
  refine runP_rt (sd := [.val (hD h)]) rfl ?_
  unfold m_Head_name
  have : fldD "Head" "_name" (hD h) = some (.str h.nm) := rfl
  repeat' (first | ((with_reducible refine' Lf.ok ?h ?_); (case h => with_reducible first | exact this)) | walk_at "wp" | fail)
  rfl
theorem left_p_ok (h : Hd) : f_Head_left [hD h] = some (.int h.l) := by
  refine runP_rt (sd := [.val (hD h)]) rfl ?_
  unfold m_Head_left
  have : fldD "Head" "_left" (hD h) = some (.int h.l) := rfl
  repeat' (first | ((with_reducible refine' Lf.ok ?h ?_); (case h => with_reducible first | exact this)) | walk_at "wp" | fail)
  rfl
theorem right_p_ok (h : Hd) : f_Head_right [hD h] = some (.int h.r) := by
  refine runP_rt (sd := [.val (hD h)]) rfl ?_
  unfold m_Head_right
  have : fldD "Head" "_right" (hD h) = some (.int h.r) := rfl
  repeat' (first | ((with_reducible refine' Lf.ok ?h ?_); (case h => with_reducible first | exact this)) | walk_at "wp" | fail)
  rfl
theorem kinds_ok (h : Hd) : f_Head_kinds [hD h] = some (.tup ((sortS h.ks).map .str)) := by
  refine runP_rt (sd := [.val (hD h)]) rfl ?_
  unfold m_Head_kinds
  have : fldD "Head" "_kinds" (hD h) = some (.tup ((sortS h.ks).map .str)) := rfl
  repeat' (first | ((with_reducible refine' Lf.ok ?h ?_); (case h => with_reducible first | exact this)) | walk_at "wp" | fail)
  rfl
theorem speed_ok (h : Hd) : f_Head_speed [hD h] = some (.int h.sp) := by
  refine runP_rt (sd := [.val (hD h)]) rfl ?_
  unfold m_Head_speed
  have : fldD "Head" "_speed" (hD h) = some (.int h.sp) := rfl
  repeat' (first | ((with_reducible refine' Lf.ok ?h ?_); (case h => with_reducible first | exact this)) | walk_at "wp" | fail)
  rfl
theorem changes_ok (h : Hd) : f_Head_changes [hD h] = some (.tup (prs (left h.sp h.ch))) := by
  refine runP_rt (sd := [.val (hD h)]) rfl ?_
  unfold m_Head_changes
  have : fldD "Head" "_changes" (hD h) = some (.tup (prs (left h.sp h.ch))) := rfl
  repeat' (first | ((with_reducible refine' Lf.ok ?h ?_); (case h => with_reducible first | exact this)) | walk_at "wp" | fail)
  rfl
theorem parts_ok (h : Hd) : f__law_parts [hD h] = some (.lst (hF h)) := by
  have a1 := name_ok h
  have a2 := left_p_ok h
  have a3 := right_p_ok h
  have a4 := kinds_ok h
  have a5 := speed_ok h
  have a6 := changes_ok h
  have hk := isK_hD h
  refine runP_rt (sd := [.val (hD h)]) rfl ?_
  unfold m__law_parts
  repeat' (first | ((with_reducible refine' Lf.ok ?h ?_); (case h => with_reducible first | exact a1 | exact a2 | exact a3 | exact a4 | exact a5 | exact a6)) | walk_at "wp" | fail)
  rfl
/-! shown -/
theorem Okb.sz {h : Hd} (k : Ok h) : Sz h.l ∧ Sz h.r ∧ Sz h.sp ∧ ∀ q ∈ h.ch, Sz q.1 ∧ Sz q.2 := by
  refine ⟨Sz.of ?_, Sz.of ?_, Sz.of ?_, fun q hq => ⟨Sz.of ?_, Sz.of ?_⟩⟩
  · have := k.l; omega
  · have := k.r; omega
  · have := k.sp; omega
  · have := k.ch.2.2 q hq; omega
  · have := k.ch.2.2 q hq; omega
theorem sm_int {i : Int} (h : Sz i) : Sm (.int i) := ⟨h.sm, Nat.zero_le _, Nat.zero_le _⟩
theorem sm_nm {x : Str} (h : Nm x) : Sm (.str x) := ⟨strOk_of h.okS, Nat.zero_le _, by show x.length ≤ 1000; have := h.1; omega⟩
theorem sm_kinds {l : List Str} (h : ∀ x ∈ l, Nm x) (hl : l.length ≤ 4) : Sm (.tup (l.map .str)) := by
  obtain ⟨h1, h2, h3⟩ := sm_strs h
  refine ⟨h1, ?_, ?_⟩
  · show dpl _ + 1 ≤ 12
    omega
  · show wtl _ ≤ 1000
    omega
theorem sm_ch {l : List Pr} (h : ∀ q ∈ l, Sz q.1 ∧ Sz q.2) (hl : l.length ≤ 3) : Sm (.tup (prs l)) := by
  obtain ⟨h1, h2, h3⟩ := sm_prs h
  refine ⟨h1, ?_, ?_⟩
  · show dpl _ + 1 ≤ 12
    omega
  · show wtl _ ≤ 1000
    omega
theorem Okb.kin {h : Hd} (k : Ok h) : (∀ x ∈ sortS h.ks, Nm x) ∧ (sortS h.ks).length ≤ 4 := ⟨fun x hx => k.ks.2.1 x (sortS_sub.mp hx), by rw [sortS_len]; exact k.ks.1.2⟩
theorem Okb.lef {h : Hd} (k : Ok h) : (∀ q ∈ left h.sp h.ch, Sz q.1 ∧ Sz q.2) ∧ (left h.sp h.ch).length ≤ 3 := ⟨fun q hq => k.sz.2.2.2 q (left_mem hq), Nat.le_trans (left_len _ _) k.ch.1⟩
theorem sm_parts {h : Hd} (k : Ok h) : Sm (.str h.nm) ∧ Sm (.int h.l) ∧ Sm (.int h.r) ∧ Sm (.tup ((sortS h.ks).map .str)) ∧ Sm (.int h.sp) ∧ Sm (.tup (prs (left h.sp h.ch))) :=
  ⟨sm_nm k.nm, sm_int k.sz.1, sm_int k.sz.2.1, sm_kinds k.kin.1 k.kin.2, sm_int k.sz.2.2.1, sm_ch k.lef.1 k.lef.2⟩
theorem sm_due {h : Hd} (k : Ok h) : Sm (.lst (hF h)) := by
  obtain ⟨k1, k2, k3⟩ := sm_strs k.kin.1
  obtain ⟨c1, c2, c3⟩ := sm_prs k.lef.1
  have l1 := k.kin.2
  have l2 := k.lef.2
  have hn := k.nm.1
  refine ⟨?_, ?_, ?_⟩
  · show sml (hF h) = true
    have e1 := (sm_int k.sz.1).1
    have e2 := (sm_int k.sz.2.1).1
    have e3 := (sm_int k.sz.2.2.1).1
    have e4 := (sm_nm k.nm).1
    unfold hF
    simp only [sml, Bool.and_eq_true]
    refine ⟨e4, e1, e2, ?_, e3, ?_, trivial⟩
    · show sml _ = true
      exact k1
    · show sml _ = true
      exact c1
  · show dpl (hF h) + 1 ≤ 12
    unfold hF
    simp only [dpl, dp]
    omega
  · show wtl (hF h) ≤ 1000
    unfold hF
    simp only [wtl, wt]
    omega
noncomputable def txt (h : Hd) : Str := "Head(" ++ Str.join ", " [shD (.str h.nm), shD (.int h.l), shD (.int h.r), shD (.tup ((sortS h.ks).map .str)), shD (.int h.sp), shD (.tup (prs (left h.sp h.ch)))] ++ ")"
theorem len_parts {h : Hd} (k : Ok h) : (shD (.str h.nm)).length ≤ 900 ∧ (shD (.int h.l)).length ≤ 100 ∧ (shD (.int h.r)).length ≤ 100 ∧ (shD (.tup ((sortS h.ks).map .str))).length ≤ 4000 ∧ (shD (.int h.sp)).length ≤ 100 ∧ (shD (.tup (prs (left h.sp h.ch)))).length ≤ 1000 := by
  obtain ⟨s1, s2, s3, s4, s5, s6⟩ := sm_parts k
  have n1 := shD_len s1
  have n2 := shD_len s2
  have n3 := shD_len s3
  have n4 := shD_len s4
  have n5 := shD_len s5
  have n6 := shD_len s6
  have k3 := (sm_strs k.kin.1).2.2
  have c3 := (sm_prs k.lef.1).2.2
  have l1 := k.kin.2
  have l2 := k.lef.2
  have hn := k.nm.1
  simp only [wt] at n1 n2 n3 n4 n5 n6
  omega
theorem repr_ok {h : Hd} (k : Ok h) : reprO f_Head_DreprD "Head" [hD h] = some (.str (txt h)) := by
  obtain ⟨s1, s2, s3, s4, s5, s6⟩ := sm_parts k
  have r1 : fmtRD (.str h.nm) = some (.str (shD (.str h.nm))) := reprX_sm s1
  have r2 : fmtD (.int h.l) = some (.str (shD (.int h.l))) := reprX_sm s2
  have r3 : fmtD (.int h.r) = some (.str (shD (.int h.r))) := reprX_sm s3
  have r4 : fmtD (.tup ((sortS h.ks).map .str)) = some (.str (shD (.tup ((sortS h.ks).map .str)))) := reprX_sm s4
  have r5 : fmtD (.int h.sp) = some (.str (shD (.int h.sp))) := reprX_sm s5
  have r6 : fmtD (.tup (prs (left h.sp h.ch))) = some (.str (shD (.tup (prs (left h.sp h.ch))))) := reprX_sm s6
  have f1 : fldD "Head" "_name" (hD h) = some (.str h.nm) := rfl
  have f2 : fldD "Head" "_left" (hD h) = some (.int h.l) := rfl
  have f3 : fldD "Head" "_right" (hD h) = some (.int h.r) := rfl
  have f4 : fldD "Head" "_kinds" (hD h) = some (.tup ((sortS h.ks).map .str)) := rfl
  have f5 : fldD "Head" "_speed" (hD h) = some (.int h.sp) := rfl
  have f6 : fldD "Head" "_changes" (hD h) = some (.tup (prs (left h.sp h.ch))) := rfl
  obtain ⟨n1, n2, n3, n4, n5, n6⟩ := len_parts k
  have key : f_Head_DreprD [hD h] = some (.str (txt h)) := by
    refine runP_rt (sd := [.val (hD h)]) rfl ?_
    unfold m_Head_DreprD
    repeat' (first | ((with_reducible refine' Lf.ok ?h ?_); (case h => with_reducible first | exact f1 | exact f2 | exact f3 | exact f4 | exact f5 | exact f6 | exact r1 | exact r2 | exact r3 | exact r4 | exact r5 | exact r6)) | walk_at "wp" | fail)
    unfold txt
    generalize shD (.str h.nm) = t1 at *
    generalize shD (.int h.l) = t2 at *
    generalize shD (.int h.r) = t3 at *
    generalize shD (.tup ((sortS h.ks).map .str)) = t4 at *
    generalize shD (.int h.sp) = t5 at *
    generalize shD (.tup (prs (left h.sp h.ch))) = t6 at *
    have b1 : ("Head(" : Str).length = 5 := by decide +kernel
    have b2 : (", " : Str).length = 2 := by decide +kernel
    have b3 : (")" : Str).length = 1 := by decide +kernel
    have b0 : Str.empty.length = 0 := rfl
    repeat (refine Lf.catC (by simp only [Str.length_append, b0, b1, b2, b3]; omega) ?_)
    refine Lf.catN ?_
    simp only [Str.join, Str.append_assoc, Str.empty_append]
  show (match f_Head_DreprD [hD h] with
    | some (.str y) => some (D.str y)
    | _ => none) = _
  rw [key]
theorem txt_okS {h : Hd} (k : Ok h) : okS (txt h) := by
  obtain ⟨s1, s2, s3, s4, s5, s6⟩ := sm_parts k
  unfold txt
  refine okS_app (okS_app (okS_str _) (okS_join _ ?_)) (okS_str _)
  intro t ht
  simp only [List.mem_cons, List.not_mem_nil, or_false] at ht
  rcases ht with rfl | rfl | rfl | rfl | rfl | rfl
  · exact shD_ok s1
  · exact shD_ok s2
  · exact shD_ok s3
  · exact shD_ok s4
  · exact shD_ok s5
  · exact shD_ok s6
theorem is_head_ok {h : Hd} (k : Ok h) : f__law_is_head [hD h, md h] = some (.bl true) := by
  have a1 := due_ok k
  have a2 := parts_ok h
  have a3 := repr_ok k
  have a4 : reprX [.lst (hF h)] = some (.str (shD (.lst (hF h)))) := reprX_sm (sm_due k)
  obtain ⟨s1, s2, s3, s4, s5, s6⟩ := sm_parts k
  obtain ⟨n1, n2, n3, n4, n5, n6⟩ := len_parts k
  have ss := shD_ok (sm_due k)
  have st := txt_okS k
  have e1 := eqD_se (Se.str ss) (Se.str ss)
  rw [eqB_self] at e1
  have e2 := eqD_se (Se.str st) (Se.str st)
  rw [eqB_self] at e2
  refine runP_rt (sd := [.val (hD h), .val (md h), .no, .no]) rfl ?_
  unfold m__law_is_head
  repeat' (first | ((with_reducible refine' Lf.ok ?h ?_); (case h => with_reducible first | exact a1 | exact a2 | exact a3 | exact a4 | exact e1)) | walk_at "wp" | fail)
  refine Wp.comp (fun d : D => d) (fun _ => true) (fun d => .str (shD d)) (hF h) ?_
  repeat' (first | walk_at "wp" | fail)
  refine ⟨by rw [List.map_id'], by show 6 ≤ 50000; decide, rfl, ?_, ?_⟩
  · intro d hd
    have hs : Sm d := by
      unfold hF at hd
      simp only [List.mem_cons, List.not_mem_nil, or_false] at hd
      rcases hd with rfl | rfl | rfl | rfl | rfl | rfl <;> assumption
    have r := reprX_sm hs
    repeat' (first | ((with_reducible refine' Lf.ok ?h ?_); (case h => with_reducible first | exact r)) | walk_at "wp" | fail)
    refine ⟨rfl, ?_⟩
    repeat' (first | ((with_reducible refine' Lf.ok ?h ?_); (case h => with_reducible first | exact r)) | walk_at "wp" | fail)
    exact ⟨rfl, rfl⟩
  · have ef : ((hF h).filter fun _ => true).map (fun d => D.str (shD d)) = [shD (.str h.nm), shD (.int h.l), shD (.int h.r), shD (.tup ((sortS h.ks).map .str)), shD (.int h.sp), shD (.tup (prs (left h.sp h.ch)))].map D.str := by
      rw [List.filter_eq_self.mpr fun _ _ => rfl]
      rfl
    rw [ef]
    have ej : joinD (.str ", ") (.lst ([shD (.str h.nm), shD (.int h.l), shD (.int h.r), shD (.tup ((sortS h.ks).map .str)), shD (.int h.sp), shD (.tup (prs (left h.sp h.ch)))].map D.str)) = some (.str (Str.join ", " [shD (.str h.nm), shD (.int h.l), shD (.int h.r), shD (.tup ((sortS h.ks).map .str)), shD (.int h.sp), shD (.tup (prs (left h.sp h.ch)))])) := by
      unfold joinD
      have b2 : (", " : Str).length = 2 := by decide +kernel
      simp only [itemsD, strsD_map, b2]
      rw [if_pos (by simp only [List.map_cons, List.map_nil, List.sum_cons, List.sum_nil, List.length_cons, List.length_nil]; omega)]
      exact congrArg (fun z => some (D.str z)) (StrLaws.glued_eq_join ", " _)
    have b1 : ("Head(" : Str).length = 5 := by decide +kernel
    have b2 : (", " : Str).length = 2 := by decide +kernel
    have b3 : (")" : Str).length = 1 := by decide +kernel
    have hj : (Str.join ", " [shD (.str h.nm), shD (.int h.l), shD (.int h.r), shD (.tup ((sortS h.ks).map .str)), shD (.int h.sp), shD (.tup (prs (left h.sp h.ch)))]).length ≤ 7000 := by
      simp only [Str.join, Str.length_append, b2]
      omega
    have et : ("Head(" ++ Str.join ", " [shD (.str h.nm), shD (.int h.l), shD (.int h.r), shD (.tup ((sortS h.ks).map .str)), shD (.int h.sp), shD (.tup (prs (left h.sp h.ch)))] ++ ")" : Str) = txt h := rfl
    generalize Str.join ", " [shD (.str h.nm), shD (.int h.l), shD (.int h.r), shD (.tup ((sortS h.ks).map .str)), shD (.int h.sp), shD (.tup (prs (left h.sp h.ch)))] = J at *
    clear a3 a4 e1 a1 a2 ss st s1 s2 s3 s4 s5 s6 n1 n2 n3 n4 n5 n6 ef
    have y1 : addD (.str "Head(") (.str J) = some (.str ("Head(" ++ J)) := by
      refine if_pos ?_
      rw [b1]
      omega
    have y2 : addD (.str ("Head(" ++ J)) (.str ")") = some (.str (txt h)) := by
      rw [← et]
      refine if_pos ?_
      rw [Str.length_append, b1, b3]
      omega
    repeat' (first | ((with_reducible refine' Lf.ok ?h ?_); (case h => with_reducible first | exact ej | exact y1 | exact y2 | exact e2)) | walk_at "wp" | fail)
    rfl
end Gk10
set_option linter.all false
set_option maxRecDepth 100000
namespace Gk10
open PySem L2 Mir
/-! ### what a head is asked: the speed at a step, what it does -/
def mSpdB : M Out := (mIf (tst (op2 leD (mVar 3) (mVar 1))) (mAsg (mVar 4) (mSet 2)) (pur Out.nx))
theorem spd_w (x : Slot) (m : Int) : ∀ (l : List Pr) (v : Int) (s3 s4 : Slot),
    Wp (forM (mGtup [(mSet 3), (mSet 4)]) mSpdB (prs l)) [x, .val (.int m), .val (.int v), s3, s4] fun o sd => o = .nx ∧ ∃ s3 s4, sd = [x, .val (.int m), .val (.int (spd v l m)), s3, s4]
  | [], v, s3, s4 => Wp.forNil ⟨rfl, _, _, rfl⟩
  | (t, u) :: r, v, s3, s4 => by
    have e : prs ((t, u) :: r) = .tup [.int t, .int u] :: prs r := rfl
    rw [e]
    refine Wp.forCons ?_
    unfold mSpdB
    repeat' (first | walk_at "wp" | fail)
    refine Br.dec (fun z => ?_) fun z => ?_
    · repeat' (first | walk_at "wp" | fail)
      refine (spd_w x m r u _ _).mono ?_
      rintro o sd ⟨rfl, s3, s4, rfl⟩
      refine ⟨rfl, s3, s4, ?_⟩
      rw [spd, if_pos z]
    · repeat' (first | walk_at "wp" | fail)
      refine (spd_w x m r v _ _).mono ?_
      rintro o sd ⟨rfl, s3, s4, rfl⟩
      refine ⟨rfl, s3, s4, ?_⟩
      rw [spd, if_neg z]
theorem speed_at_ok (h : Hd) (m : Int) : f_Head_speed_at [hD h, .int m] = some (.int (spd h.sp (left h.sp h.ch) m)) := by
  have a1 := check_integer_ok m
  have f1 : fldD "Head" "_speed" (hD h) = some (.int h.sp) := rfl
  have f2 : fldD "Head" "_changes" (hD h) = some (.tup (prs (left h.sp h.ch))) := rfl
  refine runP_rt (sd := [.val (hD h), .val (.int m), .no, .no, .no]) rfl ?_
  unfold m_Head_speed_at
  repeat' (first | ((with_reducible refine' Lf.ok ?h ?_); (case h => with_reducible first | exact a1 | exact f1 | exact f2)) | walk_at "wp" | fail)
  refine (spd_w (.val (hD h)) m _ _ _ _).mono ?_
  rintro o sd ⟨rfl, s3, s4, rfl⟩
  repeat' (first | walk_at "wp" | fail)
  rfl
def mSpdC : M Out := (mAsg (mIf (tst (op2 leD (mVar 3) (mVar 1))) (mVar 4) (mVar 2)) (mSet 2))
theorem spd_w2 (x : Slot) (m : Int) : ∀ (l : List Pr) (v : Int) (s3 s4 : Slot),
    Wp (forM (mGtup [(mSet 3), (mSet 4)]) mSpdC (prs l)) [x, .val (.int m), .val (.int v), s3, s4] fun o sd => o = .nx ∧ ∃ s3 s4, sd = [x, .val (.int m), .val (.int (spd v l m)), s3, s4]
  | [], v, s3, s4 => Wp.forNil ⟨rfl, _, _, rfl⟩
  | (t, u) :: r, v, s3, s4 => by
    have e : prs ((t, u) :: r) = .tup [.int t, .int u] :: prs r := rfl
    rw [e]
    refine Wp.forCons ?_
    unfold mSpdC
    repeat' (first | walk_at "wp" | fail)
    refine Br.dec (fun z => ?_) fun z => ?_
    · repeat' (first | walk_at "wp" | fail)
      refine (spd_w2 x m r u _ _).mono ?_
      rintro o sd ⟨rfl, s3, s4, rfl⟩
      refine ⟨rfl, s3, s4, ?_⟩
      rw [spd, if_pos z]
    · repeat' (first | walk_at "wp" | fail)
      refine (spd_w2 x m r v _ _).mono ?_
      rintro o sd ⟨rfl, s3, s4, rfl⟩
      refine ⟨rfl, s3, s4, ?_⟩
      rw [spd, if_neg z]
theorem law_speed_ok (h : Hd) (m : Int) : f__law_speed [md h, .int m] = some (.int (spd h.sp h.ch m)) := by
  have i4 : ixD (md h) (.int 4) = some (.int h.sp) := rfl
  have i5 : ixD (md h) (.int 5) = some (.lst (prs h.ch)) := rfl
  refine runP_rt (sd := [.val (md h), .val (.int m), .no, .no, .no]) rfl ?_
  unfold m__law_speed
  repeat' (first | ((with_reducible refine' Lf.ok ?h ?_); (case h => with_reducible first | exact i4 | exact i5)) | walk_at "wp" | fail)
  refine (spd_w2 (.val (md h)) m _ _ _ _).mono ?_
  rintro o sd ⟨rfl, s3, s4, rfl⟩
  repeat' (first | walk_at "wp" | fail)
  rfl
theorem steps_ok {c : Cell} (hc : Rg c) {h : Hd} (k : Ok h) : ∃ (zs : List Int) (c' : Cell), f__law_steps c [md h] = some (.lst (zs.map .int), c') ∧ zs.length ≤ 100 ∧ Rg c' := by
  obtain ⟨z, c1, e1, hz, hc1⟩ := number_ok hc
  have i5 : ixD (md h) (.int 5) = some (.lst (prs h.ch)) := rfl
  have key : ∃ d c2, f__law_steps c [md h] = some (d, c2) ∧ ∃ zs : List Int, d = .lst (zs.map .int) ∧ zs.length ≤ 100 ∧ Rg c2 := by
    refine runI_rt (sd := [.own c, .val (md h), .no, .no, .no]) rfl ?_
    unfold m__law_steps
    repeat' (first | ((with_reducible refine' Lf.ok ?h ?_); (case h => with_reducible first | exact e1 | exact i5)) | walk_at "wp" | fail)
    refine Wp.forInv (fun q : Pr => D.tup [.int q.1, .int q.2]) (fun don sd => ∃ (zs : List Int) (s3 s4 : Slot), zs.length = 4 + 3 * don.length ∧ sd = [.own c1, .val (md h), .own (.lst (zs.map .int)), s3, s4]) h.ch ⟨[z, 1000000000000000000000000000000 - 1, 1 - 1000000000000000000000000000000, 0], _, _, rfl, rfl⟩ ?_ ?_
    · rintro don ⟨t, u⟩ r sd e ⟨zs, s3, s4, hz, rfl⟩
      have hd : don.length ≤ 3 := by
        have := congrArg List.length e
        have := k.ch.1
        rw [List.length_append, List.length_cons] at *
        omega
      have hzl : (zs.map D.int).length ≤ 100 := by rw [List.length_map]; omega
      repeat' (first | walk_at "wp" | fail)
      refine .inl ⟨rfl, zs ++ [t - 1, t, t + 1], _, _, by simp; omega, by rw [List.map_append]; rfl⟩
    · rintro sd ⟨zs, s3, s4, hz, rfl⟩
      have := k.ch.1
      repeat' (first | walk_at "wp" | fail)
      exact ⟨_, _, _, rfl, rfl, zs, rfl, by omega, hc1⟩
  obtain ⟨d, c', e, zs, rfl, hz⟩ := key
  exact ⟨zs, c', e, hz⟩
theorem does_str (h : Hd) (x : Str) : f_Head_does [hD h, .str x] = some (.bl (decide (x ∈ h.ks))) := by
  have a1 : isiD tab_str (.str x) = some (.bl true) := rfl
  have f1 : fldD "Head" "_kinds" (hD h) = some (.tup ((sortS h.ks).map .str)) := rfl
  have e : decide (x ∈ sortS h.ks) = decide (x ∈ h.ks) := by rw [Bool.eq_iff_iff, decide_eq_true_iff, decide_eq_true_iff, sortS_sub]
  refine runP_rt (sd := [.val (hD h), .val (.str x)]) rfl ?_
  unfold m_Head_does
  repeat' (first | ((with_reducible refine' Lf.ok ?h ?_); (case h => with_reducible first | exact a1 | exact f1)) | walk_at "wp" | fail)
  rw [e]
theorem does_no (h : Hd) {d : D} (hd : isiD tab_str d = some (.bl false)) : f_Head_does [hD h, d] = some (.bl false) := by
  refine runP_rt (sd := [.val (hD h), .val d]) rfl ?_
  unfold m_Head_does
  repeat' (first | ((with_reducible refine' Lf.ok ?h ?_); (case h => with_reducible first | exact hd)) | walk_at "wp" | fail)
  rfl
theorem sm_two {a b : D} (ha : Sm a) (hb : Sm b) (h : dp a ≤ 10 ∧ dp b ≤ 10 ∧ wt a ≤ 400 ∧ wt b ≤ 400) : Sm (.lst [a, b]) := by
  refine ⟨?_, ?_, ?_⟩
  · show sml [a, b] = true
    simp only [sml, ha.1, hb.1, Bool.and_self]
  · show dpl [a, b] + 1 ≤ 12
    simp only [dpl]
    omega
  · show wtl [a, b] ≤ 1000
    simp only [wtl]
    omega
theorem sm_bl2 (b : Bool) : Sm (.lst [.bl b, .bl b]) := sm_two ⟨rfl, Nat.zero_le _, Nat.zero_le _⟩ ⟨rfl, Nat.zero_le _, Nat.zero_le _⟩ ⟨Nat.zero_le _, Nat.zero_le _, Nat.zero_le _, Nat.zero_le _⟩
theorem spd_sz : ∀ (l : List Pr) (v m : Int), Sz v → (∀ q ∈ l, Sz q.2) → Sz (spd v l m)
  | [], _, _, h, _ => h
  | a :: r, v, m, h, k => by
    rw [spd]
    refine spd_sz r _ m ?_ fun q hq => k q (List.mem_cons_of_mem _ hq)
    split
    · exact k a List.mem_cons_self
    · exact h
theorem ne_text {d : D} (h : Sm d) : neD (.str (shD d)) (.str (shD d)) = some (.bl false) := by
  have := neD_se (Se.str (shD_ok h)) (Se.str (shD_ok h))
  rw [eqB_self] at this
  exact this
set_option maxHeartbeats 1000001 in
theorem is_told_ok {c : Cell} (hc : Rg c) {h : Hd} (k : Ok h) : ∃ c', f__law_is_told c [hD h, md h] = some (.bl true, c') ∧ Rg c' := by
  obtain ⟨zs, c1, e1, hz, hc1⟩ := steps_ok hc k
  have i0 : ixD (md h) (.int 0) = some (.str h.nm) := rfl
  have i3 : ixD (md h) (.int 3) = some (.lst (h.ks.map .str)) := rfl
  have hk := isK_hD h
  have hC1 : isC "Head" "speed_at" (hD h) = true := rfl
  have hC2 : isC "Head" "does" (hD h) = true := rfl
  obtain ⟨x0, r0, eks⟩ : ∃ x r, h.ks = x :: r := by
    have := k.ks.1.1
    cases e : h.ks with
    | nil => rw [e] at this; simp at this
    | cons x r => exact ⟨x, r, rfl⟩
  have hx0 : Nm x0 := k.ks.2.1 x0 (by rw [eks]; simp)
  have j0 : ixD (.lst (h.ks.map .str)) (.int 0) = some (.str x0) := by rw [eks]; exact atI_0
  have u1 : upperD (.str x0) = some (.str (Txt.upper x0)) := if_pos (by have := hx0.1; omega)
  have u2 : addD (.str x0) (.str "q") = some (.str (x0 ++ "q")) := by
    refine if_pos ?_
    have := hx0.1
    show _ + 1 ≤ _
    omega
  have u3 : sliceD (.str x0) none (some (-1)) = some (.str (cutS x0 none (some (-1)))) := if_pos (by have := hx0.1; omega)
  have key : ∃ d c2, f__law_is_told c [hD h, md h] = some (d, c2) ∧ (d = .bl true ∧ Rg c2) := by
    refine runI_rt (sd := [.own c, .val (hD h), .val (md h), .no, .no, .no, .no]) rfl ?_
    unfold m__law_is_told
    repeat' (first | ((with_reducible refine' Lf.ok ?h ?_); (case h => with_reducible first | exact e1)) | walk_at "wp" | fail)
    refine Wp.forInv (fun z : Int => D.int z) (fun _ sd => ∃ s3, sd = [.own c1, .val (hD h), .val (md h), s3, .no, .no, .no]) zs ⟨_, rfl⟩ ?_ ?_
    · rintro don z r sd e ⟨s3, rfl⟩
      have a1 := speed_at_ok h z
      have a2 := law_speed_ok h z
      rw [spd_left _ _ k.ch.2.1] at a1
      have hs : Sz (spd h.sp h.ch z) := spd_sz _ _ _ k.sz.2.2.1 fun q hq => (k.sz.2.2.2 q hq).2
      generalize spd h.sp h.ch z = v at *
      have hv : Sm (.lst [.int v, .int v]) := sm_two (sm_int hs) (sm_int hs) ⟨Nat.zero_le _, Nat.zero_le _, Nat.zero_le _, Nat.zero_le _⟩
      have a3 := reprX_sm hv
      have a4 := ne_text hv
      repeat' (first | ((with_reducible refine' Lf.ok ?h ?_); (case h => with_reducible first | exact a1 | exact a2 | exact a3 | exact a4)) | walk_at "wp" | fail)
      exact .inl ⟨rfl, _, rfl⟩
    · rintro sd ⟨s3, rfl⟩
      repeat' (first | ((with_reducible refine' Lf.ok ?h ?_); (case h => with_reducible first | exact i0 | exact i3 | exact j0 | exact u1 | exact u2 | exact u3)) | walk_at "wp" | fail)
      have hod : ∀ d ∈ [D.non, .int 0, .bl true, .str "", .lst [], .dct [] [], .tup [.str x0], .lst [.str x0], .str (Txt.upper x0), .str (x0 ++ "q"), .str (cutS x0 none (some (-1))), .str h.nm, .lst (h.ks.map .str)], isiD tab_str d = some (.bl false) ∨ ∃ x, d = .str x := by
        intro d hd
        simp only [List.mem_cons, List.not_mem_nil, or_false] at hd
        rcases hd with rfl | rfl | rfl | rfl | rfl | rfl | rfl | rfl | rfl | rfl | rfl | rfl | rfl <;> first | exact .inl rfl | exact .inr ⟨_, rfl⟩
      have hod2 : [D.non, .int 0, .bl true, .str "", .lst [], .dct [] [], .tup [.str x0], .lst [.str x0], .str (Txt.upper x0), .str (x0 ++ "q"), .str (cutS x0 none (some (-1))), .str h.nm, .lst (h.ks.map .str)].length = 13 := rfl
      generalize [D.non, .int 0, .bl true, .str "", .lst [], .dct [] [], .tup [.str x0], .lst [.str x0], .str (Txt.upper x0), .str (x0 ++ "q"), .str (cutS x0 none (some (-1))), .str h.nm, .lst (h.ks.map .str)] = od at *
      refine Lf.addL (by rw [hod2, List.length_map]; have := k.ks.1; omega) ?_
      repeat' (first | walk_at "wp" | fail)
      have hall : ∀ d ∈ h.ks.map D.str ++ od, isiD tab_str d = some (.bl false) ∨ ∃ x, d = .str x := by
        intro d hd
        rcases List.mem_append.mp hd with hd | hd
        · obtain ⟨x, _, rfl⟩ := List.mem_map.mp hd
          exact .inr ⟨x, rfl⟩
        · exact hod d hd
      generalize h.ks.map D.str ++ od = al at *
      rw [show Mir.forM (mSet 6) = Mir.forM (mSet 6) from rfl]
      have em : al = al.map fun d => d := by rw [List.map_id']
      rw [em]
      refine Wp.forInv (fun d : D => d) (fun _ sd => ∃ s6, sd = [.own c1, .val (hD h), .val (md h), s3, .val (.str x0), .val (.lst od), s6]) al ⟨_, rfl⟩ ?_ ?_
      · rintro don d r sd e ⟨s6, rfl⟩
        have hd := hall d (by rw [e]; simp)
        rcases hd with hd | ⟨x, rfl⟩
        · have a1 := does_no h hd
          have a3 := reprX_sm (sm_bl2 false)
          have a4 := ne_text (sm_bl2 false)
          repeat' (first | ((with_reducible refine' Lf.ok ?h ?_); (case h => with_reducible first | exact hd | exact a1 | exact a3 | exact a4)) | walk_at "wp" | fail)
          exact .inl ⟨rfl, _, rfl⟩
        · have a0 : isiD tab_str (.str x) = some (.bl true) := rfl
          have a1 := does_str h x
          have a3 := reprX_sm (sm_bl2 (decide (x ∈ h.ks)))
          have a4 := ne_text (sm_bl2 (decide (x ∈ h.ks)))
          repeat' (first | ((with_reducible refine' Lf.ok ?h ?_); (case h => with_reducible first | exact a0 | exact i3 | exact a1 | exact a3 | exact a4)) | walk_at "wp" | fail)
          exact .inl ⟨rfl, _, rfl⟩
      · rintro sd ⟨s6, rfl⟩
        repeat' (first | walk_at "wp" | fail)
        exact ⟨_, _, _, rfl, rfl, rfl, hc1⟩
  obtain ⟨d, c', e, rfl, hc'⟩ := key
  exact ⟨c', e, hc'⟩
end Gk10
set_option linter.all false
set_option maxRecDepth 100000
namespace Gk10
open PySem L2 Mir
/-! ### heads with one part otherwise -/
def enumCh : Nat → List Pr → List Pr
  | _, [] => []
  | i, q :: r => (q.1, (q.2 + (i : Int) + 1) % 3) :: enumCh (i + 1) r
theorem enumCh_len : ∀ (i : Nat) (l : List Pr), (enumCh i l).length = l.length
  | _, [] => rfl
  | i, q :: r => by rw [enumCh, List.length_cons, List.length_cons, enumCh_len]
theorem enumCh_mem : ∀ {i : Nat} {l : List Pr} {q : Pr}, q ∈ enumCh i l → (∃ p ∈ l, p.1 = q.1) ∧ 0 ≤ q.2 ∧ q.2 < 3
  | _, [], _, h => by simp [enumCh] at h
  | i, a :: r, q, h => by
    rw [enumCh] at h
    rcases List.mem_cons.mp h with rfl | h
    · refine ⟨⟨a, List.mem_cons_self, rfl⟩, ?_⟩
      show 0 ≤ (a.2 + (i : Int) + 1) % 3 ∧ (a.2 + (i : Int) + 1) % 3 < 3
      omega
    · obtain ⟨⟨p, hp, e⟩, k⟩ := enumCh_mem h
      exact ⟨⟨p, List.mem_cons_of_mem _ hp, e⟩, k⟩
theorem enumCh_up : ∀ {i : Nat} {l : List Pr}, Up l → Up (enumCh i l)
  | _, [], _ => List.Pairwise.nil
  | i, a :: r, h => by
    have h' := List.pairwise_cons.mp h
    rw [enumCh]
    refine List.pairwise_cons.mpr ⟨?_, enumCh_up h'.2⟩
    intro b hb
    obtain ⟨⟨p, hp, e⟩, _⟩ := enumCh_mem hb
    have := h'.1 p hp
    show a.1 < b.1
    omega
def fEn : D → D
  | .tup [.int i, .tup [.int t, .int u]] => .tup [.int t, .int ((u + i + 1) % 3)]
  | _ => .non
theorem en_map : ∀ (i : Nat) (l : List Pr), (l.mapIdx fun j q => D.tup [.int ((i + j : Nat) : Int), .tup [.int q.1, .int q.2]]).map fEn = prs (enumCh i l)
  | _, [] => rfl
  | i, a :: r => by
    have ih := en_map (i + 1) r
    rw [List.mapIdx_cons, List.map_cons, enumCh]
    have e : (r.mapIdx fun j q => D.tup [.int ((i + (j + 1) : Nat) : Int), .tup [.int q.1, .int q.2]]) = r.mapIdx fun j q => D.tup [.int ((i + 1 + j : Nat) : Int), .tup [.int q.1, .int q.2]] := by
      congr 1
      funext j q
      rw [show i + (j + 1) = i + 1 + j by omega]
    rw [e, ih]
    rfl
def othersL (h : Hd) (n5 n6 : Str) (v : Int) (n : Nat) : List Hd :=
  [{ h with ks := h.ks.reverse }, { h with ch := left h.sp h.ch }, { h with nm := n5 }, { h with l := h.l + 1 }, { h with r := h.r + 1 }, { h with l := h.r, r := h.l },
   { h with ks := n6 :: h.ks.drop 1 }, { h with ks := h.ks.take (max 1 (h.ks.length - 1)) }, { h with sp := v }, { h with ch := enumCh 0 h.ch }, { h with ch := h.ch.map fun q => (q.1 + 1, q.2) }, { h with ch := h.ch.take n }]
theorem others_all {h : Hd} (k : Ok0 h) {n5 n6 : Str} {v : Int} {n : Nat} (h5 : Nm n5) (h6 : Nm n6) (h6k : n6 ∉ h.ks) (hv : 0 ≤ v ∧ v < 3) : ∀ o ∈ othersL h n5 n6 v n, Ok o := by
  have k' := k.ok
  have hl := k.l
  have hr := k.r
  intro o ho
  unfold othersL at ho
  simp only [List.mem_cons, List.not_mem_nil, or_false] at ho
  rcases ho with rfl | rfl | rfl | rfl | rfl | rfl | rfl | rfl | rfl | rfl | rfl | rfl
  · refine { k' with ks := ⟨by simpa using k.ks.1, fun x hx => k.ks.2.1 x (by simpa using hx), ?_⟩ }
    show h.ks.reverse.Nodup
    exact (List.reverse_perm h.ks).nodup_iff.mpr k.ks.2.2
  · exact { k' with ch := ⟨Nat.le_trans (left_len _ _) k.ch.1, left_up k.ch.2.1, fun q hq => k'.ch.2.2 q (left_mem hq)⟩ }
  · exact { k' with nm := h5 }
  · exact { k' with l := ⟨by show 1 ≤ h.l + 1; omega, by show h.l + 1 < _; omega⟩ }
  · exact { k' with r := ⟨by show 1 ≤ h.r + 1; omega, by show h.r + 1 < _; omega⟩ }
  · exact { k' with l := k'.r, r := k'.l }
  · refine { k' with ks := ⟨⟨by simp, ?_⟩, ?_, ?_⟩ }
    · show (n6 :: h.ks.drop 1).length ≤ 4
      have := k.ks.1
      rw [List.length_cons, List.length_drop]
      omega
    · intro x hx
      rcases List.mem_cons.mp hx with rfl | hx
      · exact h6
      · exact k.ks.2.1 x (List.mem_of_mem_drop hx)
    · show (n6 :: h.ks.drop 1).Nodup
      exact List.nodup_cons.mpr ⟨fun hm => h6k (List.mem_of_mem_drop hm), k.ks.2.2.sublist (List.drop_sublist _ _)⟩
  · refine { k' with ks := ⟨⟨?_, ?_⟩, ?_, ?_⟩ }
    · show 1 ≤ (h.ks.take _).length
      have := k.ks.1
      rw [List.length_take]
      omega
    · show (h.ks.take _).length ≤ 4
      have := k.ks.1
      rw [List.length_take]
      omega
    · exact fun x hx => k.ks.2.1 x (List.mem_of_mem_take hx)
    · exact k.ks.2.2.sublist (List.take_sublist _ _)
  · exact { k' with sp := ⟨hv.1, by show v < _; omega⟩ }
  · refine { k' with ch := ⟨by rw [enumCh_len]; exact k.ch.1, enumCh_up k.ch.2.1, ?_⟩ }
    intro q hq
    obtain ⟨⟨p, hp, e⟩, h1, h2⟩ := enumCh_mem hq
    have := k'.ch.2.2 p hp
    omega
  · refine { k' with ch := ⟨by rw [List.length_map]; exact k.ch.1, ?_, ?_⟩ }
    · show (h.ch.map _).Pairwise _
      rw [List.pairwise_map]
      exact k.ch.2.1.imp fun {a b} hab => by show a.1 + 1 < b.1 + 1; omega
    · intro q hq
      obtain ⟨p, hp, rfl⟩ := List.mem_map.mp hq
      have := k.ch.2.2 p hp
      show (_ < p.1 + 1 ∧ p.1 + 1 < _) ∧ 0 ≤ p.2 ∧ p.2 < _
      omega
  · exact { k' with ch := ⟨by rw [List.length_take]; have := k.ch.1; omega, k.ch.2.1.sublist (List.take_sublist _ _), fun q hq => k'.ch.2.2 q (List.mem_of_mem_take hq)⟩ }
set_option maxHeartbeats 2000001 in
theorem others_ok {c : Cell} (hc : Rg c) {h : Hd} (k : Ok0 h) {ns : List Str} {n5 n6 : Str} (h5 : ns[5]? = some n5) (h6 : ns[6]? = some n6) : ∃ (v : Int) (n : Nat) (c' : Cell), f__law_others c [md h, .lst (ns.map .str)] = some (.lst ((othersL h n5 n6 v n).map md), c') ∧ (0 ≤ v ∧ v < 3) ∧ Rg c' := by
  have hkl : h.ks.length ≤ 4 := k.ks.1.2
  have hk1 : 1 ≤ h.ks.length := k.ks.1.1
  have hcl : h.ch.length ≤ 3 := k.ch.1
  obtain ⟨x, c1, e1, hx, hc1⟩ := choice_e hc [.int 0, .int 1, .int 2] (by decide) (by decide)
  obtain ⟨v, rfl, hv⟩ : ∃ v : Int, x = .int v ∧ 0 ≤ v ∧ v < 3 := by
    simp only [List.mem_cons, List.not_mem_nil, or_false] at hx
    rcases hx with rfl | rfl | rfl <;> exact ⟨_, rfl, by decide, by decide⟩
  obtain ⟨r, c2, e2, hr1, hr2, hc2⟩ := draw_e hc1 (many := 4) (by decide) (by decide)
  obtain ⟨n, rfl⟩ := Int.eq_ofNat_of_zero_le hr1
  have i0 : ixD (md h) (.int 0) = some (.str h.nm) := rfl
  have i1 : ixD (md h) (.int 1) = some (.int h.l) := rfl
  have i2 : ixD (md h) (.int 2) = some (.int h.r) := rfl
  have i3 : ixD (md h) (.int 3) = some (.lst (h.ks.map .str)) := rfl
  have i4 : ixD (md h) (.int 4) = some (.int h.sp) := rfl
  have i5 : ixD (md h) (.int 5) = some (.lst (prs h.ch)) := rfl
  have p1 : sliceD (md h) none (some 1) = some (.tup [.str h.nm]) := rfl
  have p2 : sliceD (md h) none (some 2) = some (.tup [.str h.nm, .int h.l]) := rfl
  have p3 : sliceD (md h) none (some 3) = some (.tup [.str h.nm, .int h.l, .int h.r]) := rfl
  have p4 : sliceD (md h) none (some 4) = some (.tup [.str h.nm, .int h.l, .int h.r, .lst (h.ks.map .str)]) := rfl
  have p5 : sliceD (md h) none (some 5) = some (.tup [.str h.nm, .int h.l, .int h.r, .lst (h.ks.map .str), .int h.sp]) := rfl
  have q1 : sliceD (md h) (some 1) none = some (.tup [.int h.l, .int h.r, .lst (h.ks.map .str), .int h.sp, .lst (prs h.ch)]) := rfl
  have q2 : sliceD (md h) (some 2) none = some (.tup [.int h.r, .lst (h.ks.map .str), .int h.sp, .lst (prs h.ch)]) := rfl
  have q3 : sliceD (md h) (some 3) none = some (.tup [.lst (h.ks.map .str), .int h.sp, .lst (prs h.ch)]) := rfl
  have q4 : sliceD (md h) (some 4) none = some (.tup [.int h.sp, .lst (prs h.ch)]) := rfl
  have q5 : sliceD (md h) (some 5) none = some (.tup [.lst (prs h.ch)]) := rfl
  have rv : revD (.lst (h.ks.map .str)) = some (.lst (h.ks.reverse.map .str)) := by
    show some (D.lst (h.ks.map D.str).reverse) = _
    rw [List.map_reverse]
  have a1 := (left_ok h.sp h.ch hcl (.inl rfl)).1
  have n5e : ixD (.lst (ns.map .str)) (.int 5) = some (.str n5) := by
    have hh : (ns.map D.str)[5]? = some (.str n5) := by rw [List.getElem?_map, h5]; rfl
    exact Mir.atI_nat hh
  have n6e : ixD (.lst (ns.map .str)) (.int 6) = some (.str n6) := by
    have hh : (ns.map D.str)[6]? = some (.str n6) := by rw [List.getElem?_map, h6]; rfl
    exact Mir.atI_nat hh
  have s1 : sliceD (.lst (h.ks.map .str)) (some 1) none = some (.lst ((h.ks.drop 1).map .str)) := by
    show some (D.lst (cutD _ _ _)) = _
    have := cut_ge (xs := h.ks.map D.str) 1 (by rw [List.length_map]; omega)
    rw [show ((1 : Nat) : Int) = 1 from rfl] at this
    rw [this, List.map_drop]
  have hdl : ((h.ks.drop 1).map D.str).length ≤ 4 := by rw [List.length_map, List.length_drop]; omega
  have s2 : sliceD (.lst (h.ks.map .str)) none (some (if ((h.ks.map D.str).length : Int) - 1 > 1 then ((h.ks.map D.str).length : Int) - 1 else 1)) = some (.lst ((h.ks.take (max 1 (h.ks.length - 1))).map .str)) := by
    have e : (if ((h.ks.map D.str).length : Int) - 1 > 1 then ((h.ks.map D.str).length : Int) - 1 else 1) = ((max 1 (h.ks.length - 1) : Nat) : Int) := by
      rw [List.length_map]
      split <;> omega
    rw [e]
    show some (D.lst (cutD _ _ _)) = _
    rw [cut_le, List.map_take]
  have s3 : sliceD (.lst (prs h.ch)) none (some (n : Int)) = some (.lst (prs (h.ch.take n))) := by
    show some (D.lst (cutD _ _ _)) = _
    rw [cut_le, prs_take]
  have key : ∃ d c', f__law_others c [md h, .lst (ns.map .str)] = some (d, c') ∧ (d = .lst ((othersL h n5 n6 v n).map md) ∧ Rg c') := by
    refine runI_rt (sd := [.own c, .val (md h), .val (.lst (ns.map .str)), .no, .no, .no, .no, .no, .no]) rfl ?_
    unfold m__law_others
    repeat' (first | ((with_reducible refine' Lf.ok ?h ?_); (case h => with_reducible first | exact i0 | exact i1 | exact i2 | exact i3 | exact i4 | exact i5 | exact p1 | exact p2 | exact p3 | exact p4 | exact p5 | exact q1 | exact q2 | exact q3 | exact q4 | exact q5 | exact rv | exact a1 | exact n5e | exact n6e | exact s1 | exact s2 | exact s3 | exact e1)) | walk_at "wp" | fail)
    simp only [List.cons_append, List.nil_append]
    refine Wp.comp (fun d : D => d) (fun _ => true) fEn (h.ch.mapIdx fun j q => D.tup [.int ((0 + j : Nat) : Int), .tup [.int q.1, .int q.2]]) ?_
    repeat' (first | walk_at "wp" | fail)
    refine ⟨?_, by rw [List.length_mapIdx]; omega, rfl, ?_, ?_⟩
    · rw [List.map_id']
      show (h.ch.map pr).mapIdx _ = _
      rw [mapIdx_map2]
      simp only [Nat.zero_add]
      rfl
    · intro a ha
      obtain ⟨j, hj, rfl⟩ := List.mem_mapIdx.mp ha
      repeat' (first | walk_at "wp" | fail)
      refine ⟨rfl, ?_⟩
      repeat' (first | walk_at "wp" | fail)
      exact ⟨rfl, rfl⟩
    · rw [List.filter_eq_self.mpr fun _ _ => rfl, en_map]
      repeat' (first | ((with_reducible refine' Lf.ok ?h ?_); (case h => with_reducible first | exact p5)) | walk_at "wp" | fail)
      simp only [List.cons_append, List.nil_append]
      refine Wp.comp (fun q : Pr => D.tup [.int q.1, .int q.2]) (fun _ => true) (fun q : Pr => D.tup [.int (q.1 + 1), .int q.2]) h.ch ?_
      repeat' (first | walk_at "wp" | fail)
      refine ⟨rfl, by omega, rfl, ?_, ?_⟩
      · intro a ha
        repeat' (first | walk_at "wp" | fail)
        refine ⟨rfl, ?_⟩
        repeat' (first | walk_at "wp" | fail)
        exact ⟨rfl, rfl⟩
      · rw [List.filter_eq_self.mpr fun _ _ => rfl]
        have em : (h.ch.map fun q : Pr => D.tup [.int (q.1 + 1), .int q.2]) = prs (h.ch.map fun q => (q.1 + 1, q.2)) := by
          unfold prs
          rw [List.map_map]
          rfl
        rw [em]
        repeat' (first | ((with_reducible refine' Lf.ok ?h ?_); (case h => with_reducible first | exact p5 | exact s3)) | walk_at "wp" | fail)
        simp only [List.cons_append, List.nil_append]
        exact ⟨_, _, _, rfl, rfl, rfl, hc2⟩
  obtain ⟨d, c', e, rfl, hc'⟩ := key
  exact ⟨v, n, c', e, hv, hc'⟩
end Gk10
set_option linter.all false
set_option maxRecDepth 100000
namespace Gk10
open PySem L2 Mir
/-! ### equal, otherwise by with_speed, copies -/
theorem se_due {h : Hd} (k : Ok h) : Se (.lst (hF h)) := by
  have e1 := (Se.strs k.kin.1)
  have e2 := Se.prs (left h.sp h.ch)
  refine ⟨?_, ?_⟩
  · show sel (hF h) = true
    unfold hF
    have e1' : sel ((sortS h.ks).map .str) = true := e1.1
    have e2' : sel (prs (left h.sp h.ch)) = true := e2.1
    simp only [sel, e1', e2', Bool.and_true, se, strOk_of k.nm.okS]
  · show dpl (hF h) + 1 ≤ 12
    have a := (sm_strs k.kin.1).2.1
    have b := (se_prs (left h.sp h.ch)).2
    unfold hF
    simp only [dpl, dp]
    omega
theorem se_due_t {h : Hd} (k : Ok h) : Se (.tup (hF h)) := se_due k
theorem hD_inj {g h : Hd} : hD g = hD h ↔ hF g = hF h := by
  unfold hD
  simp
set_option maxHeartbeats 1000001 in
theorem eq_ok {g h : Hd} (kg : Ok g) (kh : Ok h) : f_Head_DeqD [hD g, hD h] = some (.bl (eqB (.lst (hF g)) (.lst (hF h)))) := by
  have a0 : isiD tab_Head (hD h) = some (.bl true) := rfl
  have f1 : ∀ h, fldD "Head" "_name" (hD h) = some (.str h.nm) := fun _ => rfl
  have f2 : ∀ h, fldD "Head" "_left" (hD h) = some (.int h.l) := fun _ => rfl
  have f3 : ∀ h, fldD "Head" "_right" (hD h) = some (.int h.r) := fun _ => rfl
  have f4 : ∀ h, fldD "Head" "_kinds" (hD h) = some (.tup ((sortS h.ks).map .str)) := fun _ => rfl
  have f5 : ∀ h, fldD "Head" "_speed" (hD h) = some (.int h.sp) := fun _ => rfl
  have f6 : ∀ h, fldD "Head" "_changes" (hD h) = some (.tup (prs (left h.sp h.ch))) := fun _ => rfl
  have e1 := eqD_se (Se.str kg.nm.okS) (Se.str kh.nm.okS)
  have e2 := eqD_se (Se.int (i := g.l)) (Se.int (i := h.l))
  have e3 := eqD_se (Se.int (i := g.r)) (Se.int (i := h.r))
  have e4 := eqD_se (Se.strs kg.kin.1) (Se.strs kh.kin.1)
  have e5 := eqD_se (Se.int (i := g.sp)) (Se.int (i := h.sp))
  have e6 := eqD_se (Se.prs (left g.sp g.ch)) (Se.prs (left h.sp h.ch))
  have ez : eqB (.lst (hF g)) (.lst (hF h)) = (eqB (.str g.nm) (.str h.nm) && (eqB (.int g.l) (.int h.l) && (eqB (.int g.r) (.int h.r) && (eqB (.tup ((sortS g.ks).map .str)) (.tup ((sortS h.ks).map .str)) && (eqB (.int g.sp) (.int h.sp) && eqB (.tup (prs (left g.sp g.ch))) (.tup (prs (left h.sp h.ch)))))))) := by
    refine eqB_of ?_
    simp only [Bool.and_eq_true, eqB_iff, hF, D.lst.injEq, List.cons.injEq, and_true]
  rw [ez]
  refine runP_rt (sd := [.val (hD g), .val (hD h)]) rfl ?_
  unfold m_Head_DeqD
  generalize eqB (.str g.nm) (.str h.nm) = b1 at *
  generalize eqB (.int g.l) (.int h.l) = b2 at *
  generalize eqB (.int g.r) (.int h.r) = b3 at *
  generalize eqB (.tup ((sortS g.ks).map .str)) (.tup ((sortS h.ks).map .str)) = b4 at *
  generalize eqB (.int g.sp) (.int h.sp) = b5 at *
  generalize eqB (.tup (prs (left g.sp g.ch))) (.tup (prs (left h.sp h.ch))) = b6 at *
  repeat' (first | ((with_reducible refine' Lf.ok ?h ?_); (case h => with_reducible first | exact a0 | exact f1 g | exact f1 h | exact f2 g | exact f2 h | exact f3 g | exact f3 h | exact f4 g | exact f4 h | exact f5 g | exact f5 h | exact f6 g | exact f6 h | exact e1 | exact e2 | exact e3 | exact e4 | exact e5 | exact e6)) | walk_at "wp" | fail)
  cases b1
  · rfl
  repeat' (first | ((with_reducible refine' Lf.ok ?h ?_); (case h => with_reducible first | exact a0 | exact f1 g | exact f1 h | exact f2 g | exact f2 h | exact f3 g | exact f3 h | exact f4 g | exact f4 h | exact f5 g | exact f5 h | exact f6 g | exact f6 h | exact e1 | exact e2 | exact e3 | exact e4 | exact e5 | exact e6)) | walk_at "wp" | fail)
  cases b2
  · rfl
  repeat' (first | ((with_reducible refine' Lf.ok ?h ?_); (case h => with_reducible first | exact a0 | exact f1 g | exact f1 h | exact f2 g | exact f2 h | exact f3 g | exact f3 h | exact f4 g | exact f4 h | exact f5 g | exact f5 h | exact f6 g | exact f6 h | exact e1 | exact e2 | exact e3 | exact e4 | exact e5 | exact e6)) | walk_at "wp" | fail)
  cases b3
  · rfl
  repeat' (first | ((with_reducible refine' Lf.ok ?h ?_); (case h => with_reducible first | exact a0 | exact f1 g | exact f1 h | exact f2 g | exact f2 h | exact f3 g | exact f3 h | exact f4 g | exact f4 h | exact f5 g | exact f5 h | exact f6 g | exact f6 h | exact e1 | exact e2 | exact e3 | exact e4 | exact e5 | exact e6)) | walk_at "wp" | fail)
  cases b4
  · rfl
  repeat' (first | ((with_reducible refine' Lf.ok ?h ?_); (case h => with_reducible first | exact a0 | exact f1 g | exact f1 h | exact f2 g | exact f2 h | exact f3 g | exact f3 h | exact f4 g | exact f4 h | exact f5 g | exact f5 h | exact f6 g | exact f6 h | exact e1 | exact e2 | exact e3 | exact e4 | exact e5 | exact e6)) | walk_at "wp" | fail)
  cases b5
  · rfl
  repeat' (first | ((with_reducible refine' Lf.ok ?h ?_); (case h => with_reducible first | exact a0 | exact f1 g | exact f1 h | exact f2 g | exact f2 h | exact f3 g | exact f3 h | exact f4 g | exact f4 h | exact f5 g | exact f5 h | exact f6 g | exact f6 h | exact e1 | exact e2 | exact e3 | exact e4 | exact e5 | exact e6)) | walk_at "wp" | fail)
  rfl
theorem beside_h (g h : Hd) : besideD "Head" allT (hD g) (hD h) = true := rfl
theorem eqOwn_ok {g h : Hd} (kg : Ok g) (kh : Ok h) : eqOwnD f_Head_DeqD "Head" allT (hD g) (hD h) = some (.bl (eqB (.lst (hF g)) (.lst (hF h)))) := by
  show (if besideD "Head" allT (hD g) (hD h) = true then f_Head_DeqD [hD g, hD h] else none) = _
  rw [if_pos (beside_h g h), eq_ok kg kh]
theorem neOwn_ok {g h : Hd} (kg : Ok g) (kh : Ok h) : neOwnD f_Head_DeqD "Head" allT (hD g) (hD h) = some (.bl (!eqB (.lst (hF g)) (.lst (hF h)))) := by
  show (if besideD "Head" allT (hD g) (hD h) = true then (match f_Head_DeqD [hD g, hD h] with
    | some (.bl c) => some (D.bl (!c))
    | _ => none) else none) = _
  rw [if_pos (beside_h g h), eq_ok kg kh]
theorem eq_no (g : Hd) {d : D} (hd : isiD tab_Head d = some (.bl false)) : f_Head_DeqD [hD g, d] = some (.bl false) := by
  refine runP_rt (sd := [.val (hD g), .val d]) rfl ?_
  unfold m_Head_DeqD
  repeat' (first | ((with_reducible refine' Lf.ok ?h ?_); (case h => with_reducible first | exact hd)) | walk_at "wp" | fail)
  rfl
theorem neOwn_no (g : Hd) {d : D} (hb : besideD "Head" allT (hD g) d = true) (hd : isiD tab_Head d = some (.bl false)) : neOwnD f_Head_DeqD "Head" allT (hD g) d = some (.bl true) := by
  show (if besideD "Head" allT (hD g) d = true then (match f_Head_DeqD [hD g, d] with
    | some (.bl c) => some (D.bl (!c))
    | _ => none) else none) = _
  rw [if_pos hb, eq_no g hd]
  rfl
/-- the head with other speeds -/
def wth (h : Hd) (v : Int) (l : List Pr) : Hd := { h with sp := v, ch := l }
theorem with_speed_ok {h : Hd} {v : Int} {l : List Pr} (k : Ok (wth h v l)) : f_Head_with_speed [hD h, .int v, .tup (prs l)] = some (hD (wth h v l)) := by
  have f1 : fldD "Head" "_name" (hD h) = some (.str h.nm) := rfl
  have f2 : fldD "Head" "_left" (hD h) = some (.int h.l) := rfl
  have f3 : fldD "Head" "_right" (hD h) = some (.int h.r) := rfl
  have f4 : fldD "Head" "_kinds" (hD h) = some (.tup ((sortS h.ks).map .str)) := rfl
  have k2 : Ok { wth h v l with ks := sortS h.ks } := { k with ks := ⟨by show 1 ≤ (sortS h.ks).length ∧ (sortS h.ks).length ≤ 4; rw [sortS_len]; exact k.ks.1, fun x hx => k.ks.2.1 x (sortS_sub.mp hx), (sortS_perm h.ks).nodup_iff.mpr k.ks.2.2⟩ }
  have a1 := init_ok k2 (x := .tup ((sortS h.ks).map .str)) (y := .tup (prs l)) (.inr rfl) (.inr rfl)
  have e : hF { wth h v l with ks := sortS h.ks } = hF (wth h v l) := by
    show [_, _, _, D.tup ((sortS (sortS h.ks)).map .str), _, _] = _
    rw [sortS_sort]
    rfl
  rw [e] at a1
  have a2 : f_Head_DinitD (.ins "Head" [] []) [.str h.nm, .int h.l, .int h.r, .tup ((sortS h.ks).map .str), .int v, .tup (prs l)] = some (.non, .ins "Head" ["_name", "_left", "_right", "_kinds", "_speed", "_changes"] (hF (wth h v l))) := a1
  refine runP_rt (sd := [.val (hD h), .val (.int v), .val (.tup (prs l))]) rfl ?_
  unfold m_Head_with_speed
  repeat' (first | ((with_reducible refine' Lf.ok ?h ?_); (case h => with_reducible first | exact f1 | exact f2 | exact f3 | exact f4)) | walk_at "wp" | fail)
  exact ⟨rfl, rfl⟩
theorem with_ok {h : Hd} {v : Int} {l : List Pr} (k : Ok (wth h v l)) : f__law_with [hD h, .int v, .lst (prs l)] = some (hD (wth h v l)) := by
  have a1 := with_speed_ok k
  have hC : isC "Head" "with_speed" (hD h) = true := rfl
  have hl : l.length ≤ 3 := k.ch.1
  have a0 : lenD [.lst (prs l)] = some (.int (l.length : Int)) := by
    show some (D.int ((prs l).length : Int)) = _
    rw [prs_len]
  refine runP_rt (sd := [.val (hD h), .val (.int v), .val (.lst (prs l))]) rfl ?_
  unfold m__law_with
  match l, hl with
  | [], _ =>
    have a2 : f_Head_with_speed [hD h, .int v, .tup []] = some (hD (wth h v [])) := a1
    repeat' (first | ((with_reducible refine' Lf.ok ?h ?_); (case h => with_reducible first | exact a0)) | walk_at "wp" | fail)
    refine Br.dec_t rfl ?_
    repeat' (first | ((with_reducible refine' Lf.ok ?h ?_); (case h => with_reducible first | exact a2)) | walk_at "wp" | fail)
    rfl
  | [q], _ =>
    have a2 : f_Head_with_speed [hD h, .int v, .tup [.tup [.int q.1, .int q.2]]] = some (hD (wth h v [q])) := a1
    have b0 : ixD (.lst (prs [q])) (.int 0) = some (.tup [.int q.1, .int q.2]) := rfl
    repeat' (first | ((with_reducible refine' Lf.ok ?h ?_); (case h => with_reducible first | exact a0)) | walk_at "wp" | fail)
    refine Br.dec_f (by simp) ?_
    repeat' (first | ((with_reducible refine' Lf.ok ?h ?_); (case h => with_reducible first | exact a0)) | walk_at "wp" | fail)
    refine Br.dec_t rfl ?_
    repeat' (first | ((with_reducible refine' Lf.ok ?h ?_); (case h => with_reducible first | exact a2 | exact b0)) | walk_at "wp" | fail)
    rfl
  | [q, r], _ =>
    have a2 : f_Head_with_speed [hD h, .int v, .tup [.tup [.int q.1, .int q.2], .tup [.int r.1, .int r.2]]] = some (hD (wth h v [q, r])) := a1
    have b0 : ixD (.lst (prs [q, r])) (.int 0) = some (.tup [.int q.1, .int q.2]) := rfl
    have b1 : ixD (.lst (prs [q, r])) (.int 1) = some (.tup [.int r.1, .int r.2]) := rfl
    repeat' (first | ((with_reducible refine' Lf.ok ?h ?_); (case h => with_reducible first | exact a0)) | walk_at "wp" | fail)
    refine Br.dec_f (by simp) ?_
    repeat' (first | ((with_reducible refine' Lf.ok ?h ?_); (case h => with_reducible first | exact a0)) | walk_at "wp" | fail)
    refine Br.dec_f (by simp) ?_
    repeat' (first | ((with_reducible refine' Lf.ok ?h ?_); (case h => with_reducible first | exact a0)) | walk_at "wp" | fail)
    refine Br.dec_t rfl ?_
    repeat' (first | ((with_reducible refine' Lf.ok ?h ?_); (case h => with_reducible first | exact a2 | exact b0 | exact b1)) | walk_at "wp" | fail)
    rfl
  | [q, r, s], _ =>
    have a2 : f_Head_with_speed [hD h, .int v, .tup [.tup [.int q.1, .int q.2], .tup [.int r.1, .int r.2], .tup [.int s.1, .int s.2]]] = some (hD (wth h v [q, r, s])) := a1
    have b0 : ixD (.lst (prs [q, r, s])) (.int 0) = some (.tup [.int q.1, .int q.2]) := rfl
    have b1 : ixD (.lst (prs [q, r, s])) (.int 1) = some (.tup [.int r.1, .int r.2]) := rfl
    have b2 : ixD (.lst (prs [q, r, s])) (.int 2) = some (.tup [.int s.1, .int s.2]) := rfl
    repeat' (first | ((with_reducible refine' Lf.ok ?h ?_); (case h => with_reducible first | exact a0)) | walk_at "wp" | fail)
    refine Br.dec_f (by simp) ?_
    repeat' (first | ((with_reducible refine' Lf.ok ?h ?_); (case h => with_reducible first | exact a0)) | walk_at "wp" | fail)
    refine Br.dec_f (by simp) ?_
    repeat' (first | ((with_reducible refine' Lf.ok ?h ?_); (case h => with_reducible first | exact a0)) | walk_at "wp" | fail)
    refine Br.dec_f (by simp) ?_
    repeat' (first | ((with_reducible refine' Lf.ok ?h ?_); (case h => with_reducible first | exact a2 | exact b0 | exact b1 | exact b2)) | walk_at "wp" | fail)
    rfl
theorem noL_strs : ∀ l : List Str, noLs (l.map .str) = true
  | [] => rfl
  | a :: l => by simp only [List.map_cons, noLs, noL, noL_strs l, Bool.and_self]
theorem noL_prs : ∀ l : List Pr, noLs (prs l) = true
  | [] => rfl
  | q :: l => by
    have e : prs (q :: l) = .tup [.int q.1, .int q.2] :: prs l := rfl
    rw [e]
    simp only [noLs, noL, noL_prs l, Bool.and_self]
theorem noL_hD (h : Hd) : noL (hD h) = true := by
  unfold hD hF
  simp only [noL, noLs, noL_strs, noL_prs, Bool.and_self]
theorem no_change {h : Hd} (k : Ok h) : Ok (wth h h.sp []) := { k with ch := ⟨Nat.zero_le _, List.Pairwise.nil, fun q hq => by cases hq⟩ }
set_option maxHeartbeats 1000001 in
theorem copies_ok {h : Hd} (k : Ok h) : f__law_copies_right [md h] = some (.bl true) := by
  have i0 : ixD (md h) (.int 0) = some (.str h.nm) := rfl
  have i1 : ixD (md h) (.int 1) = some (.int h.l) := rfl
  have i2 : ixD (md h) (.int 2) = some (.int h.r) := rfl
  have i3 : ixD (md h) (.int 3) = some (.lst (h.ks.map .str)) := rfl
  have i4 : ixD (md h) (.int 4) = some (.int h.sp) := rfl
  have i5 : ixD (md h) (.int 5) = some (.lst (prs h.ch)) := rfl
  have p5 : sliceD (md h) none (some 5) = some (.tup [.str h.nm, .int h.l, .int h.r, .lst (h.ks.map .str), .int h.sp]) := rfl
  have k0 := no_change k
  have a1 := init_ok k (x := .lst (h.ks.map .str)) (y := .lst (prs h.ch)) (.inl rfl) (.inl rfl)
  have a2 := init_ok k (x := .tup (h.ks.map .str)) (y := .tup (prs h.ch)) (.inr rfl) (.inr rfl)
  have a3 : f_Head_DinitD (.ins "Head" [] []) [.str h.nm, .int h.l, .int h.r, .tup (h.ks.map .str), .int h.sp, .tup []] = some (.non, .ins "Head" ["_name", "_left", "_right", "_kinds", "_speed", "_changes"] (hF (wth h h.sp []))) := init_ok k0 (.inr rfl) (.inr rfl)
  have b1 := is_head_ok k
  have b2 : f__law_is_head [hD (wth h h.sp []), .tup ([.str h.nm, .int h.l, .int h.r, .lst (h.ks.map .str), .int h.sp] ++ [.lst []])] = some (.bl true) := is_head_ok k0
  have e1 := eqOwn_ok k k
  rw [eqB_self] at e1
  have n1 := neD_se (d := .lst (h.ks.map .str)) (e := .lst (h.ks.map .str)) (Se.strs k.ks.2.1) (Se.strs k.ks.2.1)
  have n2 := neD_se (d := .lst (prs h.ch)) (e := .lst (prs h.ch)) (Se.prs h.ch) (Se.prs h.ch)
  rw [eqB_self] at n1 n2
  have hkl : (h.ks.map D.str).length < 100000 := by rw [List.length_map]; have := k.ks.1; omega
  have ehD : ∀ h, D.ins "Head" ["_name", "_left", "_right", "_kinds", "_speed", "_changes"] (hF h) = hD h := fun _ => rfl
  refine runP_rt (sd := [.val (md h), .no, .no, .no, .no]) rfl ?_
  unfold m__law_copies_right
  repeat' (first | ((with_reducible refine' Lf.ok ?h ?_); (case h => with_reducible first | exact i0 | exact i1 | exact i2 | exact i3 | exact i4 | exact i5 | exact p5 | exact b1 | exact b2 | exact e1 | exact n1 | exact n2)) | walk_at "wp" | fail)
  refine ⟨_, rfl, ?_⟩
  repeat' (first | ((with_reducible refine' Lf.ok ?h ?_); (case h => with_reducible first | exact i0 | exact i1 | exact i2 | exact i3 | exact i4 | exact i5 | exact p5 | exact b1 | exact b2 | exact e1 | exact n1 | exact n2)) | walk_at "wp" | fail)
  refine ⟨_, rfl, ?_⟩
  repeat' (first | ((with_reducible refine' Lf.ok ?h ?_); (case h => with_reducible first | exact i0 | exact i1 | exact i2 | exact i3 | exact i4 | exact i5 | exact p5 | exact b1 | exact b2 | exact e1 | exact n1 | exact n2)) | walk_at "wp" | fail)
  refine Wp.peekN (sd1 := [.val (md h), .no, .no, .val (.lst (h.ks.map .str)), .val (.lst (prs h.ch))]) rfl ?_
  repeat' (first | ((with_reducible refine' Lf.ok ?h ?_); (case h => with_reducible first | exact i0 | exact i1 | exact i2 | exact i3 | exact i4 | exact i5 | exact p5 | exact b1 | exact b2 | exact e1 | exact n1 | exact n2)) | walk_at "wp" | fail)
  have ed : ∀ h, (Cell.ins "Head" ["_name", "_left", "_right", "_kinds", "_speed", "_changes"] (hF h)).d = hD h := fun _ => rfl
  rw [ed]
  refine ⟨rfl, noL_hD h, ?_⟩
  repeat' (first | ((with_reducible refine' Lf.ok ?h ?_); (case h => with_reducible first | exact i0 | exact i1 | exact i2 | exact i3 | exact i4 | exact i5 | exact p5 | exact b1 | exact b2 | exact e1 | exact n1 | exact n2)) | walk_at "wp" | fail)
  rw [ed]
  refine ⟨rfl, ?_⟩
  repeat' (first | ((with_reducible refine' Lf.ok ?h ?_); (case h => with_reducible first | exact i0 | exact i1 | exact i2 | exact i3 | exact i4 | exact i5 | exact p5 | exact b1 | exact b2 | exact e1 | exact n1 | exact n2)) | walk_at "wp" | fail)
  rw [ed]
  refine ⟨rfl, ?_⟩
  repeat' (first | ((with_reducible refine' Lf.ok ?h ?_); (case h => with_reducible first | exact e1)) | walk_at "wp" | fail)
  rfl
end Gk10
set_option linter.all false
set_option maxRecDepth 100000
namespace Gk10
open PySem L2 Mir
/-! ### the law -/
theorem ne_b3 (b : Bool) : neD (.lst [.bl b, .bl b, .bl (!b)]) (.lst [.bl b, .bl b, .bl (!b)]) = some (.bl false) := by
  cases b <;> rfl
theorem wth_ok {h g : Hd} (k : Ok h) (j : Ok g) : Ok (wth h g.sp g.ch) := { k with sp := j.sp, ch := j.ch }
theorem wth_nil {h g : Hd} (k : Ok h) (j : Ok g) : Ok (wth h g.sp []) := { k with sp := j.sp, ch := ⟨Nat.zero_le _, List.Pairwise.nil, fun q hq => by cases hq⟩ }
set_option maxHeartbeats 4000001 in
theorem right_ok {c : Cell} (hc : Rg c) : ∃ d c2, f__law_right c [] = some (d, c2) ∧ (d = .bl true ∧ Rg c2) := by
  obtain ⟨ns, c1, e1, hl, hn, hd, hc1⟩ := names_e hc 7 (by decide)
  obtain ⟨h, c2, e2, k0, hnm, ⟨kk, hkk, hks⟩, hc2⟩ := head_ok hc1 hl hn hd
  have hl2 : (ns.drop 1 ++ ns.take 1).length = 7 := by rw [List.length_append, List.length_drop, List.length_take]; omega
  have hn2 : ∀ x ∈ ns.drop 1 ++ ns.take 1, Nm x := by
    intro x hx
    rcases List.mem_append.mp hx with hx | hx
    · exact hn x (List.mem_of_mem_drop hx)
    · exact hn x (List.mem_of_mem_take hx)
  have hd2 : (ns.drop 1 ++ ns.take 1).Nodup := by
    have hp : (ns.drop 1 ++ ns.take 1).Perm ns := by
      have := List.perm_append_comm (l₁ := ns.drop 1) (l₂ := ns.take 1)
      rw [List.take_append_drop] at this
      exact this
    exact hp.nodup_iff.mpr hd
  obtain ⟨g, c3, e3, j0, _, _, hc3⟩ := head_ok hc2 hl2 hn2 hd2
  obtain ⟨n0, n1, n2, n3, n4, n5, n6, rfl⟩ : ∃ a b c d e f g, ns = [a, b, c, d, e, f, g] := by
    match ns, hl with
    | [a, b, c, d, e, f, g], _ => exact ⟨a, b, c, d, e, f, g, rfl⟩
  have k := k0.ok
  have j := j0.ok
  have m := wth_ok k j
  have mn := wth_nil k j
  have h6k : n6 ∉ h.ks := by
    rw [hks]
    intro hm
    have h1 : n6 ∈ [n1, n2, n3, n4] := by
      have e : ([n0, n1, n2, n3, n4, n5, n6].drop 1).take kk = ([n1, n2, n3, n4] : List Str).take kk := by
        have : kk = 0 ∨ kk = 1 ∨ kk = 2 ∨ kk = 3 ∨ kk = 4 := by omega
        rcases this with rfl | rfl | rfl | rfl | rfl <;> rfl
      rw [e] at hm
      exact List.mem_of_mem_take hm
    simp only [List.nodup_cons, List.mem_cons, List.not_mem_nil, or_false, not_or] at hd h1
    obtain ⟨_, ⟨_, _, _, _, q1⟩, ⟨_, _, _, q2⟩, ⟨_, _, q3⟩, ⟨_, q4⟩, _⟩ := hd
    rcases h1 with h | h | h | h
    · exact q1 h.symm
    · exact q2 h.symm
    · exact q3 h.symm
    · exact q4 h.symm
  have b1 := is_head_ok k
  have b2 := is_head_ok j
  have b3 := copies_ok k
  have r1 := real_ok k
  have r2 := real_ok j
  obtain ⟨c4, t1, hc4⟩ := is_told_ok hc3 k
  obtain ⟨c5, t2, hc5⟩ := is_told_ok hc4 j
  obtain ⟨v, n, c6, o1, hv, hc6⟩ := others_ok hc5 k0 (ns := [n0, n1, n2, n3, n4, n5, n6]) (n5 := n5) (n6 := n6) rfl rfl
  have oall := others_all k0 (n := n) (hn n5 (by simp)) (hn n6 (by simp)) h6k hv
  have w1 := with_ok m
  have b4 := is_head_ok m
  obtain ⟨c7, t3, hc7⟩ := is_told_ok hc6 m
  obtain ⟨c8, t4, hc8⟩ := is_told_ok hc7 k
  have w2 := with_speed_ok mn
  have b5 := is_head_ok mn
  have u1 := due_ok k
  have x1 := repr_ok k
  have z1 := neOwn_no h (d := .tup (hF h)) rfl rfl
  have z2 := neOwn_no h (d := .str (txt h)) rfl rfl
  have z3 := neOwn_no h (d := .str h.nm) rfl rfl
  have i0 : ixD (md h) (.int 0) = some (.str h.nm) := rfl
  have i4 : ixD (md g) (.int 4) = some (.int g.sp) := rfl
  have i5 : ixD (md g) (.int 5) = some (.lst (prs g.ch)) := rfl
  have p4 : sliceD (md h) none (some 4) = some (.tup [.str h.nm, .int h.l, .int h.r, .lst (h.ks.map .str)]) := rfl
  have q4 : sliceD (md g) (some 4) none = some (.tup [.int g.sp, .lst (prs g.ch)]) := rfl
  have ad : addD (.tup [.str h.nm, .int h.l, .int h.r, .lst (h.ks.map .str)]) (.tup [.int g.sp, .lst (prs g.ch)]) = some (md (wth h g.sp g.ch)) := rfl
  have ad2 : addD (.tup [.str h.nm, .int h.l, .int h.r, .lst (h.ks.map .str)]) (.tup [.int g.sp, .lst []]) = some (md (wth h g.sp [])) := rfl
  have cu1 : sliceD (.lst ([n0, n1, n2, n3, n4, n5, n6].map .str)) (some 1) none = some (.lst ([n1, n2, n3, n4, n5, n6].map .str)) := rfl
  have cu2 : sliceD (.lst ([n0, n1, n2, n3, n4, n5, n6].map .str)) none (some 1) = some (.lst ([n0].map .str)) := rfl
  have cu3 : addD (.lst ([n1, n2, n3, n4, n5, n6].map .str)) (.lst ([n0].map .str)) = some (.lst (([n0, n1, n2, n3, n4, n5, n6].drop 1 ++ [n0, n1, n2, n3, n4, n5, n6].take 1).map .str)) := rfl
  have e1' : f__law_names c [.int 7] = some (.lst ([n0, n1, n2, n3, n4, n5, n6].map .str), c1) := e1
  have hk := isK_hD h
  have hC : isC "Head" "with_speed" (hD h) = true := rfl
  have ol : (othersL h n5 n6 v n).length = 12 := rfl
  refine runI_rt (sd := [.own c, .no, .no, .no, .no, .no, .no, .no, .no]) rfl ?_
  unfold m__law_right
  generalize hNS : D.lst ([n0, n1, n2, n3, n4, n5, n6].map .str) = NS at *
  repeat' (first | ((with_reducible refine' Lf.ok ?h ?_); (case h => with_reducible first | exact e1' | exact cu1 | exact cu2 | exact cu3)) | walk_at "wp" | fail)
  have em : (othersL h n5 n6 v n).map md ++ [md g] = (othersL h n5 n6 v n ++ [g]).map md := by rw [List.map_append]; rfl
  rw [em]
  have oall2 : ∀ o ∈ othersL h n5 n6 v n ++ [g], Ok o := by
    intro o ho
    rcases List.mem_append.mp ho with ho | ho
    · exact oall o ho
    · have : o = g := by simpa using ho
      rw [this]; exact j
  generalize othersL h n5 n6 v n ++ [g] = os at *
  refine Wp.forInv md (fun _ sd => ∃ s2 s8, sd = [.own c6, .val NS, s2, .no, .val (md h), .val (md g), .val (hD h), .val (hD g), s8]) os ⟨_, _, rfl⟩ ?_ ?_
  · rintro don o r sd e ⟨s2, s8, rfl⟩
    have ko := oall2 o (by rw [e]; simp)
    have v1 := due_ok ko
    have v2 := real_ok ko
    have v3 := eqD_se (se_due ko) (se_due k)
    have v4 := eqOwn_ok k ko
    have v5 := eqOwn_ok ko k
    have v6 := neOwn_ok k ko
    rw [eqB_comm (.lst (hF h)) (.lst (hF o))] at v4 v6
    generalize eqB (.lst (hF o)) (.lst (hF h)) = b at *
    have v7 := ne_b3 b
    repeat' (first | ((with_reducible refine' Lf.ok ?h ?_); (case h => with_reducible first | exact u1 | exact v1 | exact v2 | exact v3 | exact v4 | exact v5 | exact v6 | exact v7)) | walk_at "wp" | fail)
    exact .inl ⟨rfl, _, _, rfl⟩
  · rintro sd ⟨s2, s8, rfl⟩
    clear e1' e1 e2 e3 o1 t1 t2 em oall oall2 cu1 cu2 cu3 b2 b3 r1 r2
    repeat' (first | ((with_reducible refine' Lf.ok ?h ?_); (case h => with_reducible first | exact i0 | exact i4 | exact i5 | exact w1 | exact p4 | exact q4 | exact ad | exact b4 | exact ad2 | exact b1 | exact b5)) | walk_at "wp" | fail)
    exact ⟨_, _, _, rfl, rfl, rfl, hc8⟩
end Gk10
set_option linter.all false
set_option maxRecDepth 100000
namespace Gk10
open PySem L2 Mir
theorem law_true (ns : List Int) (hn : ns.length ≤ 63) : f_law [.scr ns] = some (.bl true) := by
  have n43 : neD (.lst [.int 4, .int 3]) (.lst [.int 4, .int 3]) = some (.bl false) := rfl
  refine runP_rt (sd := [.val (.scr ns), .no]) rfl ?_
  unfold m_law
  repeat' (first | ((with_reducible refine' Lf.ok ?h ?_); (case h => with_reducible first | exact n43)) | walk_at "wp" | fail)
  refine Wp.comp (fun i : Nat => D.int (i : Int)) (fun _ => true) (fun _ => D.bl true) (List.range (if (if (ns.length : Int) < 4 then (ns.length : Int) else 4) > 1 then if (ns.length : Int) < 4 then (ns.length : Int) else 4 else 1).toNat) ?_
  repeat' (first | walk_at "wp" | fail)
  refine ⟨rfl, ?_, rfl, ?_, ?_⟩
  · rw [List.length_range]; omega
  · intro i hi
    rw [List.mem_range] at hi
    obtain ⟨c, ec, hc⟩ := rng_e ns i (by omega)
    obtain ⟨d, c2, e2, rfl, hc2⟩ := right_ok hc
    repeat' (first | walk_at "wp" | fail)
    refine ⟨rfl, ?_⟩
    repeat' (first | walk_at "wp" | fail)
    exact ⟨rfl, rfl⟩
  · repeat' (first | walk_at "wp" | fail)
    have z : ∀ l : List Nat, (l.filter fun _ => true).all (fun _ => true) = true := fun l => by simp
    rw [z]
    repeat' (first | walk_at "wp" | fail)
end Gk10
end
open PySem PySem.W PySem.Calls PyProof.Rows
theorem holds_if (true_ : ∀ ns : List Int, ns.length ≤ 63 → Gk10.f_law [.scr ns] = some (.bl true)) : PySem.Challenge.rw_beamheads_k10_heads_made.Holds := by
  w_on; o_law
  refine HandSHeadRun.head_any (r := OpenLaw.row PySem.Challenge.rw_beamheads_k10_heads_made) (q := view (OpenLaw.row PySem.Challenge.rw_beamheads_k10_heads_made).prog [42]) (H := Gk10.hk) (ob := Gk10.ob) (M := 20000) (loose := Gk10.names)
    (d := HandSHeadRun.topDef (OpenLaw.row PySem.Challenge.rw_beamheads_k10_heads_made).prog 42) (kwd := []) Gk10.ob_eq
    (by kernel_rfl) (fun s => by kernel_rfl) Gk10.run (by kernel_rfl) (by kernel_rfl) (by kernel_rfl) (by rfl) (by first | assumption | decide +kernel) (by decide +kernel) ⟨rfl, rfl, rfl, rfl, rfl, by decide +kernel⟩ ?hw ?hc
  case hw => w_witness2
  case hc =>
    refine Mir.walk_g (l := PySem.Challenge.rw_beamheads_k10_heads_made) (n := 63) (k := 9) (x := "_law_script") rfl (by decide) (by kernel_rfl) ⟨rfl, by decide, by decide⟩ ?F
    intro w mg fa h Y G hmg0
    obtain ⟨K, KX, c⟩ := Y
    have hmg : mg ("law" : PySem.Str) = some (.ref fa) := by
      have e : (HandSHeadRun.topDef (OpenLaw.row PySem.Challenge.rw_beamheads_k10_heads_made).prog 42).name = ("law" : PySem.Str) := by kernel_rfl
      rw [← e]
      exact hmg0
    obtain ⟨fd, hb, hF⟩ := Gk10.facts (P := (PySem.Challenge.rw_beamheads_k10_heads_made).prog) (w := w) KX G hmg c
    exact ⟨K, fd, _, KX, hb, fun H a ns hl hS => Mir.law_sp (true_ ns hl) hS, hF⟩
theorem PySem.Challenge.cw_beamheads_k10_heads_made_holds : PySem.Challenge.rw_beamheads_k10_heads_made.Holds := by
  exact holds_if fun ns h => Gk10.law_true ns h
