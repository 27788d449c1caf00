import PyProof.Rows.All
import HandS.ForMost
import HandS.Deep
import HandS.TupAny
import HandS.More
import HandS.Conv
import HandS.Style
import HandS.Wide
import KE.SortData
import KE.DataAny
import KE.DataIsa
import PyProof.ReprRoads
import HandS.Flt
import KE.GoesMore
import KE.GoesEnum
import HandS.WideBits
import PyProof.TupleOfSeq
import HandS.Star
import HandS.IsInst
import HandS.Zip
import PyProof.ReprBulk
import PySem.Challenge.RW_wellstrewn_k52_numbers_drawn_by_coins
set_option Elab.async false
set_option linter.all false
set_option maxRecDepth 100000
set_option autoImplicit false
/-! Data-level denotations over the hand layer: base. -/
namespace Den
open PySem PySem.Spec L2

abbrev D := PyData
/-- what a slot holds: nothing told, a datum (never changed again), a list of one's own, a caller's list lent -/
inductive Sl where
  | no | va (d : D) | ls (ds : List D) | bg (ds : List D) | hd (a : Addr)
abbrev Lo := List Sl
/-- what an expression gives: a datum, a new list, the list in slot i -/
inductive RR where
  | va (d : D) | ls (ds : List D) | br (i : Nat)

section
variable {K : PySem.W.Frag} {G G' H H' : Hp}
theorem same_tup {a : Addr} {xs : List V} (e : Same H H') (h : SqT K H a xs) : SqT K H' a xs := by
  rcases h with (h | ⟨o, h⟩) | h
  · exact .inl (.inl (e _ _ h))
  · exact .inl (.inr ⟨o, e _ _ h⟩)
  · exact .inr h
mutual
theorem dpMono (s : Same G G') : ∀ {v : V} {d : D}, Dp K G v d → Dp K G' v d
  | _, _, .non => .non
  | _, _, .bl b => .bl b
  | _, _, .int i => .int i
  | _, _, .str x => .str x
  | _, _, .lst h a => .lst (s.seq h) (dpsMono s a)
  | _, _, .tup h a => .tup (same_tup s h) (dpsMono s a)
theorem dpsMono (s : Same G G') : ∀ {vs : List V} {ds : List D}, DpAll K G vs ds → DpAll K G' vs ds
  | _, _, .nil => .nil
  | _, _, .cons h t => .cons (dpMono s h) (dpsMono s t)
end
theorem dpsLen : ∀ {vs : List V} {ds : List D}, DpAll K G vs ds → vs.length = ds.length
  | _, _, .nil => rfl
  | _, _, .cons _ t => by rw [List.length_cons, List.length_cons, dpsLen t]
theorem dpsApp : ∀ {vs ws : List V} {ds es : List D}, DpAll K G vs ds → DpAll K G ws es → DpAll K G (vs ++ ws) (ds ++ es)
  | _, _, _, _, .nil, b => b
  | _, _, _, _, .cons h t, b => .cons h (dpsApp t b)
theorem dpsGet : ∀ {vs : List V} {ds : List D} {i : Nat} {d : D}, DpAll K G vs ds → ds[i]? = some d → ∃ v, vs[i]? = some v ∧ Dp K G v d
  | _, _, _, _, .nil, e => by simp at e
  | _, _, 0, _, .cons h _, e => by
    simp at e
    subst e
    exact ⟨_, rfl, h⟩
  | _, _, i + 1, _, .cons _ t, e => by
    obtain ⟨v, h1, h2⟩ := dpsGet (i := i) t (by simpa using e)
    exact ⟨v, by simpa using h1, h2⟩
theorem dpsGetV : ∀ {vs : List V} {ds : List D} {i : Nat} {v : V}, DpAll K G vs ds → vs[i]? = some v → ∃ d, ds[i]? = some d ∧ Dp K G v d
  | _, _, _, _, .nil, e => by simp at e
  | _, _, 0, _, .cons h _, e => by
    simp at e
    subst e
    exact ⟨_, rfl, h⟩
  | _, _, i + 1, _, .cons _ t, e => by
    obtain ⟨v, h1, h2⟩ := dpsGetV (i := i) t (by simpa using e)
    exact ⟨v, by simpa using h1, h2⟩
theorem dpsSet : ∀ {vs : List V} {ds : List D} (i : Nat) {v : V} {d : D}, DpAll K G vs ds → Dp K G v d → DpAll K G (vs.set i v) (ds.set i d)
  | _, _, _, _, _, .nil, _ => .nil
  | _, _, 0, _, _, .cons _ t, q => .cons q t
  | _, _, i + 1, _, _, .cons h t, q => .cons h (dpsSet i t q)
theorem dpsDrop : ∀ {vs : List V} {ds : List D} (n : Nat), DpAll K G vs ds → DpAll K G (vs.drop n) (ds.drop n)
  | _, _, 0, h => h
  | _, _, _ + 1, .nil => .nil
  | _, _, n + 1, .cons _ t => dpsDrop n t
theorem dpsTake : ∀ {vs : List V} {ds : List D} (n : Nat), DpAll K G vs ds → DpAll K G (vs.take n) (ds.take n)
  | _, _, 0, _ => .nil
  | _, _, _ + 1, .nil => .nil
  | _, _, n + 1, .cons h t => .cons h (dpsTake n t)
end

/-! ### the relation of slots -/
def Ls (σ : St) (ρ : Lo) (a : Addr) : Prop := ∃ (i : Nat) (ds : List D), ρ[i]? = some (.ls ds) ∧ σ[i]? = some (some (.ref a))
def Bg (σ : St) (ρ : Lo) (a : Addr) : Prop := ∃ (i : Nat) (ds : List D), ρ[i]? = some (.bg ds) ∧ σ[i]? = some (some (.ref a))
def Ow (σ : St) (ρ : Lo) (a : Addr) : Prop := Ls σ ρ a ∨ Bg σ ρ a
def Mine (K : PySem.W.Frag) (G H : Hp) (x : Option (Option V)) (ds : List D) : Prop :=
  ∃ (p : Addr) (xs : List V), x = some (some (.ref p)) ∧ G p = none ∧ H p = some (.lst xs) ∧ DpAll K G xs ds
def SlR (K : PySem.W.Frag) (G H : Hp) (x : Option (Option V)) : Sl → Prop
  | .no => True
  | .va d => ∃ v, x = some (some v) ∧ Dp K G v d
  | .ls ds => Mine K G H x ds
  | .bg ds => Mine K G H x ds
  | .hd a => x = some (some (.ref a))
def isOwn : Sl → Bool
  | .ls _ => true
  | .bg _ => true
  | _ => false
def Own (ρ : Lo) (i : Nat) : Prop := ∃ s, ρ[i]? = some s ∧ isOwn s = true
structure Rel (K : PySem.W.Frag) (G H : Hp) (σ : St) (ρ : Lo) : Prop where
  sub : Same G H
  sl : ∀ (i : Nat) (s : Sl), ρ[i]? = some s → SlR K G H σ[i]? s
  apart : ∀ (i j : Nat) (a : Addr), Own ρ i → Own ρ j → σ[i]? = some (some (.ref a)) → σ[j]? = some (some (.ref a)) → i = j
  len : ρ.length = σ.length
/-- what a step leaves as it was -/
structure Stp (σ : St) (ρ : Lo) (G H : Hp) (σ' : St) (ρ' : Lo) (G' H' : Hp) : Prop where
  gg : Same G G'
  keep : ∀ a o, H a = some o → ¬ Ow σ ρ a → H' a = some o
  gnew : ∀ a, H a ≠ none → ¬ Ow σ ρ a → G' a = G a
  ols : ∀ a, Ls σ' ρ' a → Ls σ ρ a ∨ H a = none
  obg : ∀ (i : Nat) (ds : List D), ρ'[i]? = some (.bg ds) → ∃ ds₀ : List D, ρ[i]? = some (.bg ds₀) ∧ σ'[i]? = σ[i]?
  dom : ∀ a, H a ≠ none → H' a ≠ none
section
variable {K : PySem.W.Frag} {G G' G'' H H' H'' : Hp} {σ σ' σ'' : St} {ρ ρ' ρ'' : Lo}
theorem Stp.refl : Stp σ ρ G H σ ρ G H := ⟨Same.refl _, fun _ _ h _ => h, fun _ _ _ => rfl, fun _ h => .inl h, fun i ds h => ⟨ds, h, rfl⟩, fun _ h => h⟩
theorem Stp.ow (s : Stp σ ρ G H σ' ρ' G' H') {a : Addr} (h : Ow σ' ρ' a) : Ow σ ρ a ∨ H a = none := by
  rcases h with h | ⟨i, ds, h1, h2⟩
  · exact (s.ols a h).imp .inl id
  · obtain ⟨ds₀, h3, h4⟩ := s.obg i ds h1
    exact .inl (.inr ⟨i, ds₀, h3, h4 ▸ h2⟩)
theorem Stp.trans (s : Stp σ ρ G H σ' ρ' G' H') (t : Stp σ' ρ' G' H' σ'' ρ'' G'' H'') : Stp σ ρ G H σ'' ρ'' G'' H'' := by
  have no : ∀ {a : Addr}, H a ≠ none → ¬ Ow σ ρ a → ¬ Ow σ' ρ' a := fun h1 h2 h3 => (s.ow h3).elim h2 h1
  refine ⟨s.gg.trans t.gg, fun a o h n => t.keep a o (s.keep a o h n) (no (by rw [h]; simp) n), fun a h n => (t.gnew a (s.dom a h) (no h n)).trans (s.gnew a h n), fun a h => ?_, fun i ds h => ?_, fun a h => t.dom a (s.dom a h)⟩
  · rcases t.ols a h with h | h
    · exact s.ols a h
    · refine .inr ?_
      cases e : H a with
      | none => rfl
      | some o => exact absurd h (s.dom a (by rw [e]; simp))
  · obtain ⟨d1, h1, e1⟩ := t.obg i ds h
    obtain ⟨d2, h2, e2⟩ := s.obg i d1 h1
    exact ⟨d2, h2, e1.trans e2⟩
theorem Rel.noG (r : Rel K G H σ ρ) {a : Addr} (h : Ow σ ρ a) : G a = none := by
  rcases h with ⟨i, ds, h1, h2⟩ | ⟨i, ds, h1, h2⟩
  · obtain ⟨p, xs, e, g, _⟩ := r.sl i _ h1
    rw [h2] at e
    cases e
    exact g
  · obtain ⟨p, xs, e, g, _⟩ := r.sl i _ h1
    rw [h2] at e
    cases e
    exact g
theorem Rel.gfree (r : Rel K G H σ ρ) {a : Addr} (h : H a = none) : G a = none := r.sub.free h
theorem Rel.owH (r : Rel K G H σ ρ) {a : Addr} (h : Ow σ ρ a) : H a ≠ none := by
  rcases h with ⟨i, ds, h1, h2⟩ | ⟨i, ds, h1, h2⟩
  · obtain ⟨p, xs, e, g, q, _⟩ := r.sl i _ h1
    rw [h2] at e
    cases e
    rw [q]
    simp
  · obtain ⟨p, xs, e, g, q, _⟩ := r.sl i _ h1
    rw [h2] at e
    cases e
    rw [q]
    simp
theorem same_upd {p : Addr} {o : HO} (h : H p = none) : Same H (upd H p o) := fun b x e => by
  rw [upd_ne (ne_of_none e h)]
  exact e
theorem same_both {p : Addr} {o : HO} (h : Same G H) : Same (upd G p o) (upd H p o) := fun b x e => by
  by_cases hb : b = p
  · subst hb
    rw [upd_same] at e ⊢
    exact e
  · rw [upd_ne hb] at e ⊢
    exact h _ _ e
/-- a new object: seen by H alone, or by G as well -/
theorem Rel.newH {p : Addr} {o : HO} (r : Rel K G H σ ρ) (h : H p = none) : Rel K G (upd H p o) σ ρ ∧ Stp σ ρ G H σ ρ G (upd H p o) := by
  have st : Same H (upd H p o) := same_upd h
  refine ⟨⟨r.sub.trans st, fun i s e => ?_, r.apart, r.len⟩, ⟨Same.refl _, fun a u e _ => st a u e, fun _ _ _ => rfl, fun a h => .inl h, fun i ds h => ⟨ds, h, rfl⟩, fun a e => ?_⟩⟩
  · have q := r.sl i s e
    cases s with
    | no => trivial
    | va d => exact q
    | ls ds => obtain ⟨a, xs, e1, g, e2, al⟩ := q; exact ⟨a, xs, e1, g, st _ _ e2, al⟩
    | hd _ => exact q
    | bg ds => obtain ⟨a, xs, e1, g, e2, al⟩ := q; exact ⟨a, xs, e1, g, st _ _ e2, al⟩
  · cases q : H a with
    | none => exact absurd q e
    | some u => rw [st _ _ q]; simp
theorem Rel.newG {p : Addr} {o : HO} (r : Rel K G H σ ρ) (h : H p = none) : Rel K (upd G p o) (upd H p o) σ ρ ∧ Stp σ ρ G H σ ρ (upd G p o) (upd H p o) := by
  have st : Same H (upd H p o) := same_upd h
  have hg : G p = none := r.gfree h
  have sg : Same G (upd G p o) := same_upd hg
  refine ⟨⟨same_both r.sub, fun i s e => ?_, r.apart, r.len⟩, ⟨sg, fun a u e _ => st a u e, fun a e _ => ?_, fun a h => .inl h, fun i ds h => ⟨ds, h, rfl⟩, fun a e => ?_⟩⟩
  · have q := r.sl i s e
    have own : ∀ ds, Mine K G H σ[i]? ds → Mine K (upd G p o) (upd H p o) σ[i]? ds := fun ds ⟨a, xs, e1, g, e2, al⟩ =>
      ⟨a, xs, e1, by rw [upd_ne (fun z => by rw [z, h] at e2; cases e2)]; exact g, st _ _ e2, dpsMono sg al⟩
    cases s with
    | no => trivial
    | va d => obtain ⟨v, e1, q⟩ := q; exact ⟨v, e1, dpMono sg q⟩
    | ls ds => exact own ds q
    | hd _ => exact q
    | bg ds => exact own ds q
  · exact upd_ne fun z => e (by rw [z]; exact h)
  · cases q : H a with
    | none => exact absurd q e
    | some u => rw [st _ _ q]; simp
end

/-! ### results -/
def ResR (K : PySem.W.Frag) (G H : Hp) (σ : St) (ρ : Lo) (v : V) : RR → Prop
  | .va d => Dp K G v d
  | .ls ds => ∃ (p : Addr) (xs : List V), v = .ref p ∧ G p = none ∧ H p = some (.lst xs) ∧ DpAll K G xs ds ∧ ¬ Ow σ ρ p
  | .br i => σ[i]? = some (some v)
/-- a new list is newer than H -/
def NewR (H : Hp) (v : V) : RR → Prop
  | .ls _ => ∀ p, v = .ref p → H p = none
  | _ => True
structure Pst (K : PySem.W.Frag) (σ : St) (ρ : Lo) (G H : Hp) (r : RR) (ρ' : Lo) (v : V) (G' H' : Hp) : Prop where
  rel : Rel K G' H' σ ρ'
  stp : Stp σ ρ G H σ ρ' G' H'
  res : ResR K G' H' σ ρ' v r
  new : NewR H v r
abbrev Fn (α : Type) := Lo → Option (α × Lo)
def tD (K : PySem.W.Frag) (f : Fn RR) : TE := fun σ H Q => ∃ G ρ r ρ', Rel K G H σ ρ ∧ f ρ = some (r, ρ') ∧ ∀ v G' H', Pst K σ ρ G H r ρ' v G' H' → Q v H'
/-- the same for a datum -/
def tF (K : PySem.W.Frag) (f : Fn D) : TE := fun σ H Q => ∃ G ρ d ρ', Rel K G H σ ρ ∧ f ρ = some (d, ρ') ∧ ∀ v G' H', Rel K G' H' σ ρ' → Stp σ ρ G H σ ρ' G' H' → Dp K G' v d → Q v H'
/-- for a list of data -/
def tFs (K : PySem.W.Frag) (f : Fn (List D)) : TA := fun σ H Q => ∃ G ρ ds ρ', Rel K G H σ ρ ∧ f ρ = some (ds, ρ') ∧ ∀ vs G' H', Rel K G' H' σ ρ' → Stp σ ρ G H σ ρ' G' H' → DpAll K G' vs ds → Q vs H'
/-- for a value that is read: a datum, or the list in a slot -/
def ResV (K : PySem.W.Frag) (G : Hp) (σ : St) (v : V) : RR → Prop
  | .va d => Dp K G v d
  | .ls _ => False
  | .br i => σ[i]? = some (some v)
inductive ResVs (K : PySem.W.Frag) (G : Hp) (σ : St) : List V → List RR → Prop
  | nil : ResVs K G σ [] []
  | cons {v vs r rs} : ResV K G σ v r → ResVs K G σ vs rs → ResVs K G σ (v :: vs) (r :: rs)
def tV (K : PySem.W.Frag) (f : Fn RR) : TE := fun σ H Q => ∃ G ρ r ρ', Rel K G H σ ρ ∧ f ρ = some (r, ρ') ∧ ∀ v G' H', Rel K G' H' σ ρ' → Stp σ ρ G H σ ρ' G' H' → ResV K G' σ v r → Q v H'
def tVs (K : PySem.W.Frag) (f : Fn (List RR)) : TA := fun σ H Q => ∃ G ρ rs ρ', Rel K G H σ ρ ∧ f ρ = some (rs, ρ') ∧ ∀ vs G' H', Rel K G' H' σ ρ' → Stp σ ρ G H σ ρ' G' H' → ResVs K G' σ vs rs → Q vs H'

def frz (r : RR) (ρ : Lo) : Option (D × Lo) := match r with
  | .va d => some (d, ρ)
  | .ls ds => some (.list ds, ρ)
  | .br i => match ρ[i]? with
    | some (.ls ds) => some (.list ds, ρ.set i (.va (.list ds)))
    | some (.va d) => some (d, ρ)
    | _ => none
/-- a new list is frozen, a slot's list stays what it is -/
def half (r : RR) : RR := match r with
  | .ls ds => .va (.list ds)
  | r => r
/-- the datum that is seen now -/
def vw (r : RR) (ρ : Lo) : Option D := match r with
  | .va d => some d
  | .ls ds => some (.list ds)
  | .br i => match ρ[i]? with
    | some (.ls ds) => some (.list ds)
    | some (.bg ds) => some (.list ds)
    | some (.va d) => some d
    | _ => none
section
variable {K : PySem.W.Frag} {G G' G'' H H' H'' : Hp} {σ : St} {ρ ρ' ρ'' : Lo} {v : V} {r : RR} {d : D}
theorem resV_mono (s : Same G G') (h : ResV K G σ v r) : ResV K G' σ v r := by
  cases r with
  | va d => exact dpMono s h
  | ls ds => exact h
  | br i => exact h
theorem resVs_mono {vs : List V} {rs : List RR} (s : Same G G') (h : ResVs K G σ vs rs) : ResVs K G' σ vs rs := by
  induction h with
  | nil => exact .nil
  | cons h _ ih => exact .cons (resV_mono s h) ih
theorem Own.of_set {i j : Nat} {d : D} (h : Own (ρ.set i (.va d)) j) : Own ρ j ∧ j ≠ i := by
  obtain ⟨s, e, q⟩ := h
  by_cases hj : i = j
  · subst hj
    by_cases hi : i < ρ.length
    · rw [List.getElem?_set_self hi] at e
      cases e
      cases q
    · rw [List.getElem?_eq_none (by simpa using hi)] at e
      cases e
  · rw [List.getElem?_set_ne hj] at e
    exact ⟨⟨s, e, q⟩, fun z => hj z.symm⟩
theorem Own.ls {i : Nat} {ds : List D} (h : ρ[i]? = some (.ls ds)) : Own ρ i := ⟨_, h, rfl⟩
theorem Own.bg {i : Nat} {ds : List D} (h : ρ[i]? = some (.bg ds)) : Own ρ i := ⟨_, h, rfl⟩
theorem Ow.own {a : Addr} (h : Ow σ ρ a) : ∃ i, Own ρ i ∧ σ[i]? = some (some (.ref a)) := by
  rcases h with ⟨i, ds, h1, h2⟩ | ⟨i, ds, h1, h2⟩
  · exact ⟨i, .ls h1, h2⟩
  · exact ⟨i, .bg h1, h2⟩
theorem Ow.of {a : Addr} {i : Nat} (h : Own ρ i) (e : σ[i]? = some (some (.ref a))) : Ow σ ρ a := by
  obtain ⟨s, h1, h2⟩ := h
  cases s with
  | no => cases h2
  | va d => cases h2
  | ls ds => exact .inl ⟨i, ds, h1, e⟩
  | hd _ => cases h2
  | bg ds => exact .inr ⟨i, ds, h1, e⟩
/-- a slot's own list is frozen -/
theorem frz_slot (R : Rel K G H σ ρ) {i : Nat} {ds : List D} (e : ρ[i]? = some (.ls ds)) : ∃ (p : Addr) (xs : List V), σ[i]? = some (some (.ref p)) ∧ H p = some (.lst xs) ∧
    Rel K (upd G p (.lst xs)) H σ (ρ.set i (.va (.list ds))) ∧ Stp σ ρ G H σ (ρ.set i (.va (.list ds))) (upd G p (.lst xs)) H ∧ Dp K (upd G p (.lst xs)) (.ref p) (.list ds) := by
  obtain ⟨p, xs, e1, g, e2, al⟩ := R.sl i _ e
  have hi : i < ρ.length := (List.getElem?_eq_some_iff.mp e).1
  have sg : Same G (upd G p (.lst xs)) := same_upd g
  have dp : Dp K (upd G p (.lst xs)) (.ref p) (.list ds) := .lst (SqL.of upd_same) (dpsMono sg al)
  have ow : Ow σ ρ p := .inl ⟨i, ds, e, e1⟩
  refine ⟨p, xs, e1, e2, ⟨fun a o h => ?_, fun j s ej => ?_, fun j k a hj hk => R.apart j k a hj.of_set.1 hk.of_set.1, by rw [List.length_set]; exact R.len⟩,
    ⟨sg, fun a o h _ => h, fun a _ n => upd_ne fun z => n (z ▸ ow), fun a h => .inl ?_, fun j ds' h => ?_, fun a h => h⟩, dp⟩
  · by_cases ha : a = p
    · subst ha
      rw [upd_same] at h
      cases h
      exact e2
    · rw [upd_ne ha] at h
      exact R.sub _ _ h
  · by_cases hj : i = j
    · subst hj
      rw [List.getElem?_set_self hi] at ej
      cases ej
      exact ⟨_, e1, dp⟩
    · rw [List.getElem?_set_ne hj] at ej
      have q := R.sl j s ej
      have own : ∀ es, isOwn s = true → Mine K G H σ[j]? es → Mine K (upd G p (.lst xs)) H σ[j]? es := fun es ho ⟨a, ys, e3, g3, e4, al3⟩ =>
        ⟨a, ys, e3, by rw [upd_ne (fun z => hj (R.apart i j p (.ls e) ⟨s, ej, ho⟩ e1 (by rw [z] at e3; exact e3)))]; exact g3, e4, dpsMono sg al3⟩
      cases s with
      | no => trivial
      | va d => obtain ⟨v, e3, q⟩ := q; exact ⟨v, e3, dpMono sg q⟩
      | ls es => exact own es rfl q
      | hd _ => exact q
      | bg es => exact own es rfl q
  · obtain ⟨j, ds', h1, h2⟩ := h
    by_cases hj : i = j
    · subst hj
      rw [List.getElem?_set_self hi] at h1
      cases h1
    · rw [List.getElem?_set_ne hj] at h1
      exact ⟨j, ds', h1, h2⟩
  · by_cases hj : i = j
    · subst hj
      rw [List.getElem?_set_self hi] at h
      cases h
    · rw [List.getElem?_set_ne hj] at h
      exact ⟨ds', h, rfl⟩
/-- a new list is frozen -/
theorem frz_new {ds : List D} (R : Pst K σ ρ G H (.ls ds) ρ' v G' H') : ∃ G'', Rel K G'' H' σ ρ' ∧ Stp σ ρ G H σ ρ' G'' H' ∧ Dp K G'' v (.list ds) := by
  obtain ⟨p, xs, rfl, g, e2, al, no⟩ := R.res
  have hn := R.new p rfl
  have sg : Same G' (upd G' p (.lst xs)) := same_upd g
  have dp : Dp K (upd G' p (.lst xs)) (.ref p) (.list ds) := .lst (SqL.of upd_same) (dpsMono sg al)
  refine ⟨upd G' p (.lst xs), ⟨fun a o h => ?_, fun j s ej => ?_, R.rel.apart, R.rel.len⟩, ⟨R.stp.gg.trans sg, R.stp.keep, fun a h n => ?_, R.stp.ols, R.stp.obg, R.stp.dom⟩, dp⟩
  · by_cases ha : a = p
    · subst ha
      rw [upd_same] at h
      cases h
      exact e2
    · rw [upd_ne ha] at h
      exact R.rel.sub _ _ h
  · have q := R.rel.sl j s ej
    have own : ∀ es, isOwn s = true → Mine K G' H' σ[j]? es → Mine K (upd G' p (.lst xs)) H' σ[j]? es := fun es ho ⟨a, ys, e3, g3, e4, al3⟩ =>
      ⟨a, ys, e3, by rw [upd_ne (fun z => no (Ow.of ⟨s, ej, ho⟩ (by rw [z] at e3; exact e3)))]; exact g3, e4, dpsMono sg al3⟩
    cases s with
    | no => trivial
    | va d => obtain ⟨v, e3, q⟩ := q; exact ⟨v, e3, dpMono sg q⟩
    | ls es => exact own es rfl q
    | hd _ => exact q
    | bg es => exact own es rfl q
  · rw [upd_ne (fun z => h (by rw [z]; exact hn))]
    exact R.stp.gnew a h n
theorem frz_ok (R : Pst K σ ρ G H r ρ' v G' H') (e : frz r ρ' = some (d, ρ'')) : ∃ G'', Rel K G'' H' σ ρ'' ∧ Stp σ ρ G H σ ρ'' G'' H' ∧ Dp K G'' v d := by
  cases r with
  | va d' =>
    cases e
    exact ⟨G', R.rel, R.stp, R.res⟩
  | ls ds =>
    cases e
    exact frz_new R
  | br i =>
    unfold frz at e
    simp only at e
    cases q : ρ'[i]? with
    | none => rw [q] at e; cases e
    | some s =>
      rw [q] at e
      cases s with
      | no => cases e
      | hd _ => cases e
      | bg ds => cases e
      | va d' =>
        cases e
        obtain ⟨u, e1, h1⟩ := R.rel.sl i _ q
        have e2 : σ[i]? = some (some v) := R.res
        rw [e1] at e2
        cases e2
        exact ⟨G', R.rel, R.stp, h1⟩
      | ls ds =>
        cases e
        obtain ⟨p, xs, e1, e2, r1, s1, dp⟩ := frz_slot R.rel q
        have e3 : σ[i]? = some (some v) := R.res
        rw [e1] at e3
        cases e3
        exact ⟨_, r1, R.stp.trans s1, dp⟩
theorem half_ok (R : Pst K σ ρ G H r ρ' v G' H') : ∃ G'', Rel K G'' H' σ ρ' ∧ Stp σ ρ G H σ ρ' G'' H' ∧ ResV K G'' σ v (half r) := by
  cases r with
  | va d => exact ⟨G', R.rel, R.stp, R.res⟩
  | ls ds => exact frz_new R
  | br i => exact ⟨G', R.rel, R.stp, R.res⟩
/-- what is seen now -/
theorem vw_ok (R : Rel K G H σ ρ) (h : ResV K G σ v r) (e : vw r ρ = some d) : Dp K H v d := by
  cases r with
  | va d' => cases e; exact dpMono R.sub h
  | ls ds => exact h.elim
  | br i =>
    have e3 : σ[i]? = some (some v) := h
    unfold vw at e
    simp only at e
    cases q : ρ[i]? with
    | none => rw [q] at e; cases e
    | some s =>
      rw [q] at e
      have sl := R.sl i s q
      cases s with
      | no => cases e
      | va d' =>
        cases e
        obtain ⟨u, e1, h1⟩ := sl
        rw [e1] at e3
        cases e3
        exact dpMono R.sub h1
      | ls ds =>
        cases e
        obtain ⟨p, xs, e1, g, e2, al⟩ := sl
        rw [e1] at e3
        cases e3
        exact .lst (SqL.of e2) (dpsMono R.sub al)
      | hd _ => cases e
      | bg ds =>
        cases e
        obtain ⟨p, xs, e1, g, e2, al⟩ := sl
        rw [e1] at e3
        cases e3
        exact .lst (SqL.of e2) (dpsMono R.sub al)
end

/-! ### judgements weakened -/
section
variable {X : Cx} {e : Expr} {es : List Expr}
theorem weakE {t t' : TE} (h : PE X e t) (w : ∀ σ H Q, t' σ H Q → t σ H Q) : PE X e t' := ⟨fun pins s σ H Q I q => h.run pins s σ H Q I (w σ H Q q)⟩
theorem weakA {t t' : TA} (h : PA X es t) (w : ∀ σ H Q, t' σ H Q → t σ H Q) : PA X es t' := ⟨fun pos pins s σ H Q I q => h.run pos pins s σ H Q I (w σ H Q q)⟩
def fF (f : Fn RR) : Fn D := fun ρ => (f ρ).bind fun x => frz x.1 x.2
def fV (f : Fn RR) : Fn RR := fun ρ => (f ρ).map fun x => (half x.1, x.2)
theorem to_F {f : Fn RR} (h : PE X e (tD X.K f)) : PE X e (tF X.K (fF f)) := weakE h fun σ H Q ⟨G, ρ, d, ρ', R, q, k⟩ => by
  unfold fF at q
  cases z : f ρ with
  | none => rw [z] at q; cases q
  | some x =>
    rw [z] at q
    refine ⟨G, ρ, x.1, x.2, R, z, fun v G' H' P => ?_⟩
    obtain ⟨G'', r1, s1, dp⟩ := frz_ok P q
    exact k v G'' H' r1 s1 dp
theorem to_V {f : Fn RR} (h : PE X e (tD X.K f)) : PE X e (tV X.K (fV f)) := weakE h fun σ H Q ⟨G, ρ, d, ρ', R, q, k⟩ => by
  unfold fV at q
  cases z : f ρ with
  | none => rw [z] at q; cases q
  | some x =>
    rw [z] at q
    cases q
    refine ⟨G, ρ, x.1, x.2, R, z, fun v G' H' P => ?_⟩
    obtain ⟨G'', r1, s1, dp⟩ := half_ok P
    exact k v G'' H' r1 s1 dp
/-- a datum is a result -/
def fD (f : Fn D) : Fn RR := fun ρ => (f ρ).map fun x => (.va x.1, x.2)
theorem of_F {f : Fn D} (h : PE X e (tF X.K f)) : PE X e (tD X.K (fD f)) := weakE h fun σ H Q ⟨G, ρ, d, ρ', R, q, k⟩ => by
  unfold fD at q
  cases z : f ρ with
  | none => rw [z] at q; cases q
  | some x =>
    rw [z] at q
    cases q
    exact ⟨G, ρ, x.1, x.2, R, z, fun v G' H' R' S' dp => k v G' H' ⟨R', S', dp, trivial⟩⟩
def fsNil {α : Type} : Fn (List α) := fun ρ => some ([], ρ)
def fsCons {α : Type} (f : Fn α) (fs : Fn (List α)) : Fn (List α) := fun ρ => (f ρ).bind fun x => (fs x.2).map fun y => (x.1 :: y.1, y.2)
theorem fs_nil : PA X [] (tFs X.K fsNil) := weakA pa_nil fun σ H Q ⟨G, ρ, ds, ρ', R, q, k⟩ => by
  cases q
  exact k [] G H R .refl .nil
theorem fs_cons {f : Fn D} {fs : Fn (List D)} (h : PE X e (tF X.K f)) (t : PA X es (tFs X.K fs)) (hs : starEach (e :: es) X.env = (false, eval e X.env) :: starEach es X.env) : PA X (e :: es) (tFs X.K (fsCons f fs)) :=
  weakA (pa_cons h t hs) fun σ H Q ⟨G, ρ, ds, ρ', R, q, k⟩ => by
    unfold fsCons at q
    cases z : f ρ with
    | none => rw [z] at q; cases q
    | some x =>
      rw [z] at q
      cases z2 : fs x.2 with
      | none => rw [Option.bind_some, z2] at q; cases q
      | some y =>
        rw [Option.bind_some, z2] at q
        cases q
        exact ⟨G, ρ, x.1, x.2, R, z, fun v G1 H1 R1 S1 d1 => ⟨G1, x.2, y.1, y.2, R1, z2, fun vs G2 H2 R2 S2 d2 => k _ G2 H2 R2 (S1.trans S2) (.cons (dpMono S2.gg d1) d2)⟩⟩
theorem vs_nil : PA X [] (tVs X.K fsNil) := weakA pa_nil fun σ H Q ⟨G, ρ, ds, ρ', R, q, k⟩ => by
  cases q
  exact k [] G H R .refl .nil
theorem vs_cons {f : Fn RR} {fs : Fn (List RR)} (h : PE X e (tV X.K f)) (t : PA X es (tVs X.K fs)) (hs : starEach (e :: es) X.env = (false, eval e X.env) :: starEach es X.env) : PA X (e :: es) (tVs X.K (fsCons f fs)) :=
  weakA (pa_cons h t hs) fun σ H Q ⟨G, ρ, ds, ρ', R, q, k⟩ => by
    unfold fsCons at q
    cases z : f ρ with
    | none => rw [z] at q; cases q
    | some x =>
      rw [z] at q
      cases z2 : fs x.2 with
      | none => rw [Option.bind_some, z2] at q; cases q
      | some y =>
        rw [Option.bind_some, z2] at q
        cases q
        exact ⟨G, ρ, x.1, x.2, R, z, fun v G1 H1 R1 S1 d1 => ⟨G1, x.2, y.1, y.2, R1, z2, fun vs G2 H2 R2 S2 d2 => k _ G2 H2 R2 (S1.trans S2) (.cons (resV_mono S2.gg d1) d2)⟩⟩
end
end Den

set_option autoImplicit false
/-! Data-level denotations: operators, comparisons, tests, displays. -/
namespace Den
open PySem PySem.Spec L2

/-- a list's or a tuple's length, at most -/
abbrev lim : Nat := 1000000
theorem lim_lt {n : Nat} (h : n ≤ lim) : n < sizeLine := by
  have e : sizeLine = 16777216 := sizeLine_eq
  show n < sizeLine
  have h2 : n ≤ 1000000 := h
  omega
theorem lim_le {n : Nat} (h : n ≤ lim) : n ≤ sizeLine := Nat.le_of_lt (lim_lt h)

/-- a value that is read: a datum of G, or a list of the heap whose items are -/
def ViewR (K : PySem.W.Frag) (G H : Hp) (v : V) (d : D) : Prop :=
  Dp K G v d ∨ ∃ (p : Addr) (xs : List V) (ds : List D), v = .ref p ∧ H p = some (.lst xs) ∧ d = .list ds ∧ DpAll K G xs ds
structure Made (K : PySem.W.Frag) (G H : Hp) (v : V) (r : RR) (G' H' : Hp) : Prop where
  gg : Same G G'
  hh : Same H H'
  gh : Same G' H'
  old : ∀ a, H a ≠ none → G' a = G a
  res : match r with
    | .va d => Dp K G' v d
    | .ls ds => ∃ (p : Addr) (xs : List V), v = .ref p ∧ G' p = none ∧ H' p = some (.lst xs) ∧ DpAll K G' xs ds ∧ H p = none
    | .br _ => False
section
variable {K : PySem.W.Frag} {G G' H H' : Hp} {σ : St} {ρ ρ' : Lo} {v : V} {r : RR} {d : D}
theorem ViewR.dp (s : Same G H) (h : ViewR K G H v d) : Dp K H v d := by
  rcases h with h | ⟨p, xs, ds, rfl, e, rfl, al⟩
  · exact dpMono s h
  · exact .lst (SqL.of e) (dpsMono s al)
theorem vw_view (R : Rel K G H σ ρ) (h : ResV K G σ v r) (e : vw r ρ = some d) : ViewR K G H v d := by
  cases r with
  | va d' => cases e; exact .inl h
  | ls ds => exact h.elim
  | br i =>
    have e3 : σ[i]? = some (some v) := h
    unfold vw at e
    simp only at e
    cases q : ρ[i]? with
    | none => rw [q] at e; cases e
    | some s =>
      rw [q] at e
      have sl := R.sl i s q
      cases s with
      | no => cases e
      | va d' =>
        cases e
        obtain ⟨u, e1, h1⟩ := sl
        rw [e1] at e3
        cases e3
        exact .inl h1
      | ls ds =>
        cases e
        obtain ⟨p, xs, e1, g, e2, al⟩ := sl
        rw [e1] at e3
        cases e3
        exact .inr ⟨p, xs, ds, rfl, e2, rfl, al⟩
      | hd _ => cases e
      | bg ds =>
        cases e
        obtain ⟨p, xs, e1, g, e2, al⟩ := sl
        rw [e1] at e3
        cases e3
        exact .inr ⟨p, xs, ds, rfl, e2, rfl, al⟩
theorem Made.va (s : Same G H) (h : Dp K G v d) : Made K G H v (.va d) G H := ⟨Same.refl _, Same.refl _, s, fun _ _ => rfl, h⟩
theorem Made.tup {p : Addr} {xs : List V} {ds : List D} (s : Same G H) (n : H p = none) (h : DpAll K G xs ds) : Made K G H (.ref p) (.va (.tuple ds)) (upd G p (.tup xs)) (upd H p (.tup xs)) := by
  have g : G p = none := s.free n
  exact ⟨same_upd g, same_upd n, same_both s, fun a q => upd_ne fun z => q (by rw [z]; exact n), .tup (SqT.of upd_same) (dpsMono (same_upd g) h)⟩
theorem Made.ls {p : Addr} {xs : List V} {ds : List D} (s : Same G H) (n : H p = none) (h : DpAll K G xs ds) : Made K G H (.ref p) (.ls ds) G (upd H p (.lst xs)) :=
  ⟨Same.refl _, same_upd n, s.trans (same_upd n), fun _ _ => rfl, p, xs, rfl, s.free n, upd_same, h, n⟩
theorem Made.pst (R : Rel K G H σ ρ) (m : Made K G H v r G' H') : Pst K σ ρ G H r ρ v G' H' := by
  have own : ∀ (x : Option (Option V)) ds, Mine K G H x ds → Mine K G' H' x ds := fun x ds ⟨a, xs, e1, g, e2, al⟩ =>
    ⟨a, xs, e1, (m.old a (by rw [e2]; simp)).trans g, m.hh _ _ e2, dpsMono m.gg al⟩
  refine ⟨⟨m.gh, fun i s e => ?_, R.apart, R.len⟩, ⟨m.gg, fun a o e _ => m.hh a o e, fun a e _ => m.old a e, fun a h => .inl h, fun i ds h => ⟨ds, h, rfl⟩, fun a e => ?_⟩, ?_, ?_⟩
  · have q := R.sl i s e
    cases s with
    | no => trivial
    | va d => obtain ⟨v, e1, q⟩ := q; exact ⟨v, e1, dpMono m.gg q⟩
    | ls ds => exact own _ ds q
    | hd _ => exact q
    | bg ds => exact own _ ds q
  · cases q : H a with
    | none => exact absurd q e
    | some u => rw [m.hh _ _ q]; simp
  · cases r with
    | va d => exact m.res
    | ls ds =>
      obtain ⟨p, xs, e1, g, e2, al, n⟩ := m.res
      exact ⟨p, xs, e1, g, e2, al, fun o => R.owH o n⟩
    | br i => exact m.res.elim
  · cases r with
    | va d => trivial
    | ls ds =>
      obtain ⟨p, xs, e1, g, e2, al, n⟩ := m.res
      intro q eq
      rw [e1] at eq
      cases eq
      exact n
    | br i => trivial
theorem pst_trans {σ : St} {ρ₀ : Lo} {G₀ H₀ : Hp} (s : Stp σ ρ₀ G₀ H₀ σ ρ G H) (P : Pst K σ ρ G H r ρ' v G' H') : Pst K σ ρ₀ G₀ H₀ r ρ' v G' H' := by
  refine ⟨P.rel, s.trans P.stp, P.res, ?_⟩
  cases r with
  | va d => trivial
  | br i => trivial
  | ls ds =>
    intro p e
    have n := P.new p e
    cases q : H₀ p with
    | none => rfl
    | some o => exact absurd n (s.dom p (by rw [q]; simp))
end

/-! ### operators -/
def rD (K : PySem.W.Frag) (φ : D → D → Option RR) : R2 := fun x y H Q => ∃ (G : Hp) (d e : D) (r : RR), Same G H ∧ ViewR K G H x d ∧ ViewR K G H y e ∧ φ d e = some r ∧ ∀ v G' H', Made K G H v r G' H' → Q v H'
def rU1 (K : PySem.W.Frag) (φ : D → Option RR) : V → Hp → VK → Prop := fun x H Q => ∃ (G : Hp) (d : D) (r : RR), Same G H ∧ ViewR K G H x d ∧ φ d = some r ∧ ∀ v G' H', Made K G H v r G' H' → Q v H'
inductive ViewsR (K : PySem.W.Frag) (G H : Hp) : List V → List D → Prop
  | nil : ViewsR K G H [] []
  | cons {v vs d ds} : ViewR K G H v d → ViewsR K G H vs ds → ViewsR K G H (v :: vs) (d :: ds)
def rL (K : PySem.W.Frag) (φ : List D → Option RR) : List V → Hp → VK → Prop := fun vs H Q => ∃ (G : Hp) (ds : List D) (r : RR), Same G H ∧ ViewsR K G H vs ds ∧ φ ds = some r ∧ ∀ v G' H', Made K G H v r G' H' → Q v H'
def rM (K : PySem.W.Frag) (φ : D → List D → Option RR) : V → List V → Hp → VK → Prop := fun x vs H Q => ∃ (G : Hp) (d : D) (ds : List D) (r : RR), Same G H ∧ ViewR K G H x d ∧ ViewsR K G H vs ds ∧ φ d ds = some r ∧ ∀ v G' H', Made K G H v r G' H' → Q v H'
def f1 (φ : D → Option RR) (f : Fn RR) : Fn RR := fun ρ => (fV f ρ).bind fun x => (vw x.1 x.2).bind fun d => (φ d).map fun r => (r, x.2)
def f2 (φ : D → D → Option RR) (f g : Fn RR) : Fn RR := fun ρ => (fV f ρ).bind fun x => (fV g x.2).bind fun y => (vw x.1 y.2).bind fun d => (vw y.1 y.2).bind fun e => (φ d e).map fun r => (r, y.2)
def vws : List RR → Lo → Option (List D)
  | [], _ => some []
  | r :: rs, ρ => (vw r ρ).bind fun d => (vws rs ρ).map fun ds => d :: ds
def fL (φ : List D → Option RR) (fs : Fn (List RR)) : Fn RR := fun ρ => (fs ρ).bind fun x => (vws x.1 x.2).bind fun ds => (φ ds).map fun r => (r, x.2)
def fM (φ : D → List D → Option RR) (f : Fn RR) (fs : Fn (List RR)) : Fn RR := fun ρ => (fV f ρ).bind fun x => (fs x.2).bind fun y => (vw x.1 y.2).bind fun d => (vws y.1 y.2).bind fun ds => (φ d ds).map fun r => (r, y.2)
section
variable {X : Cx} {a b e : Expr} {es : List Expr} {f g : Fn RR} {fs : Fn (List RR)} {pos : Pos}
theorem bindS {α β : Type} {o : Option α} {k : α → Option β} {y : β} (h : o.bind k = some y) : ∃ x, o = some x ∧ k x = some y := by
  cases o with
  | none => cases h
  | some x => exact ⟨x, rfl, h⟩
theorem mapS {α β : Type} {o : Option α} {k : α → β} {y : β} (h : o.map k = some y) : ∃ x, o = some x ∧ k x = y := by
  cases o with
  | none => cases h
  | some x => exact ⟨x, rfl, Option.some.inj h⟩
theorem views_of {K : PySem.W.Frag} {G H : Hp} {σ : St} {ρ : Lo} (R : Rel K G H σ ρ) : ∀ {vs : List V} {rs : List RR} {ds : List D}, ResVs K G σ vs rs → vws rs ρ = some ds → ViewsR K G H vs ds
  | _, _, _, .nil, e => by cases e; exact .nil
  | _, _, _, .cons h t, e => by
    obtain ⟨d, e1, e⟩ := bindS e
    obtain ⟨ds, e2, rfl⟩ := mapS e
    exact .cons (vw_view R h e1) (views_of R t e2)
theorem w1 {φ : D → Option RR} {σ : St} {H : Hp} {Q : VK} (h : tD X.K (f1 φ f) σ H Q) : tV X.K (fV f) σ H fun x H1 => rU1 X.K φ x H1 Q := by
  obtain ⟨G, ρ, r, ρ', R, q, k⟩ := h
  obtain ⟨x, e1, q⟩ := bindS q
  obtain ⟨d, e3, q⟩ := bindS q
  obtain ⟨r', e5, q⟩ := mapS q
  cases q
  exact ⟨G, ρ, x.1, x.2, R, e1, fun v G1 H1 R1 S1 d1 => ⟨G1, d, r, R1.sub, vw_view R1 d1 e3, e5, fun v G' H' m => k v G' H' (pst_trans S1 (m.pst R1))⟩⟩
theorem w2 {φ : D → D → Option RR} {σ : St} {H : Hp} {Q : VK} (h : tD X.K (f2 φ f g) σ H Q) : tV X.K (fV f) σ H fun x H1 => tV X.K (fV g) σ H1 fun y H2 => rD X.K φ x y H2 Q := by
  obtain ⟨G, ρ, r, ρ', R, q, k⟩ := h
  obtain ⟨x, e1, q⟩ := bindS q
  obtain ⟨y, e2, q⟩ := bindS q
  obtain ⟨d, e3, q⟩ := bindS q
  obtain ⟨e', e4, q⟩ := bindS q
  obtain ⟨r', e5, q⟩ := mapS q
  cases q
  exact ⟨G, ρ, x.1, x.2, R, e1, fun v G1 H1 R1 S1 d1 => ⟨G1, x.2, y.1, y.2, R1, e2, fun u G2 H2 R2 S2 d2 =>
    ⟨G2, d, e', r, R2.sub, vw_view R2 (resV_mono S2.gg d1) e3, vw_view R2 d2 e4, e5, fun v G' H' m => k v G' H' (pst_trans (S1.trans S2) (m.pst R2))⟩⟩⟩
theorem wL {φ : List D → Option RR} {σ : St} {H : Hp} {Q : VK} (h : tD X.K (fL φ fs) σ H Q) : tVs X.K fs σ H fun vs H1 => rL X.K φ vs H1 Q := by
  obtain ⟨G, ρ, r, ρ', R, q, k⟩ := h
  obtain ⟨x, e1, q⟩ := bindS q
  obtain ⟨ds, e3, q⟩ := bindS q
  obtain ⟨r', e5, q⟩ := mapS q
  cases q
  exact ⟨G, ρ, x.1, x.2, R, e1, fun v G1 H1 R1 S1 d1 => ⟨G1, ds, r, R1.sub, views_of R1 d1 e3, e5, fun v G' H' m => k v G' H' (pst_trans S1 (m.pst R1))⟩⟩
theorem resVs_get {K : PySem.W.Frag} {G : Hp} {σ : St} {vs : List V} {rs : List RR} (h : ResVs K G σ vs rs) : vs.length = rs.length := by
  induction h with
  | nil => rfl
  | cons _ _ ih => simp [ih]
theorem wM {φ : D → List D → Option RR} {σ : St} {H : Hp} {Q : VK} (h : tD X.K (fM φ f fs) σ H Q) : tV X.K (fV f) σ H fun x H1 => tVs X.K fs σ H1 fun vs H2 => rM X.K φ x vs H2 Q := by
  obtain ⟨G, ρ, r, ρ', R, q, k⟩ := h
  obtain ⟨x, e1, q⟩ := bindS q
  obtain ⟨y, e2, q⟩ := bindS q
  obtain ⟨d, e3, q⟩ := bindS q
  obtain ⟨ds, e4, q⟩ := bindS q
  obtain ⟨r', e5, q⟩ := mapS q
  cases q
  exact ⟨G, ρ, x.1, x.2, R, e1, fun v G1 H1 R1 S1 d1 => ⟨G1, x.2, y.1, y.2, R1, e2, fun u G2 H2 R2 S2 d2 =>
    ⟨G2, d, ds, r, R2.sub, vw_view R2 (resV_mono S2.gg d1) e3, views_of R2 d2 e4, e5, fun v G' H' m => k v G' H' (pst_trans (S1.trans S2) (m.pst R2))⟩⟩⟩
theorem e_bin {op : Operator} {φ : D → D → Option RR} (ho : OpR X (binaryOp op) (rD X.K φ)) (ha : PE X a (tD X.K f)) (hb : PE X b (tD X.K g)) : PE X (.BinOp a op b pos) (tD X.K (f2 φ f g)) :=
  weakE (pe_op ho (to_V ha) (to_V hb)) fun _ _ _ h => w2 h
theorem e_cmp {op : CmpOp} {φ : D → D → Option RR} (ho : OpR X (compareOp op) (rD X.K φ)) (ha : PE X a (tD X.K f)) (hb : PE X b (tD X.K g)) (hm : behindInMarks op b = false) : PE X (.Compare a [op] [b] pos) (tD X.K (f2 φ f g)) :=
  weakE (pe_cmpR ho (to_V ha) (to_V hb) hm) fun _ _ _ h => w2 h
theorem e_un {op : UnaryOp} {φ : D → Option RR} (ho : UnR X (unaryOp op) (rU1 X.K φ)) (ha : PE X a (tD X.K f)) : PE X (.UnaryOp op a pos) (tD X.K (f1 φ f)) :=
  weakE (pe_un ho (to_V ha)) fun _ _ _ h => w1 h
theorem e_ix {φ : D → D → Option RR} (hr : IxR X (rD X.K φ)) (ha : PE X a (tD X.K f)) (hb : PE X b (tD X.K g)) (hs : PlainIx b) : PE X (.Subscript a b pos) (tD X.K (f2 φ f g)) :=
  weakE (pe_ix hr (to_V ha) (to_V hb) hs) fun _ _ _ h => w2 h

/-! ### names and constants -/
def fVar (i : Nat) : Fn RR := fun ρ => match ρ[i]? with
  | some (.va d) => some (.va d, ρ)
  | some (.ls _) => some (.br i, ρ)
  | some (.bg _) => some (.br i, ρ)
  | _ => none
def fC (d : D) : Fn RR := fun ρ => some (.va d, ρ)
theorem Pst.same {K : PySem.W.Frag} {G H : Hp} {σ : St} {ρ : Lo} {v : V} {r : RR} (R : Rel K G H σ ρ) (h : ResV K G σ v r) : Pst K σ ρ G H r ρ v G H := by
  cases r with
  | va d => exact ⟨R, .refl, h, trivial⟩
  | ls ds => exact h.elim
  | br i => exact ⟨R, .refl, h, trivial⟩
theorem e_var {i : Nat} {x : Str} (hN : X.N[i]? = some x) (hv : Vis X.env.scope x) (hd : (x == ("__debug__" : Str)) = false) (hcd : (x == ("__classdict__" : Str)) = false) : PE X (.Name x pos) (tD X.K (fVar i)) :=
  weakE (pe_var hN hv hd hcd) fun σ H Q ⟨G, ρ, r, ρ', R, q, k⟩ => by
    unfold fVar at q
    cases z : ρ[i]? with
    | none => rw [z] at q; cases q
    | some s =>
      rw [z] at q
      have sl := R.sl i s z
      cases s with
      | no => cases q
      | va d =>
        cases q
        obtain ⟨v, e1, h⟩ := sl
        exact ⟨v, e1, k v G H (.same R h)⟩
      | ls ds =>
        cases q
        obtain ⟨p, xs, e1, _⟩ := sl
        exact ⟨_, e1, k _ G H (.same R e1)⟩
      | hd _ => cases q
      | bg ds =>
        cases q
        obtain ⟨p, xs, e1, _⟩ := sl
        exact ⟨_, e1, k _ G H (.same R e1)⟩
/-- data that every heap shows -/
def Lit (K : PySem.W.Frag) (v : V) (d : D) : Prop := Dp K (fun _ => none) v d
theorem Lit.dp {K : PySem.W.Frag} {v : V} {d : D} (h : Lit K v d) (G : Hp) : Dp K G v d := dpMono (by intro _ _ z; cases z) h
theorem e_lit {v : V} {d : D} (h : PE X e (tC v)) (l : Lit X.K v d) : PE X e (tD X.K (fC d)) :=
  weakE h fun σ H Q ⟨G, ρ, r, ρ', R, q, k⟩ => by
    cases q
    exact k v G H (.same R (l.dp G))

/-! ### displays -/
def fTup (fs : Fn (List D)) : Fn RR := fun ρ => (fs ρ).bind fun x => if x.1.length ≤ lim then some (.va (.tuple x.1), x.2) else none
def fLst (fs : Fn (List D)) : Fn RR := fun ρ => (fs ρ).bind fun x => if x.1.length ≤ lim then some (.ls x.1, x.2) else none
theorem e_tup {fs : Fn (List D)} {x1 : Nat} (h : PA X es (tFs X.K fs)) : PE X (.Tuple es x1 pos) (tD X.K (fTup fs)) :=
  weakE (pe_tup h) fun σ H Q ⟨G, ρ, r, ρ', R, q, k⟩ => by
    obtain ⟨x, e1, q⟩ := bindS q
    by_cases hl : x.1.length ≤ lim
    · rw [if_pos hl] at q
      cases q
      refine ⟨G, ρ, x.1, x.2, R, e1, fun vs G1 H1 R1 S1 d1 => ⟨by rw [dpsLen d1]; exact lim_le hl, fun p hp => ?_⟩⟩
      exact k _ _ _ (pst_trans S1 ((Made.tup R1.sub hp d1).pst R1))
    · rw [if_neg hl] at q
      cases q
theorem e_lst {fs : Fn (List D)} (h : PA X es (tFs X.K fs)) : PE X (.List es pos) (tD X.K (fLst fs)) :=
  weakE (pe_lst h) fun σ H Q ⟨G, ρ, r, ρ', R, q, k⟩ => by
    obtain ⟨x, e1, q⟩ := bindS q
    by_cases hl : x.1.length ≤ lim
    · rw [if_pos hl] at q
      cases q
      refine ⟨G, ρ, x.1, x.2, R, e1, fun vs G1 H1 R1 S1 d1 => ⟨by rw [dpsLen d1]; exact lim_le hl, fun p hp => ?_⟩⟩
      exact k _ _ _ (pst_trans S1 ((Made.ls R1.sub hp d1).pst R1))
    · rw [if_neg hl] at q
      cases q

/-! ### tests -/
def truth : D → Option Bool
  | .none => some false
  | .bool b => some b
  | .int i => some (i != 0)
  | .str y => if y.length ≤ lim then some ((y.length : Int) != 0) else none
  | .list xs => some (!xs.isEmpty)
  | .tuple xs => some (!xs.isEmpty)
  | .dict _ => none
abbrev FT := Fn Bool
def tT (K : PySem.W.Frag) (f : FT) : TT := fun σ H Q => ∃ G ρ b ρ', Rel K G H σ ρ ∧ f ρ = some (b, ρ') ∧ ∀ G' H', Rel K G' H' σ ρ' → Stp σ ρ G H σ ρ' G' H' → Q b H'
def fT (f : Fn RR) : FT := fun ρ => (fV f ρ).bind fun x => (vw x.1 x.2).bind fun d => (truth d).map fun b => (b, x.2)
theorem weakT {e : Expr} {t t' : TT} (h : PT X e t) (w : ∀ σ H Q, t' σ H Q → t σ H Q) : PT X e t' := ⟨fun pins s σ H Q I q => h.run pins s σ H Q I (w σ H Q q)⟩
theorem weakW {e : Expr} {t t' : TT} (h : PW X e t) (w : ∀ σ H Q, t' σ H Q → t σ H Q) : PW X e t' := ⟨fun wh pins s σ H Q I q => h.run wh pins s σ H Q I (w σ H Q q)⟩
theorem empty_dps {K : PySem.W.Frag} {G : Hp} {xs : List V} {ds : List D} (h : DpAll K G xs ds) : (!ds.isEmpty) = !xs.isEmpty := by
  cases h <;> rfl
theorem truv_of {K : PySem.W.Frag} {H : Hp} {v : V} {d : D} {b : Bool} (h : Dp K H v d) (e : truth d = some b) : TruV K v H b := by
  cases h with
  | non => cases e; rfl
  | bl b' => cases e; rfl
  | int i => cases e; rfl
  | str y =>
    simp only [truth] at e
    by_cases hl : y.length ≤ lim
    · rw [if_pos hl] at e
      cases e
      exact ⟨lim_le hl, rfl⟩
    · rw [if_neg hl] at e
      cases e
  | lst hs al =>
    cases e
    exact .inl ⟨_, hs, empty_dps al⟩
  | tup hs al =>
    cases e
    exact .inr (.inl ⟨_, hs, empty_dps al⟩)
theorem t_val (ha : PE X a (tD X.K f)) (he : ∀ whole, isTrue a X.env whole = (do let v ← whole; standAt a.pos; holding [v] (truthy v))) : PT X a (tT X.K (fT f)) :=
  weakT (pt_truth (to_V ha) he) fun σ H Q ⟨G, ρ, b, ρ', R, q, k⟩ => by
    obtain ⟨x, e1, q⟩ := bindS q
    obtain ⟨d, e2, q⟩ := bindS q
    obtain ⟨b', e3, q⟩ := mapS q
    cases q
    exact ⟨G, ρ, x.1, x.2, R, e1, fun v G1 H1 R1 S1 d1 => ⟨b, truv_of ((vw_view R1 d1 e2).dp R1.sub) e3, k G1 H1 R1 S1⟩⟩
theorem t_cmp {op : CmpOp} {φ : D → D → Option RR} (ho : OpR X (compareOp op) (rD X.K φ)) (ha : PE X a (tD X.K f)) (hb : PE X b (tD X.K g)) (hm : behindInMarks op b = false) (hφ : ∀ d e r, φ d e = some r → ∃ b, r = .va (.bool b)) :
    PT X (.Compare a [op] [b] pos) (tT X.K (fT (f2 φ f g))) :=
  weakT (pt_cmpR ho (to_V ha) (to_V hb) hm) fun σ H Q ⟨G, ρ, c, ρ', R, q, k⟩ => by
    obtain ⟨x, e1, q⟩ := bindS q
    obtain ⟨y, e0, ey⟩ := mapS e1
    obtain ⟨d, e2, q⟩ := bindS q
    obtain ⟨b', e3, q⟩ := mapS q
    have h : tD X.K (f2 φ f g) σ H (fun x H' => ∃ k, x = .bl k ∧ Q k H') := by
      refine ⟨G, ρ, y.1, y.2, R, e0, fun v G' H' P => ?_⟩
      obtain ⟨z1, e4, q4⟩ := bindS e0
      obtain ⟨z2, e5, q5⟩ := bindS q4
      obtain ⟨z3, e6, q6⟩ := bindS q5
      obtain ⟨z4, e7, q7⟩ := bindS q6
      obtain ⟨z5, e8, q8⟩ := mapS q7
      obtain ⟨bb, e9⟩ := hφ _ _ _ e8
      subst e9
      subst q8
      subst ey
      cases e2
      cases e3
      cases q
      have res : Dp X.K G' v (.bool _) := P.res
      cases res
      exact ⟨_, rfl, k G' H' P.rel P.stp⟩
    exact w2 h
def fAnd (f g : FT) : FT := fun ρ => (f ρ).bind fun x => if x.1 then g x.2 else some (false, x.2)
def fOr (f g : FT) : FT := fun ρ => (f ρ).bind fun x => if x.1 then some (true, x.2) else g x.2
def fNot (f : FT) : FT := fun ρ => (f ρ).map fun x => (!x.1, x.2)
theorem tt_and {f g : FT} {σ : St} {H : Hp} {Q : Bool → Hp → Prop} (h : tT X.K (fAnd f g) σ H Q) : tAnd (tT X.K f) (tT X.K g) σ H Q := by
  obtain ⟨G, ρ, c, ρ', R, q, k⟩ := h
  obtain ⟨x, e1, q⟩ := bindS q
  refine ⟨G, ρ, x.1, x.2, R, e1, fun G1 H1 R1 S1 => ?_⟩
  cases hx : x.1 with
  | true =>
    rw [hx, if_pos rfl] at q
    rw [if_pos rfl]
    exact ⟨G1, x.2, c, ρ', R1, q, fun G2 H2 R2 S2 => k G2 H2 R2 (S1.trans S2)⟩
  | false =>
    rw [hx, if_neg (by simp)] at q
    cases q
    rw [if_neg (by simp)]
    exact k G1 H1 R1 S1
theorem tt_or {f g : FT} {σ : St} {H : Hp} {Q : Bool → Hp → Prop} (h : tT X.K (fOr f g) σ H Q) : tOr (tT X.K f) (tT X.K g) σ H Q := by
  obtain ⟨G, ρ, c, ρ', R, q, k⟩ := h
  obtain ⟨x, e1, q⟩ := bindS q
  refine ⟨G, ρ, x.1, x.2, R, e1, fun G1 H1 R1 S1 => ?_⟩
  cases hx : x.1 with
  | true =>
    rw [hx, if_pos rfl] at q
    cases q
    rw [if_pos rfl]
    exact k G1 H1 R1 S1
  | false =>
    rw [hx, if_neg (by simp)] at q
    rw [if_neg (by simp)]
    exact ⟨G1, x.2, c, ρ', R1, q, fun G2 H2 R2 S2 => k G2 H2 R2 (S1.trans S2)⟩
theorem t_not {f : FT} (h : PT X a (tT X.K f)) : PT X (.UnaryOp .Not a pos) (tT X.K (fNot f)) :=
  weakT (pt_not h) fun σ H Q ⟨G, ρ, c, ρ', R, q, k⟩ => by
    obtain ⟨x, e1, q⟩ := mapS q
    cases q
    exact ⟨G, ρ, x.1, x.2, R, e1, fun G1 H1 R1 S1 => k G1 H1 R1 S1⟩
/-- a test's outcome as a value -/
def fB (f : FT) : Fn RR := fun ρ => (f ρ).map fun x => (.va (.bool x.1), x.2)
def isB (f : Fn RR) : Fn Bool := fun ρ => (fV f ρ).bind fun x => match x.1 with
  | .va (.bool b) => some (b, x.2)
  | _ => none
/-- and, or of truths, as values -/
def fAndV (f g : Fn RR) : Fn RR := fun ρ => (isB f ρ).bind fun x => if x.1 then g x.2 else some (.va (.bool false), x.2)
def fOrV (f g : Fn RR) : Fn RR := fun ρ => (isB f ρ).bind fun x => if x.1 then some (.va (.bool true), x.2) else g x.2
theorem isB_ok {f : Fn RR} {σ : St} {H : Hp} {G : Hp} {ρ : Lo} {x : Bool × Lo} {Q : VK} (R : Rel X.K G H σ ρ) (e : isB f ρ = some x) (k : ∀ G' H', Rel X.K G' H' σ x.2 → Stp σ ρ G H σ x.2 G' H' → Q (.bl x.1) H') : tV X.K (fV f) σ H Q := by
  obtain ⟨y, e1, e⟩ := bindS e
  refine ⟨G, ρ, y.1, y.2, R, e1, fun v G1 H1 R1 S1 d1 => ?_⟩
  cases hy : y.1 with
  | ls ds => rw [hy] at e; cases e
  | br i => rw [hy] at e; cases e
  | va d =>
    rw [hy] at e d1
    cases d with
    | bool b =>
      cases e
      cases (show Dp X.K G1 v (.bool b) from d1)
      exact k G1 H1 R1 S1
    | _ => cases e
theorem e_and {f g : Fn RR} {rest : List Expr} (ha : PE X a (tD X.K f)) (hb : PE X (.BoolOp .And (b :: rest) pos) (tD X.K g)) : PE X (.BoolOp .And (a :: b :: rest) pos) (tD X.K (fAndV f g)) :=
  weakE (pe_and (to_V ha) hb) fun σ H Q ⟨G, ρ, r, ρ', R, q, k⟩ => by
    obtain ⟨x, e1, q⟩ := bindS q
    refine isB_ok R e1 fun G1 H1 R1 S1 => ⟨x.1, rfl, ?_⟩
    cases hx : x.1 with
    | true =>
      rw [hx, if_pos rfl] at q
      rw [if_pos rfl]
      exact ⟨G1, x.2, r, ρ', R1, q, fun v G2 H2 P => k v G2 H2 (pst_trans S1 P)⟩
    | false =>
      rw [hx, if_neg (by simp)] at q
      cases q
      rw [if_neg (by simp)]
      exact k _ G1 H1 (pst_trans S1 (.same R1 (.bl false)))
theorem e_or {f g : Fn RR} {rest : List Expr} (ha : PE X a (tD X.K f)) (hb : PE X (.BoolOp .Or (b :: rest) pos) (tD X.K g)) : PE X (.BoolOp .Or (a :: b :: rest) pos) (tD X.K (fOrV f g)) :=
  weakE (pe_or (to_V ha) hb) fun σ H Q ⟨G, ρ, r, ρ', R, q, k⟩ => by
    obtain ⟨x, e1, q⟩ := bindS q
    refine isB_ok R e1 fun G1 H1 R1 S1 => ⟨x.1, rfl, ?_⟩
    cases hx : x.1 with
    | false =>
      rw [hx, if_neg (by simp)] at q
      rw [if_neg (by simp)]
      exact ⟨G1, x.2, r, ρ', R1, q, fun v G2 H2 P => k v G2 H2 (pst_trans S1 P)⟩
    | true =>
      rw [hx, if_pos rfl] at q
      cases q
      rw [if_pos rfl]
      exact k _ G1 H1 (pst_trans S1 (.same R1 (.bl true)))
/-- not, as a value (of a truth) -/
def fNotV (f : Fn RR) : Fn RR := fun ρ => (isB f ρ).map fun x => (.va (.bool (!x.1)), x.2)
theorem e_not {f : Fn RR} (ha : PE X a (tD X.K f)) : PE X (.UnaryOp .Not a pos) (tD X.K (fNotV f)) :=
  weakE (pe_not (to_V ha)) fun σ H Q ⟨G, ρ, r, ρ', R, q, k⟩ => by
    obtain ⟨x, e1, q⟩ := mapS q
    cases q
    exact isB_ok R e1 fun G1 H1 R1 S1 => ⟨x.1, rfl, k _ G1 H1 (pst_trans S1 (.same R1 (.bl (!x.1))))⟩
def fIf (c : FT) (f g : Fn RR) : Fn RR := fun ρ => (c ρ).bind fun x => if x.1 then f x.2 else g x.2
theorem e_if {c : Expr} {fc : FT} {f g : Fn RR} (hc : PT X c (tT X.K fc)) (ha : PE X a (tD X.K f)) (hb : PE X b (tD X.K g)) : PE X (.IfExp c a b pos) (tD X.K (fIf fc f g)) :=
  weakE (pe_ifExp hc ha hb) fun σ H Q ⟨G, ρ, r, ρ', R, q, k⟩ => by
    obtain ⟨x, e1, q⟩ := bindS q
    refine ⟨G, ρ, x.1, x.2, R, e1, fun G1 H1 R1 S1 => ?_⟩
    cases hx : x.1 with
    | true =>
      rw [hx, if_pos rfl] at q
      rw [if_pos rfl]
      exact ⟨G1, x.2, r, ρ', R1, q, fun v G2 H2 P => k v G2 H2 (pst_trans S1 P)⟩
    | false =>
      rw [hx, if_neg (by simp)] at q
      rw [if_neg (by simp)]
      exact ⟨G1, x.2, r, ρ', R1, q, fun v G2 H2 P => k v G2 H2 (pst_trans S1 P)⟩
end
end Den

set_option autoImplicit false
/-! Data-level denotations: single operators and built-ins. -/
namespace Den
open PySem PySem.Spec L2

section
variable {K : PySem.W.Frag} {G H : Hp} {v : V}
theorem view_int {i : Int} (h : ViewR K G H v (.int i)) : v = .int i := by
  rcases h with h | ⟨_, _, _, _, _, e, _⟩
  · cases h; rfl
  · cases e
theorem view_bool {i : Bool} (h : ViewR K G H v (.bool i)) : v = .bl i := by
  rcases h with h | ⟨_, _, _, _, _, e, _⟩
  · cases h; rfl
  · cases e
theorem view_str {i : Str} (h : ViewR K G H v (.str i)) : v = .str i := by
  rcases h with h | ⟨_, _, _, _, _, e, _⟩
  · cases h; rfl
  · cases e
theorem view_none (h : ViewR K G H v .none) : v = .non := by
  rcases h with h | ⟨_, _, _, _, _, e, _⟩
  · cases h; rfl
  · cases e
theorem view_list {ds : List D} (s : Same G H) (h : ViewR K G H v (.list ds)) : ∃ (a : Addr) (xs : List V), v = .ref a ∧ SqL K H a xs ∧ DpAll K G xs ds := by
  rcases h with h | ⟨p, xs, ds', rfl, e, e2, al⟩
  · cases h with
    | lst hs al => exact ⟨_, _, rfl, s.seq hs, al⟩
  · cases e2
    exact ⟨p, xs, rfl, SqL.of e, al⟩
theorem view_tup {ds : List D} (s : Same G H) (h : ViewR K G H v (.tuple ds)) : ∃ (a : Addr) (xs : List V), v = .ref a ∧ SqT K H a xs ∧ DpAll K G xs ds := by
  rcases h with h | ⟨p, xs, ds', rfl, e, e2, al⟩
  · cases h with
    | tup hs al => exact ⟨_, _, rfl, same_tup s hs, al⟩
  · cases e2
theorem view_tupG {ds : List D} (h : ViewR K G H v (.tuple ds)) : Dp K G v (.tuple ds) := by
  rcases h with h | ⟨p, xs, ds', rfl, e, e2, al⟩
  · exact h
  · cases e2
theorem made_int (s : Same G H) (i : Int) : Made K G H (.int i) (.va (.int i)) G H := .va s (.int i)
theorem made_bool (s : Same G H) (i : Bool) : Made K G H (.bl i) (.va (.bool i)) G H := .va s (.bl i)
theorem made_str (s : Same G H) (i : Str) : Made K G H (.str i) (.va (.str i)) G H := .va s (.str i)
end

/-! ### arithmetic -/
def φAdd : D → D → Option RR
  | .int i, .int j => some (.va (.int (i + j)))
  | .str x, .str y => if x.length + y.length ≤ lim then some (.va (.str (x ++ y))) else none
  | .list xs, .list ys => if xs.length + ys.length ≤ lim then some (.ls (xs ++ ys)) else none
  | .tuple xs, .tuple ys => if xs.length + ys.length ≤ lim then some (.va (.tuple (xs ++ ys))) else none
  | _, _ => none
def φSub : D → D → Option RR
  | .int i, .int j => some (.va (.int (i - j)))
  | _, _ => none
def φMul : D → D → Option RR
  | .int i, .int j => if (-(2 ^ 64) < i ∧ i < 2 ^ 64) ∨ (-(2 ^ 64) < j ∧ j < 2 ^ 64) then some (.va (.int (i * j))) else none
  | _, _ => none
def φDiv : D → D → Option RR
  | .int i, .int j => if 0 < j ∧ j < 18446744073709551616 then some (.va (.int (i / j))) else none
  | _, _ => none
def φMod : D → D → Option RR
  | .int i, .int j => if 0 < j then some (.va (.int (i % j))) else none
  | _, _ => none
def φPow : D → D → Option RR
  | .int i, .int j => if 0 ≤ j ∧ j ≤ 100 ∧ -1000 < i ∧ i < 1000 then some (.va (.int (i ^ j.toNat))) else none
  | _, _ => none
section
variable {X : Cx}
theorem iteS {α : Type} {c : Prop} [Decidable c] {x y : α} (h : (if c then some x else none) = some y) : c ∧ x = y := by
  by_cases hc : c
  · rw [if_pos hc] at h
    exact ⟨hc, Option.some.inj h⟩
  · rw [if_neg hc] at h
    cases h
theorem d_cat {pins : List (Addr × Obj)} {s : Shared} {σ : St} {H : Hp} {l b : Addr} {xs ys : List V} {Q : VK} (I : Inv X pins σ H s) (ha : SqL X.K H l xs) (hb : SqL X.K H b ys) (hz : xs.length + ys.length ≤ sizeLine)
    (q : ∀ p, H p = none → Q (.ref p) (upd H p (.lst (xs ++ ys)))) : wpAny (model X.prog X.w) X.A (binaryOp .Add (.ref l) (.ref b)) (EP X pins σ Q) X.xe s := by
  obtain ⟨its, r, pl, _⟩ := I.list ha
  obtain ⟨its2, r2, pl2, _⟩ := I.list hb
  obtain ⟨⟨cls, dd, data, sl⟩, n, ho, hc, _, hd⟩ := pl
  obtain ⟨⟨cls2, dd2, data2, sl2⟩, n2, ho2, hc2, _, hd2⟩ := pl2
  simp only at hc hd hc2 hd2
  subst hc hd hc2 hd2
  have l1 := r.length
  have l2 := r2.length
  refine concat_meets ⟨_, ho, rfl⟩ ⟨_, ho2, rfl⟩ noFill_list_add seq_list_add PySem.F.slot_list_add PySem.F.entry_list_add (PySem.F.args_list_add_2 _ _)
    (PyProof.Rows.list_addW l b its.toArray its2.toArray n n2 dd dd2 sl sl2 (by rw [List.size_toArray, List.size_toArray]; omega)) ⟨ho, ho2, ?_⟩
  have ea : its.toArray ++ its2.toArray = (its ++ its2).toArray := by simp
  rw [ea]
  exact ⟨.ref _, _, I.lnew (t' := s.toks) (r.append r2) (by rw [List.length_append]; omega), rfl, q _ I.fresh⟩
theorem o_add : OpR X (binaryOp .Add) (rD X.K φAdd) := by
  intro pins s σ H x y v u Q I rx ry h
  obtain ⟨G, d, e, r, sg, hx, hy, hφ, k⟩ := h
  unfold φAdd at hφ
  split at hφ
  · cases hφ
    cases view_int hx
    cases view_int hy
    exact op_add pins s σ H _ _ v u Q I rx ry ⟨_, _, rfl, rfl, k _ G H (made_int sg _)⟩
  · obtain ⟨hc, rfl⟩ := iteS hφ
    cases view_str hx
    cases view_str hy
    exact op_add_str pins s σ H _ _ v u Q I rx ry ⟨_, _, rfl, rfl, lim_le hc, k _ G H (made_str sg _)⟩
  · obtain ⟨hc, rfl⟩ := iteS hφ
    obtain ⟨a, xs, rfl, ha, al⟩ := view_list sg hx
    obtain ⟨b, ys, rfl, hb, bl⟩ := view_list sg hy
    cases rx
    cases ry
    exact d_cat I ha hb (by rw [dpsLen al, dpsLen bl]; exact lim_le hc) fun p hp => k _ _ _ (.ls sg hp (dpsApp al bl))
  · obtain ⟨hc, rfl⟩ := iteS hφ
    obtain ⟨a, xs, rfl, ha, al⟩ := view_tup sg hx
    obtain ⟨b, ys, rfl, hb, bl⟩ := view_tup sg hy
    refine op_catA pins s σ H _ _ v u Q I rx ry ⟨a, b, xs, ys, rfl, rfl, ha, hb, by rw [dpsLen al, dpsLen bl]; exact lim_le hc, fun z => ?_, fun _ z => ?_, fun _ _ p hp => k _ _ _ (.tup sg hp (dpsApp al bl))⟩
    · subst z
      cases al
      exact k _ G H (.va sg (view_tupG hy))
    · subst z
      cases bl
      rw [List.append_nil] at k
      exact k _ G H (.va sg (view_tupG hx))
  · cases hφ
theorem o_sub : OpR X (binaryOp .Sub) (rD X.K φSub) := by
  intro pins s σ H x y v u Q I rx ry h
  obtain ⟨G, d, e, r, sg, hx, hy, hφ, k⟩ := h
  unfold φSub at hφ
  split at hφ
  · cases hφ
    cases view_int hx
    cases view_int hy
    exact op_sub pins s σ H _ _ v u Q I rx ry ⟨_, _, rfl, rfl, k _ G H (made_int sg _)⟩
  · cases hφ
theorem o_mul : OpR X (binaryOp .Mult) (rD X.K φMul) := by
  intro pins s σ H x y v u Q I rx ry h
  obtain ⟨G, d, e, r, sg, hx, hy, hφ, k⟩ := h
  unfold φMul at hφ
  split at hφ
  · obtain ⟨hc, rfl⟩ := iteS hφ
    cases view_int hx
    cases view_int hy
    exact op_mul pins s σ H _ _ v u Q I rx ry ⟨_, _, rfl, rfl, hc, k _ G H (made_int sg _)⟩
  · cases hφ
theorem o_div : OpR X (binaryOp .FloorDiv) (rD X.K φDiv) := by
  intro pins s σ H x y v u Q I rx ry h
  obtain ⟨G, d, e, r, sg, hx, hy, hφ, k⟩ := h
  unfold φDiv at hφ
  split at hφ
  · obtain ⟨hc, rfl⟩ := iteS hφ
    cases view_int hx
    cases view_int hy
    exact op_fdivW pins s σ H _ _ v u Q I rx ry ⟨_, _, rfl, rfl, wide_div (b := 64) hc.1 (by omega) (by decide) (by decide), k _ G H (made_int sg _)⟩
  · cases hφ
theorem o_mod : OpR X (binaryOp .Mod) (rD X.K φMod) := by
  intro pins s σ H x y v u Q I rx ry h
  obtain ⟨G, d, e, r, sg, hx, hy, hφ, k⟩ := h
  unfold φMod at hφ
  split at hφ
  · obtain ⟨hc, rfl⟩ := iteS hφ
    cases view_int hx
    cases view_int hy
    exact op_mod pins s σ H _ _ v u Q I rx ry ⟨_, _, rfl, rfl, hc, k _ G H (made_int sg _)⟩
  · cases hφ
theorem o_pow : OpR X (binaryOp .Pow) (rD X.K φPow) := by
  intro pins s σ H x y v u Q I rx ry h
  obtain ⟨G, d, e, r, sg, hx, hy, hφ, k⟩ := h
  unfold φPow at hφ
  split at hφ
  · obtain ⟨hc, rfl⟩ := iteS hφ
    cases view_int hx
    cases view_int hy
    exact op_pow pins s σ H _ _ v u Q I rx ry ⟨_, _, rfl, rfl, ⟨hc.1, by omega, by omega⟩, k _ G H (made_int sg _)⟩
  · cases hφ
def φNeg : D → Option RR
  | .int i => some (.va (.int (-i)))
  | _ => none
theorem o_neg : UnR X (unaryOp .USub) (rU1 X.K φNeg) := by
  intro pins s σ H x v Q I rx h
  obtain ⟨G, d, r, sg, hx, hφ, k⟩ := h
  unfold φNeg at hφ
  split at hφ
  · cases hφ
    cases view_int hx
    exact un_neg pins s σ H _ v Q I rx ⟨_, rfl, k _ G H (made_int sg _)⟩
  · cases hφ

/-! ### comparisons -/
def isStrD : D → Bool
  | .str _ => true
  | _ => false
def φEq (d e : D) : Option RR := if (SeqAt.shaped d = true ∧ SeqAt.shaped e = true) ∨ (isStrD d = true ∧ isStrD e = true) then some (.va (.bool (PyData.eqv d e))) else none
def φNe (d e : D) : Option RR := if (SeqAt.shaped d = true ∧ SeqAt.shaped e = true) ∨ (isStrD d = true ∧ isStrD e = true) then some (.va (.bool (!PyData.eqv d e))) else none
theorem isStr_ok {d : D} (h : isStrD d = true) : ∃ x, d = .str x := by
  cases d <;> first | exact ⟨_, rfl⟩ | cases h
theorem o_eq (hu : X.A.units + 64 < cLine) : OpR X (compareOp .Eq) (rD X.K φEq) := by
  intro pins s σ H x y v u Q I rx ry h
  obtain ⟨G, d, e, r, sg, hx, hy, hφ, k⟩ := h
  obtain ⟨hc, rfl⟩ := iteS hφ
  rcases hc with hc | hc
  · exact op_eqD hu pins s σ H _ _ v u Q I rx ry ⟨d, e, hx.dp sg, hy.dp sg, hc.1, hc.2, k _ G H (made_bool sg _)⟩
  · obtain ⟨a, rfl⟩ := isStr_ok hc.1
    obtain ⟨b, rfl⟩ := isStr_ok hc.2
    cases view_str hx
    cases view_str hy
    refine op_eq pins s σ H _ _ v u Q I rx ry ⟨rfl, ?_⟩
    rw [dec_str]
    exact k _ G H (made_bool sg _)
theorem o_ne (hu : X.A.units + 64 < cLine) : OpR X (compareOp .NotEq) (rD X.K φNe) := by
  intro pins s σ H x y v u Q I rx ry h
  obtain ⟨G, d, e, r, sg, hx, hy, hφ, k⟩ := h
  obtain ⟨hc, rfl⟩ := iteS hφ
  rcases hc with hc | hc
  · exact op_neD hu pins s σ H _ _ v u Q I rx ry ⟨d, e, hx.dp sg, hy.dp sg, hc.1, hc.2, k _ G H (made_bool sg _)⟩
  · obtain ⟨a, rfl⟩ := isStr_ok hc.1
    obtain ⟨b, rfl⟩ := isStr_ok hc.2
    cases view_str hx
    cases view_str hy
    refine op_ne pins s σ H _ _ v u Q I rx ry ⟨rfl, ?_⟩
    rw [dec_str]
    exact k _ G H (made_bool sg _)
def φCmp (p : Int → Int → Bool) : D → D → Option RR
  | .int i, .int j => some (.va (.bool (p i j)))
  | _, _ => none
theorem o_cmp {f : Value → Value → Sem Value} {p : Int → Int → Bool} (ho : OpR X f (rI0 fun i j => .bl (p i j))) : OpR X f (rD X.K (φCmp p)) := by
  intro pins s σ H x y v u Q I rx ry h
  obtain ⟨G, d, e, r, sg, hx, hy, hφ, k⟩ := h
  unfold φCmp at hφ
  split at hφ
  · cases hφ
    cases view_int hx
    cases view_int hy
    exact ho pins s σ H _ _ v u Q I rx ry ⟨_, _, rfl, rfl, k _ G H (made_bool sg _)⟩
  · cases hφ
def φIn (d : D) : D → Option RR
  | .list es => if SeqAt.shaped d = true ∧ SeqAt.shaped (.list es) = true then some (.va (.bool (es.any fun z => PyData.eqv z d))) else none
  | .tuple es => if SeqAt.shaped d = true ∧ SeqAt.shaped (.tuple es) = true then some (.va (.bool (es.any fun z => PyData.eqv z d))) else none
  | _ => none
def φNotIn (d : D) : D → Option RR
  | .list es => if SeqAt.shaped d = true ∧ SeqAt.shaped (.list es) = true then some (.va (.bool (!es.any fun z => PyData.eqv z d))) else none
  | .tuple es => if SeqAt.shaped d = true ∧ SeqAt.shaped (.tuple es) = true then some (.va (.bool (!es.any fun z => PyData.eqv z d))) else none
  | _ => none
theorem canLayT {es : List D} (h : SeqAt.shaped (.tuple es) = true) : PyData.canLayAll0 es = true := by
  have q := SeqAt.canLay_of_shaped h
  simpa only [PyData.canLay0] using q
theorem o_in (hu : X.A.units + 65 < cLine) : OpR X (compareOp .In) (rD X.K φIn) := by
  intro pins s σ H x y v u Q I rx ry h
  obtain ⟨G, d, e, r, sg, hx, hy, hφ, k⟩ := h
  unfold φIn at hφ
  split at hφ
  · obtain ⟨hc, rfl⟩ := iteS hφ
    exact op_inD hu pins s σ H _ _ v u Q I rx ry ⟨d, _, hx.dp sg, hy.dp sg, hc.1, hc.2, k _ G H (made_bool sg _)⟩
  · obtain ⟨hc, rfl⟩ := iteS hφ
    obtain ⟨as, r1⟩ := Dp.reads I d x v (hx.dp sg) rx
    obtain ⟨bs, r2⟩ := Dp.reads I _ y u (hy.dp sg) ry
    exact SeqAt.in_tuple_reads r2 r1 (canLayT hc.2) (SeqAt.canLay_of_shaped hc.1) (PyProof.Rows.room_in_shaped hc.1 hu) ⟨.bl _, H, I, rfl, k _ G H (made_bool sg _)⟩
  · cases hφ
theorem o_notIn (hu : X.A.units + 65 < cLine) : OpR X (compareOp .NotIn) (rD X.K φNotIn) := by
  intro pins s σ H x y v u Q I rx ry h
  obtain ⟨G, d, e, r, sg, hx, hy, hφ, k⟩ := h
  unfold φNotIn at hφ
  split at hφ
  · obtain ⟨hc, rfl⟩ := iteS hφ
    exact op_notInD hu pins s σ H _ _ v u Q I rx ry ⟨d, _, hx.dp sg, hy.dp sg, hc.1, hc.2, k _ G H (made_bool sg _)⟩
  · obtain ⟨hc, rfl⟩ := iteS hφ
    obtain ⟨as, r1⟩ := Dp.reads I d x v (hx.dp sg) rx
    obtain ⟨bs, r2⟩ := Dp.reads I _ y u (hy.dp sg) ry
    exact SeqAt.notIn_tuple_reads r2 r1 (canLayT hc.2) (SeqAt.canLay_of_shaped hc.1) (PyProof.Rows.room_in_shaped hc.1 hu) ⟨.bl _, H, I, rfl, k _ G H (made_bool sg _)⟩
  · cases hφ
def isNone : D → Bool
  | .none => true
  | _ => false
def φIs (d : D) : D → Option RR
  | .none => some (.va (.bool (isNone d)))
  | _ => none
def φIsNot (d : D) : D → Option RR
  | .none => some (.va (.bool (!isNone d)))
  | _ => none
theorem none_iff {K : PySem.W.Frag} {H : Hp} {v : V} {d : D} (h : Dp K H v d) : decide (v = .non) = isNone d := by
  cases h <;> rfl
theorem o_is : OpR X (compareOp .Is) (rD X.K φIs) := by
  intro pins s σ H x y v u Q I rx ry h
  obtain ⟨G, d, e, r, sg, hx, hy, hφ, k⟩ := h
  unfold φIs at hφ
  split at hφ
  · cases hφ
    refine op_isN pins s σ H _ _ v u Q I rx ry ⟨view_none hy, ?_⟩
    rw [none_iff (hx.dp sg)]
    exact k _ G H (made_bool sg _)
  · cases hφ
theorem o_isNot : OpR X (compareOp .IsNot) (rD X.K φIsNot) := by
  intro pins s σ H x y v u Q I rx ry h
  obtain ⟨G, d, e, r, sg, hx, hy, hφ, k⟩ := h
  unfold φIsNot at hφ
  split at hφ
  · cases hφ
    refine op_notN pins s σ H _ _ v u Q I rx ry ⟨view_none hy, ?_⟩
    rw [none_iff (hx.dp sg)]
    exact k _ G H (made_bool sg _)
  · cases hφ

/-! ### subscripts -/
def φIx : D → D → Option RR
  | .list xs, .int i => (atI xs i).map .va
  | .tuple xs, .int i => (atI xs i).map .va
  | .str z, .int i => if z.length ≤ lim then (atI z.cps.toList i).map fun c => .va (.str ⟨#[c]⟩) else none
  | _, _ => none
theorem atI_dps {K : PySem.W.Frag} {G : Hp} {xs : List V} {ds : List D} {i : Int} {d : D} (al : DpAll K G xs ds) (h : atI ds i = some d) : ∃ v, atI xs i = some v ∧ Dp K G v d := by
  unfold atI at h ⊢
  obtain ⟨j, h1, h2⟩ := bindS h
  rw [← dpsLen al] at h1
  rw [h1]
  exact dpsGet al h2
theorem o_ix : IxR X (rD X.K φIx) := by
  intro val sli pins s σ H x y v u Q I rx ry h hsub
  obtain ⟨G, d, e, r, sg, hx, hy, hφ, k⟩ := h
  unfold φIx at hφ
  split at hφ
  · obtain ⟨d', h1, rfl⟩ := mapS hφ
    obtain ⟨a, xs, rfl, ha, al⟩ := view_list sg hx
    obtain ⟨w, h2, h3⟩ := atI_dps al h1
    exact ix_list val sli pins s σ H _ y v u Q I rx ry ⟨a, xs, _, w, rfl, view_int hy, ha, h2, k _ G H (.va sg h3)⟩ hsub
  · obtain ⟨d', h1, rfl⟩ := mapS hφ
    obtain ⟨a, xs, rfl, ha, al⟩ := view_tup sg hx
    obtain ⟨w, h2, h3⟩ := atI_dps al h1
    exact ix_tup val sli pins s σ H _ y v u Q I rx ry ⟨a, xs, _, w, rfl, view_int hy, ha, h2, k _ G H (.va sg h3)⟩ hsub
  · rename_i z i
    by_cases hl : z.length ≤ lim
    · rw [if_pos hl] at hφ
      obtain ⟨c, h1, rfl⟩ := mapS hφ
      exact ix_str val sli pins s σ H _ y v u Q I rx ry ⟨z, i, c, view_str hx, view_int hy, lim_le hl, h1, k _ G H (made_str sg _)⟩ hsub
    · rw [if_neg hl] at hφ
      cases hφ
  · cases hφ

/-! ### built-ins -/
theorem views1 {K : PySem.W.Frag} {G H : Hp} {vs : List V} {d : D} (h : ViewsR K G H vs [d]) : ∃ v, vs = [v] ∧ ViewR K G H v d := by
  cases h with
  | cons h t => cases t; exact ⟨_, rfl, h⟩
theorem views2 {K : PySem.W.Frag} {G H : Hp} {vs : List V} {d e : D} (h : ViewsR K G H vs [d, e]) : ∃ v u, vs = [v, u] ∧ ViewR K G H v d ∧ ViewR K G H u e := by
  cases h with
  | cons h t =>
    obtain ⟨u, rfl, q⟩ := views1 t
    exact ⟨_, u, rfl, h, q⟩
theorem views3 {K : PySem.W.Frag} {G H : Hp} {vs : List V} {d e f : D} (h : ViewsR K G H vs [d, e, f]) : ∃ v u w, vs = [v, u, w] ∧ ViewR K G H v d ∧ ViewR K G H u e ∧ ViewR K G H w f := by
  cases h with
  | cons h t =>
    obtain ⟨u, w, rfl, q, q2⟩ := views2 t
    exact ⟨_, u, w, rfl, h, q, q2⟩
def φLen : List D → Option RR
  | [.list xs] => some (.va (.int xs.length))
  | [.tuple xs] => some (.va (.int xs.length))
  | [.str z] => if z.length ≤ lim then some (.va (.int z.length)) else none
  | _ => none
theorem c_len : CallR X (.builtin "len") (rL X.K φLen) := by
  intro pins s σ H vs us Q I rs h
  obtain ⟨G, ds, r, sg, hv, hφ, k⟩ := h
  unfold φLen at hφ
  split at hφ
  · cases hφ
    obtain ⟨v, rfl, hx⟩ := views1 hv
    obtain ⟨a, xs, rfl, ha, al⟩ := view_list sg hx
    refine call_len_seq pins s σ H _ us Q I rs ⟨a, xs, rfl, .inl ha, ?_⟩
    rw [dpsLen al]
    exact k _ G H (made_int sg _)
  · cases hφ
    obtain ⟨v, rfl, hx⟩ := views1 hv
    obtain ⟨a, xs, rfl, ha, al⟩ := view_tup sg hx
    refine call_len_seq pins s σ H _ us Q I rs ⟨a, xs, rfl, .inr ha, ?_⟩
    rw [dpsLen al]
    exact k _ G H (made_int sg _)
  · obtain ⟨hc, rfl⟩ := iteS hφ
    obtain ⟨v, rfl, hx⟩ := views1 hv
    cases view_str hx
    exact call_len_str pins s σ H _ us Q I rs ⟨_, rfl, lim_le hc, k _ G H (made_int sg _)⟩
  · cases hφ
def φAbs : List D → Option RR
  | [.int i] => some (.va (.int (if i < 0 then -i else i)))
  | _ => none
theorem c_abs : CallR X (.builtin "abs") (rL X.K φAbs) := by
  intro pins s σ H vs us Q I rs h
  obtain ⟨G, ds, r, sg, hv, hφ, k⟩ := h
  unfold φAbs at hφ
  split at hφ
  · cases hφ
    obtain ⟨v, rfl, hx⟩ := views1 hv
    cases view_int hx
    exact call_abs pins s σ H _ us Q I rs ⟨_, rfl, k _ G H (made_int sg _)⟩
  · cases hφ
def φInt : List D → Option RR
  | [.int i] => some (.va (.int i))
  | [.bool b] => some (.va (.int (if b then 1 else 0)))
  | _ => none
theorem c_int : CallR X (.type "int") (rL X.K φInt) := by
  intro pins s σ H vs us Q I rs h
  obtain ⟨G, ds, r, sg, hv, hφ, k⟩ := h
  unfold φInt at hφ
  split at hφ
  · cases hφ
    obtain ⟨v, rfl, hx⟩ := views1 hv
    cases view_int hx
    exact call_int1 pins s σ H _ us Q I rs (.inl ⟨_, rfl, k _ G H (made_int sg _)⟩)
  · cases hφ
    obtain ⟨v, rfl, hx⟩ := views1 hv
    cases view_bool hx
    exact call_int1 pins s σ H _ us Q I rs (.inr ⟨_, rfl, k _ G H (made_int sg _)⟩)
  · cases hφ
/-- the intsOf of a list -/
def intsOf : List D → Option (List Int)
  | [] => some []
  | .int i :: ds => (intsOf ds).map (i :: ·)
  | _ :: _ => none
def boolsOf : List D → Option (List Bool)
  | [] => some []
  | .bool i :: ds => (boolsOf ds).map (i :: ·)
  | _ :: _ => none
theorem ints_dps {K : PySem.W.Frag} {G : Hp} : ∀ {xs : List V} {ds : List D} {ns : List Int}, DpAll K G xs ds → intsOf ds = some ns → xs = ns.map V.int
  | _, _, _, .nil, e => by cases e; rfl
  | _, _, _, .cons h t, e => by
    cases h with
    | int i =>
      obtain ⟨ms, e1, rfl⟩ := mapS e
      rw [ints_dps t e1]
      rfl
    | _ => cases e
theorem bools_dps {K : PySem.W.Frag} {G : Hp} : ∀ {xs : List V} {ds : List D} {ns : List Bool}, DpAll K G xs ds → boolsOf ds = some ns → xs = ns.map V.bl
  | _, _, _, .nil, e => by cases e; rfl
  | _, _, _, .cons h t, e => by
    cases h with
    | bl i =>
      obtain ⟨ms, e1, rfl⟩ := mapS e
      rw [bools_dps t e1]
      rfl
    | _ => cases e
def φMax : List D → Option RR
  | [.int i, .int j] => some (.va (.int (if j > i then j else i)))
  | _ => none
def φMin : List D → Option RR
  | [.int i, .int j] => some (.va (.int (if j < i then j else i)))
  | [.int i, .int j, .int l] => some (.va (.int (if l < (if j < i then j else i) then l else (if j < i then j else i))))
  | [.list ds] => (intsOf ds).bind fun ns => ns.min?.map fun m => .va (.int m)
  | _ => none
theorem c_max (hc : X.calm = true) : CallR X (.builtin "max") (rL X.K φMax) := by
  intro pins s σ H vs us Q I rs h
  obtain ⟨G, ds, r, sg, hv, hφ, k⟩ := h
  unfold φMax at hφ
  split at hφ
  · cases hφ
    obtain ⟨v, u, rfl, hx, hy⟩ := views2 hv
    cases view_int hx
    cases view_int hy
    exact call_max2 hc pins s σ H _ us Q I rs ⟨_, _, rfl, k _ G H (made_int sg _)⟩
  · cases hφ
theorem c_min (hc : X.calm = true) : CallR X (.builtin "min") (rL X.K φMin) := by
  intro pins s σ H vs us Q I rs h
  obtain ⟨G, ds, r, sg, hv, hφ, k⟩ := h
  unfold φMin at hφ
  split at hφ
  · cases hφ
    obtain ⟨v, u, rfl, hx, hy⟩ := views2 hv
    cases view_int hx
    cases view_int hy
    exact call_min2 hc pins s σ H _ us Q I rs ⟨_, _, rfl, k _ G H (made_int sg _)⟩
  · rename_i i j l
    obtain ⟨v, u, w, rfl, hx, hy, hz⟩ := views3 hv
    cases view_int hx
    cases view_int hy
    cases view_int hz
    refine call_min3Nu hc pins s σ H _ us Q I rs ⟨_, _, _, .int (if l < (if j < i then j else i) then l else (if j < i then j else i)), rfl, ?_, ?_⟩
    · by_cases h1 : j < i
      · by_cases h2 : l < j <;> simp [nuMin3, nuMin2, nuLt, nuCB, h1, h2]
      · by_cases h2 : l < i <;> simp [nuMin3, nuMin2, nuLt, nuCB, h1, h2]
    · cases hφ
      exact k _ G H (made_int sg _)
  · obtain ⟨ns, e1, hφ⟩ := bindS hφ
    obtain ⟨m, e2, rfl⟩ := mapS hφ
    obtain ⟨v, rfl, hx⟩ := views1 hv
    obtain ⟨a, xs, rfl, ha, al⟩ := view_list sg hx
    rw [ints_dps al e1] at ha
    have q := List.min?_eq_some_iff.mp e2
    refine cr_min hc pins s σ H _ us Q I rs ⟨a, ns, rfl, ha, List.length_pos_of_mem q.1, fun m' h1 h2 => ?_⟩
    have h3 := q.2 m' h1
    have h4 := h2 m q.1
    have h5 : m' = m := by omega
    rw [h5]
    exact k _ G H (made_int sg _)
  · cases hφ
def φSum : List D → Option RR
  | [.list ds] => (intsOf ds).map fun ns => .va (.int ns.sum)
  | _ => none
def φAny : List D → Option RR
  | [.list ds] => (boolsOf ds).map fun ns => .va (.bool (ns.any id))
  | _ => none
def φAll : List D → Option RR
  | [.list ds] => (boolsOf ds).map fun ns => .va (.bool (ns.all id))
  | _ => none
theorem c_sum (hc : X.calm = true) : CallR X (.builtin "sum") (rL X.K φSum) := by
  intro pins s σ H vs us Q I rs h
  obtain ⟨G, ds, r, sg, hv, hφ, k⟩ := h
  unfold φSum at hφ
  split at hφ
  · obtain ⟨ns, e1, rfl⟩ := mapS hφ
    obtain ⟨v, rfl, hx⟩ := views1 hv
    obtain ⟨a, xs, rfl, ha, al⟩ := view_list sg hx
    rw [ints_dps al e1] at ha
    exact cr_sum hc pins s σ H _ us Q I rs ⟨a, ns, rfl, ha, k _ G H (made_int sg _)⟩
  · cases hφ
theorem c_any (hc : X.calm = true) : CallR X (.builtin "any") (rL X.K φAny) := by
  intro pins s σ H vs us Q I rs h
  obtain ⟨G, ds, r, sg, hv, hφ, k⟩ := h
  unfold φAny at hφ
  split at hφ
  · obtain ⟨ns, e1, rfl⟩ := mapS hφ
    obtain ⟨v, rfl, hx⟩ := views1 hv
    obtain ⟨a, xs, rfl, ha, al⟩ := view_list sg hx
    rw [bools_dps al e1] at ha
    exact cr_any hc pins s σ H _ us Q I rs ⟨a, ns, rfl, ha, k _ G H (made_bool sg _)⟩
  · cases hφ
theorem c_all (hc : X.calm = true) : CallR X (.builtin "all") (rL X.K φAll) := by
  intro pins s σ H vs us Q I rs h
  obtain ⟨G, ds, r, sg, hv, hφ, k⟩ := h
  unfold φAll at hφ
  split at hφ
  · obtain ⟨ns, e1, rfl⟩ := mapS hφ
    obtain ⟨v, rfl, hx⟩ := views1 hv
    obtain ⟨a, xs, rfl, ha, al⟩ := view_list sg hx
    rw [bools_dps al e1] at ha
    exact cr_all hc pins s σ H _ us Q I rs ⟨a, ns, rfl, ha, k _ G H (made_bool sg _)⟩
  · cases hφ
def φTuple : List D → Option RR
  | [.list ds] => some (.va (.tuple ds))
  | [.tuple ds] => some (.va (.tuple ds))
  | _ => none
def φList : List D → Option RR
  | [.list ds] => some (.ls ds)
  | [.tuple ds] => some (.ls ds)
  | _ => none
theorem c_tuple : CallR X (.type "tuple") (rL X.K φTuple) := by
  intro pins s σ H vs us Q I rs h
  obtain ⟨G, ds, r, sg, hv, hφ, k⟩ := h
  unfold φTuple at hφ
  split at hφ
  · cases hφ
    obtain ⟨v, rfl, hx⟩ := views1 hv
    obtain ⟨a, xs, rfl, ha, al⟩ := view_list sg hx
    exact call_tuple_of pins s σ H _ us Q I rs ⟨a, xs, rfl, .inl ⟨ha, fun p hp => k _ _ _ (.tup sg hp al)⟩⟩
  · cases hφ
    obtain ⟨v, rfl, hx⟩ := views1 hv
    have hg := view_tupG hx
    obtain ⟨a, xs, rfl, ha, al⟩ := view_tup sg hx
    exact call_tuple_of pins s σ H _ us Q I rs ⟨a, xs, rfl, .inr ⟨ha, k _ G H (.va sg hg)⟩⟩
  · cases hφ
theorem c_list : CallR X (.type "list") (rL X.K φList) := by
  intro pins s σ H vs us Q I rs h
  obtain ⟨G, ds, r, sg, hv, hφ, k⟩ := h
  unfold φList at hφ
  split at hφ
  · cases hφ
    obtain ⟨v, rfl, hx⟩ := views1 hv
    obtain ⟨a, xs, rfl, ha, al⟩ := view_list sg hx
    exact call_list_of pins s σ H _ us Q I rs ⟨a, xs, rfl, .inl ha, fun p hp => k _ _ _ (.ls sg hp al)⟩
  · cases hφ
    obtain ⟨v, rfl, hx⟩ := views1 hv
    obtain ⟨a, xs, rfl, ha, al⟩ := view_tup sg hx
    exact call_list_of pins s σ H _ us Q I rs ⟨a, xs, rfl, .inr ha, fun p hp => k _ _ _ (.ls sg hp al)⟩
  · cases hφ
/-- repr of plain data -/
def φRepr : List D → Option RR
  | [d] => if d.showable = true ∧ d.hasDict = false ∧ d.depth ≤ 64 ∧ d.shown.length ≤ lim then some (.va (.str d.shown)) else none
  | _ => none
theorem c_repr (hg : X.A.guards = some []) (hu : X.A.units + 66 < cLine) : CallR X (.builtin "repr") (rL X.K φRepr) := by
  intro pins s σ H vs us Q I rs h
  obtain ⟨G, ds, r, sg, hv, hφ, k⟩ := h
  unfold φRepr at hφ
  split at hφ
  · rename_i d
    obtain ⟨hc, rfl⟩ := iteS hφ
    obtain ⟨h1, h2, h3, h4⟩ := hc
    obtain ⟨v, rfl, hx⟩ := views1 hv
    obtain ⟨u, rfl, ru⟩ := vals1 rs
    have big : (∃ a, u = .ref a) → wpAny (model X.prog X.w) X.A (call (.builtin "repr") [u]) (EP X pins σ Q) X.xe s := fun ⟨a, e⟩ => by
      subst e
      obtain ⟨as, rd⟩ := Dp.reads I _ v _ (hx.dp sg) ru
      refine repr_of_reads' (h₀ := s.heap) rd h1 (fun e => by rw [h2] at e; cases e) hg (by omega) (fun _ _ e => e) (fun h' t tk hk => ?_) (lim_le h4)
      exact ⟨.str _, H, I.kept hk, ⟨_, rfl⟩, k _ G H (made_str sg _)⟩
    rcases hx with hx | ⟨p, _, _, rfl, _⟩
    · cases hx with
      | lst _ _ => exact big (by cases ru; exact ⟨_, rfl⟩)
      | tup _ _ => exact big (by cases ru; exact ⟨_, rfl⟩)
      | non =>
        cases ru
        exact PySem.P.repr_of_none ⟨.str _, H, I.tok _, ⟨_, rfl⟩, k _ G H (made_str sg _)⟩
      | bl b =>
        cases ru
        exact PySem.P.repr_of_bool ⟨.str _, H, I.tok _, ⟨_, rfl⟩, by cases b <;> exact k _ G H (made_str sg _)⟩
      | int i =>
        obtain ⟨t, rfl⟩ := ru
        exact PySem.P.repr_of_int (by simpa [PyData.showable] using h1) ⟨.str _, H, I.tok _, ⟨_, rfl⟩, k _ G H (made_str sg _)⟩
      | str y =>
        obtain ⟨t, rfl⟩ := ru
        exact PySem.P.repr_of_str ⟨.str _, H, I.tok _, ⟨_, rfl⟩, k _ G H (made_str sg _)⟩ (lim_le h4)
    · exact big (by cases ru; exact ⟨_, rfl⟩)
  · cases hφ
end
end Den

set_option autoImplicit false
/-! Data-level denotations: stores, statements, loops. -/
namespace Den
open PySem PySem.Spec L2

/-! ### stores into slots -/
section
variable {K : PySem.W.Frag} {G H : Hp} {σ : St} {ρ : Lo} {v : V}
/-- a result that is stored: a datum or a new list -/
def SlOf : RR → Sl
  | .va d => .va d
  | .ls ds => .ls ds
  | .br _ => .no
def notBg (ρ : Lo) (i : Nat) : Bool := match ρ[i]? with
  | some (.bg _) => false
  | some _ => true
  | none => false
theorem notBg_lt {i : Nat} (h : notBg ρ i = true) : i < ρ.length := by
  unfold notBg at h
  cases e : ρ[i]? with
  | none => rw [e] at h; cases h
  | some s => exact (List.getElem?_eq_some_iff.mp e).1
theorem notBg_ne {i j : Nat} {ds : List D} (h : notBg ρ i = true) (e : ρ[j]? = some (.bg ds)) : i ≠ j := by
  rintro rfl
  unfold notBg at h
  rw [e] at h
  cases h
theorem ow_set {i : Nat} {s : Sl} {v : V} {a : Addr} (h : Ow (σ.set i (some v)) (ρ.set i s) a) : Ow σ ρ a ∨ (isOwn s = true ∧ v = .ref a) := by
  obtain ⟨j, ⟨t, e1, o⟩, e2⟩ := h.own
  by_cases hj : i = j
  · subst hj
    by_cases hi : i < ρ.length
    · rw [List.getElem?_set_self hi] at e1
      cases e1
      by_cases hi2 : i < σ.length
      · rw [List.getElem?_set_self hi2] at e2
        cases e2
        exact .inr ⟨o, rfl⟩
      · rw [List.getElem?_eq_none (by simpa using hi2)] at e2
        cases e2
    · rw [List.getElem?_eq_none (by simpa using hi)] at e1
      cases e1
  · rw [List.getElem?_set_ne hj] at e1 e2
    exact .inl (Ow.of ⟨t, e1, o⟩ e2)
theorem rel_set {i : Nat} {r : RR} (R : Rel K G H σ ρ) (hr : ResR K G H σ ρ v r) (nb : ∀ j, r ≠ .br j) : Rel K G H (σ.set i (some v)) (ρ.set i (SlOf r)) := by
  have len := R.len
  refine ⟨R.sub, fun j s e => ?_, fun j k a hj hk ej ek => ?_, by rw [List.length_set, List.length_set]; exact R.len⟩
  · by_cases hj : i = j
    · subst hj
      have hi : i < ρ.length := by
        have := (List.getElem?_eq_some_iff.mp e).1
        simpa using this
      rw [List.getElem?_set_self hi] at e
      rw [List.getElem?_set_self (by omega)]
      cases e
      cases r with
      | va d => exact ⟨v, rfl, hr⟩
      | ls ds =>
        obtain ⟨p, xs, rfl, g, e2, al, _⟩ := hr
        exact ⟨p, xs, rfl, g, e2, al⟩
      | br j => exact absurd rfl (nb j)
    · rw [List.getElem?_set_ne hj] at e ⊢
      exact R.sl j s e
  · have one : ∀ {j : Nat}, Own (ρ.set i (SlOf r)) j → (σ.set i (some v))[j]? = some (some (.ref a)) → (i ≠ j ∧ Own ρ j ∧ σ[j]? = some (some (.ref a))) ∨ (i = j ∧ ¬ Ow σ ρ a) := fun {j} ⟨t, e1, o⟩ e2 => by
      by_cases hj : i = j
      · subst hj
        refine .inr ⟨rfl, ?_⟩
        have hi : i < ρ.length := by
          have := (List.getElem?_eq_some_iff.mp e1).1
          simpa using this
        rw [List.getElem?_set_self hi] at e1
        rw [List.getElem?_set_self (by omega)] at e2
        cases e1
        cases e2
        cases r with
        | va d => cases o
        | br k => cases o
        | ls ds =>
          obtain ⟨p, xs, e3, _, _, _, no⟩ := hr
          cases e3
          exact no
      · rw [List.getElem?_set_ne hj] at e1 e2
        exact .inl ⟨hj, ⟨t, e1, o⟩, e2⟩
    rcases one hj ej with ⟨a1, a2, a3⟩ | ⟨a1, a2⟩
    · rcases one hk ek with ⟨b1, b2, b3⟩ | ⟨b1, b2⟩
      · exact R.apart j k a a2 b2 a3 b3
      · exact absurd (Ow.of a2 a3) b2
    · rcases one hk ek with ⟨b1, b2, b3⟩ | ⟨b1, b2⟩
      · exact absurd (Ow.of b2 b3) a2
      · exact a1.symm.trans b1
theorem stp_set {σ₀ : St} {ρ₀ : Lo} {G₀ H₀ : Hp} {i : Nat} {r : RR} (S : Stp σ₀ ρ₀ G₀ H₀ σ ρ G H) (hb : notBg ρ i = true) (hn : NewR H₀ v r) : Stp σ₀ ρ₀ G₀ H₀ (σ.set i (some v)) (ρ.set i (SlOf r)) G H := by
  refine ⟨S.gg, S.keep, S.gnew, fun a h => ?_, fun j ds h => ?_, S.dom⟩
  · obtain ⟨j, ds, e1, e2⟩ := h
    by_cases hj : i = j
    · subst hj
      have hi : i < ρ.length := notBg_lt hb
      rw [List.getElem?_set_self hi] at e1
      by_cases hi2 : i < σ.length
      · rw [List.getElem?_set_self hi2] at e2
        cases e2
        cases r with
        | va d => cases e1
        | br k => cases e1
        | ls es => exact .inr (hn a rfl)
      · rw [List.getElem?_eq_none (by simpa using hi2)] at e2
        cases e2
    · rw [List.getElem?_set_ne hj] at e1 e2
      exact S.ols a ⟨j, ds, e1, e2⟩
  · have hj : i ≠ j := by
      rintro rfl
      have hi : i < ρ.length := notBg_lt hb
      rw [List.getElem?_set_self hi] at h
      cases r <;> cases h
    rw [List.getElem?_set_ne hj] at h
    obtain ⟨ds₀, h1, h2⟩ := S.obg j ds h
    exact ⟨ds₀, h1, by rw [List.getElem?_set_ne hj]; exact h2⟩
end

/-! ### what is wanted behind a statement -/
inductive Out where
  | nx | rt (r : RR) | bk | ct
def RetR (K : PySem.W.Frag) (σ : St) (ρ : Lo) (H : Hp) (G' H' : Hp) (v : V) : RR → Prop
  | .va d => Dp K G' v d
  | .ls ds => ∃ (p : Addr) (xs : List V), v = .ref p ∧ G' p = none ∧ H' p = some (.lst xs) ∧ DpAll K G' xs ds ∧ (H p = none ∨ Ls σ ρ p)
  | .br _ => False
def OutK (K : PySem.W.Frag) (σ : St) (ρ : Lo) (G H : Hp) (o : Out) (ρ' : Lo) (D : Ends) : Prop := ∀ σ' G' H', Rel K G' H' σ' ρ' → Stp σ ρ G H σ' ρ' G' H' → match o with
  | .nx => D.nx σ' H'
  | .bk => D.bk σ' H'
  | .ct => D.ct σ' H'
  | .rt r => ∀ v, RetR K σ ρ H G' H' v r → D.rt v H'
abbrev FS := Fn Out
def tS (K : PySem.W.Frag) (f : FS) : TS := fun D σ H => ∃ G ρ o ρ', Rel K G H σ ρ ∧ f ρ = some (o, ρ') ∧ OutK K σ ρ G H o ρ' D
section
variable {X : Cx} {a b e c : Expr} {es : List Expr} {st : Stmt} {sts : List Stmt} {f g : Fn RR} {pos : Pos}
theorem weakS {t t' : TS} (h : PS X st t) (w : ∀ D σ H, t' D σ H → t D σ H) : PS X st t' := ⟨fun pins s σ H D I q => h.run pins s σ H D I (w D σ H q)⟩
theorem weakSs {t t' : TS} (h : PSs X sts t) (w : ∀ D σ H, t' D σ H → t D σ H) : PSs X sts t' := ⟨fun pins s σ H D I q => h.run pins s σ H D I (w D σ H q)⟩
theorem outK_trans {K : PySem.W.Frag} {σ σ' : St} {ρ ρ' ρ'' : Lo} {G G' H H' : Hp} {o : Out} {D : Ends} (k : OutK K σ ρ G H o ρ'' D) (S : Stp σ ρ G H σ' ρ' G' H') : OutK K σ' ρ' G' H' o ρ'' D := fun σ2 G2 H2 R2 S2 => by
  have q := k σ2 G2 H2 R2 (S.trans S2)
  cases o with
  | nx => exact q
  | bk => exact q
  | ct => exact q
  | rt r =>
    intro v hv
    refine q v ?_
    cases r with
    | va d => exact hv
    | br j => exact hv
    | ls ds =>
      obtain ⟨p, xs, e1, g, e2, al, n⟩ := hv
      refine ⟨p, xs, e1, g, e2, al, ?_⟩
      rcases n with n | n
      · refine .inl ?_
        cases z : H p with
        | none => rfl
        | some o => exact absurd n (S.dom p (by rw [z]; simp))
      · rcases S.ols p n with n | n
        · exact .inr n
        · exact .inl n
def fNop : FS := fun ρ => some (.nx, ρ)
def fSeq (f g : FS) : FS := fun ρ => (f ρ).bind fun x => match x.1 with
  | .nx => g x.2
  | o => some (o, x.2)
theorem ss_nil : PSs X [] (tS X.K fNop) := weakSs pss_nil fun D σ H ⟨G, ρ, o, ρ', R, q, k⟩ => by
  cases q
  exact k σ G H R .refl
theorem seq_ok {f g : FS} {D : Ends} {σ : St} {H : Hp} (h : tS X.K (fSeq f g) D σ H) : tS X.K f { D with nx := tS X.K g D } σ H := by
  obtain ⟨G, ρ, o, ρ', R, q, k⟩ := h
  obtain ⟨x, e1, q⟩ := bindS q
  refine ⟨G, ρ, x.1, x.2, R, e1, fun σ1 G1 H1 R1 S1 => ?_⟩
  cases hx : x.1 with
  | nx =>
    rw [hx] at q
    exact ⟨G1, x.2, o, ρ', R1, q, outK_trans k S1⟩
  | bk =>
    rw [hx] at q
    cases q
    exact k σ1 G1 H1 R1 S1
  | ct =>
    rw [hx] at q
    cases q
    exact k σ1 G1 H1 R1 S1
  | rt r =>
    rw [hx] at q
    cases q
    exact k σ1 G1 H1 R1 S1
theorem ss_cons {f g : FS} (h : PS X st (tS X.K f)) (t : PSs X sts (tS X.K g)) : PSs X (st :: sts) (tS X.K (fSeq f g)) :=
  weakSs (pss_cons h t) fun D σ H q => seq_ok q
def fRet (f : Fn RR) : FS := fun ρ => (f ρ).bind fun x => match x.1 with
  | .va d => some (.rt (.va d), x.2)
  | .ls ds => some (.rt (.ls ds), x.2)
  | .br i => match x.2[i]? with
    | some (.ls ds) => some (.rt (.ls ds), x.2.set i .no)
    | some (.va d) => some (.rt (.va d), x.2)
    | _ => none
theorem s_ret (h : PE X e (tD X.K f)) : PS X (.Return (some e) pos) (tS X.K (fRet f)) :=
  weakS (ps_ret h) fun D σ H ⟨G, ρ, o, ρ', R, q, k⟩ => by
    obtain ⟨x, e1, q⟩ := bindS q
    refine ⟨G, ρ, x.1, x.2, R, e1, fun v G1 H1 P => ?_⟩
    cases hx : x.1 with
    | va d =>
      rw [hx] at q P
      cases q
      exact k σ G1 H1 P.rel P.stp v P.res
    | ls ds =>
      rw [hx] at q P
      cases q
      obtain ⟨p, xs, rfl, g, e2, al, no⟩ := P.res
      exact k σ G1 H1 P.rel P.stp _ ⟨p, xs, rfl, g, e2, al, .inl (P.new p rfl)⟩
    | br i =>
      rw [hx] at q P
      have e3 : σ[i]? = some (some v) := P.res
      simp only at q
      cases z : x.2[i]? with
      | none => rw [z] at q; cases q
      | some s =>
        rw [z] at q
        cases s with
        | no => cases q
        | hd _ => cases q
        | bg ds => cases q
        | va d =>
          cases q
          obtain ⟨u, e4, dp⟩ := P.rel.sl i _ z
          rw [e3] at e4
          cases e4
          exact k σ G1 H1 P.rel P.stp v dp
        | ls ds =>
          cases q
          obtain ⟨p, xs, e4, g, e2, al⟩ := P.rel.sl i _ z
          rw [e3] at e4
          cases e4
          have hi : i < x.2.length := (List.getElem?_eq_some_iff.mp z).1
          have ownset : ∀ {j : Nat}, Own (x.2.set i .no) j → Own x.2 j ∧ i ≠ j := fun {j} ⟨t, e, o⟩ => by
            by_cases hj : i = j
            · subst hj
              rw [List.getElem?_set_self hi] at e
              cases e
              cases o
            · rw [List.getElem?_set_ne hj] at e
              exact ⟨⟨t, e, o⟩, hj⟩
          have R2 : Rel X.K G1 H1 σ (x.2.set i .no) := ⟨P.rel.sub, fun j s e => by
              by_cases hj : i = j
              · subst hj
                rw [List.getElem?_set_self hi] at e
                cases e
                trivial
              · rw [List.getElem?_set_ne hj] at e
                exact P.rel.sl j s e, fun j l a hj hl => P.rel.apart j l a (ownset hj).1 (ownset hl).1, by rw [List.length_set]; exact P.rel.len⟩
          have S2 : Stp σ ρ G H σ (x.2.set i .no) G1 H1 := ⟨P.stp.gg, P.stp.keep, P.stp.gnew, fun a ⟨j, es, e, e5⟩ => by
              by_cases hj : i = j
              · subst hj
                rw [List.getElem?_set_self hi] at e
                cases e
              · rw [List.getElem?_set_ne hj] at e
                exact P.stp.ols a ⟨j, es, e, e5⟩, fun j es e => by
              by_cases hj : i = j
              · subst hj
                rw [List.getElem?_set_self hi] at e
                cases e
              · rw [List.getElem?_set_ne hj] at e
                exact P.stp.obg j es e, P.stp.dom⟩
          refine k σ G1 H1 R2 S2 _ ⟨p, xs, rfl, g, e2, al, ?_⟩
          rcases P.stp.ols p ⟨i, ds, z, e3⟩ with n | n
          · exact .inr n
          · exact .inl n
def fRetN : FS := fun ρ => some (.rt (.va .none), ρ)
theorem s_retN : PS X (.Return none pos) (tS X.K fRetN) := weakS ps_retN fun D σ H ⟨G, ρ, o, ρ', R, q, k⟩ => by
  cases q
  exact k σ G H R .refl _ Dp.non
def fIfS (c : FT) (f g : FS) : FS := fun ρ => (c ρ).bind fun x => if x.1 then f x.2 else g x.2
theorem s_if {fc : FT} {f g : FS} {sa sb : List Stmt} (hc : PT X c (tT X.K fc)) (ha : PSs X sa (tS X.K f)) (hb : PSs X sb (tS X.K g)) : PS X (.If c sa sb pos) (tS X.K (fIfS fc f g)) :=
  weakS (ps_if hc ha hb) fun D σ H ⟨G, ρ, o, ρ', R, q, k⟩ => by
    obtain ⟨x, e1, q⟩ := bindS q
    refine ⟨G, ρ, x.1, x.2, R, e1, fun G1 H1 R1 S1 => ?_⟩
    cases hx : x.1 with
    | true =>
      rw [hx, if_pos rfl] at q
      rw [if_pos rfl]
      exact ⟨G1, x.2, o, ρ', R1, q, outK_trans k S1⟩
    | false =>
      rw [hx, if_neg (by simp)] at q
      rw [if_neg (by simp)]
      exact ⟨G1, x.2, o, ρ', R1, q, outK_trans k S1⟩
/-- what is to be stored -/
def fO (f : Fn RR) : Fn RR := fun ρ => (f ρ).bind fun x => match x.1 with
  | .br i => (frz (.br i) x.2).map fun y => (.va y.1, y.2)
  | r => some (r, x.2)
theorem to_O (h : PE X e (tD X.K f)) : PE X e (tD X.K (fO f)) := weakE h fun σ H Q ⟨G, ρ, r, ρ', R, q, k⟩ => by
  obtain ⟨x, e1, q⟩ := bindS q
  refine ⟨G, ρ, x.1, x.2, R, e1, fun v G1 H1 P => ?_⟩
  cases hx : x.1 with
  | va d =>
    rw [hx] at q P
    cases q
    exact k v G1 H1 P
  | ls d =>
    rw [hx] at q P
    cases q
    exact k v G1 H1 P
  | br i =>
    rw [hx] at q P
    obtain ⟨y, e2, q⟩ := mapS q
    cases q
    obtain ⟨G2, R2, S2, dp⟩ := frz_ok P e2
    exact k v G2 H1 ⟨R2, S2, dp, trivial⟩
theorem fO_nb {f : Fn RR} {ρ ρ' : Lo} {r : RR} (h : fO f ρ = some (r, ρ')) : ∀ j, r ≠ .br j := by
  obtain ⟨x, e1, q⟩ := bindS h
  cases hx : x.1 with
  | va d => rw [hx] at q; cases q; intro j; simp
  | ls d => rw [hx] at q; cases q; intro j; simp
  | br i =>
    rw [hx] at q
    obtain ⟨y, e2, q⟩ := mapS q
    cases q
    intro j
    simp
def fSet (i : Nat) (f : Fn RR) : FS := fun ρ => (fO f ρ).bind fun x => if notBg x.2 i = true then some (.nx, x.2.set i (SlOf x.1)) else none
/-- from the value to the store -/
theorem set_ok {i : Nat} {D : Ends} {σ : St} {H : Hp} (h : tS X.K (fSet i f) D σ H) : tAsg (tD X.K (fO f)) (gName i) D σ H := by
  obtain ⟨G, ρ, o, ρ', R, q, k⟩ := h
  obtain ⟨x, e1, q⟩ := bindS q
  obtain ⟨hb, q⟩ := iteS q
  cases q
  refine ⟨G, ρ, x.1, x.2, R, e1, fun v G1 H1 P => ?_⟩
  exact k _ G1 H1 (rel_set P.rel P.res (fO_nb e1)) (stp_set P.stp hb P.new)
theorem s_set {i : Nat} {x : Str} {pos' : Pos} (hN : X.N.Nodup) (hi : X.N[i]? = some x) (hx : Loc X.env.scope x) (he : PE X e (tD X.K f)) (hs : swapsWith e (some (.Name x pos')) pos.line X.env = pure false)
    (hf : X.fn x = true ∨ X.env.scope.names.lookup x = some .local) : PS X (.Assign [.Name x pos'] e pos) (tS X.K (fSet i f)) :=
  weakS (ps_set hN hi hx (to_O he) hs hf) fun D σ H q => set_ok q
/-- an expression whose value is dropped -/
def fDrop (f : Fn RR) : FS := fun ρ => (f ρ).map fun x => (.nx, x.2)
theorem s_expr (he : PE X e (tD X.K f)) (hs : swapsWith e none pos.line X.env = pure false) : PS X (.Expr e pos) (tS X.K (fDrop f)) :=
  weakS (ps_expr he hs) fun D σ H ⟨G, ρ, o, ρ', R, q, k⟩ => by
    obtain ⟨x, e1, q⟩ := mapS q
    cases q
    exact ⟨G, ρ, x.1, x.2, R, e1, fun v G1 H1 P => k σ G1 H1 P.rel P.stp⟩
def fBk : FS := fun ρ => some (.bk, ρ)
def fCt : FS := fun ρ => some (.ct, ρ)
theorem s_bk : PS X (.Break pos) (tS X.K fBk) := weakS ps_break fun D σ H ⟨G, ρ, o, ρ', R, q, k⟩ => by
  cases q
  exact k σ G H R .refl
theorem s_ct : PS X (.Continue pos) (tS X.K fCt) := weakS ps_continue fun D σ H ⟨G, ρ, o, ρ', R, q, k⟩ => by
  cases q
  exact k σ G H R .refl
theorem s_pass : PS X (.Pass pos) (tS X.K fNop) := weakS ps_pass fun D σ H ⟨G, ρ, o, ρ', R, q, k⟩ => by
  cases q
  exact k σ G H R .refl

/-! ### targets of data -/
def tTg (K : PySem.W.Frag) (t : D → Lo → Option Lo) (vs : List Nat) : TG := fun v σ H Q => ∃ G ρ d ρ', Rel K G H σ ρ ∧ Dp K G v d ∧ t d ρ = some ρ' ∧ ∀ σ', Rel K G H σ' ρ' → Stp σ ρ G H σ' ρ' G H → (∀ j, j ∉ vs → σ'[j]? = σ[j]?) → σ'.length = σ.length → Q σ' H
def tTgs (K : PySem.W.Frag) (t : List D → Lo → Option Lo) (vs : List Nat) : TGs := fun xs σ H Q => ∃ G ρ ds ρ', Rel K G H σ ρ ∧ DpAll K G xs ds ∧ t ds ρ = some ρ' ∧ ∀ σ', Rel K G H σ' ρ' → Stp σ ρ G H σ' ρ' G H → (∀ j, j ∉ vs → σ'[j]? = σ[j]?) → σ'.length = σ.length → Q σ' H
theorem weakG {tg : Expr} {t t' : TG} (h : PG X tg t) (w : ∀ v σ H Q, t' v σ H Q → t v σ H Q) : PG X tg t' := ⟨fun pins s σ H v u Q I r q => h.run pins s σ H v u Q I r (w v σ H Q q)⟩
theorem weakGs {tgs : List Expr} {t t' : TGs} (h : PGs X tgs t) (w : ∀ v σ H Q, t' v σ H Q → t v σ H Q) : PGs X tgs t' := ⟨fun pins s σ H v u Q I r q => h.run pins s σ H v u Q I r (w v σ H Q q)⟩
def gNm (i : Nat) : D → Lo → Option Lo := fun d ρ => if notBg ρ i = true then some (ρ.set i (.va d)) else none
theorem g_name {i : Nat} {x : Str} (hN : X.N.Nodup) (hi : X.N[i]? = some x) (hx : Loc X.env.scope x) (hf : X.fn x = true ∨ X.env.scope.names.lookup x = some .local) : PG X (.Name x pos) (tTg X.K (gNm i) [i]) :=
  weakG (pg_name hN hi hx hf) fun v σ H Q ⟨G, ρ, d, ρ', R, dp, q, k⟩ => by
    obtain ⟨hb, q⟩ := iteS q
    cases q
    exact k _ (rel_set (r := .va d) R dp (by intro j; simp)) (stp_set (r := .va d) .refl hb trivial) (fun j hj => List.getElem?_set_ne (by
      rintro rfl
      exact hj (by simp))) List.length_set
def gsNil : List D → Lo → Option Lo
  | [], ρ => some ρ
  | _, _ => none
def gsCons (t : D → Lo → Option Lo) (u : List D → Lo → Option Lo) : List D → Lo → Option Lo
  | d :: ds, ρ => (t d ρ).bind fun ρ1 => u ds ρ1
  | _, _ => none
theorem gs_nil : PGs X [] (tTgs X.K gsNil []) := weakGs pgs_nil fun v σ H Q ⟨G, ρ, ds, ρ', R, dp, q, k⟩ => by
  cases dp with
  | nil =>
    cases q
    exact ⟨rfl, k σ R .refl (fun _ _ => rfl) rfl⟩
  | cons _ _ => cases q
theorem gs_cons {t : D → Lo → Option Lo} {u : List D → Lo → Option Lo} {vs ws : List Nat} (h : PG X e (tTg X.K t vs)) (h2 : PGs X es (tTgs X.K u ws))
    (hs : (assignEach (e :: es) X.env).map (·.2) = assign e X.env :: (assignEach es X.env).map (·.2)) : PGs X (e :: es) (tTgs X.K (gsCons t u) (vs ++ ws)) :=
  weakGs (pgs_cons h h2 hs) fun v σ H Q ⟨G, ρ, ds, ρ', R, dp, q, k⟩ => by
    cases dp with
    | nil => cases q
    | cons h1 t1 =>
      obtain ⟨ρ1, e1, q⟩ := bindS q
      refine ⟨_, _, rfl, G, ρ, _, ρ1, R, h1, e1, fun σ1 R1 S1 n1 l1 => ⟨G, ρ1, _, ρ', R1, t1, q, fun σ2 R2 S2 n2 l2 => k σ2 R2 (S1.trans S2) (fun j hj => ?_) (l2.trans l1)⟩⟩
      rw [List.mem_append, not_or] at hj
      exact (n2 j hj.2).trans (n1 j hj.1)
def gTp (n : Nat) (t : List D → Lo → Option Lo) : D → Lo → Option Lo
  | .tuple ds, ρ => if ds.length = n then t ds ρ else none
  | _, _ => none
theorem g_tup {t : List D → Lo → Option Lo} {n k : Nat} {vs : List Nat} (hc : X.calm = true) (h : PGs X es (tTgs X.K t vs)) (hn : (assignEach es X.env).length = n) (hst : (assignEach es X.env).findIdx? (·.1) = none) :
    PG X (.Tuple es k pos) (tTg X.K (gTp n t) vs) :=
  weakG (pg_tup hc h hn hst) fun v σ H Q ⟨G, ρ, d, ρ', R, dp, q, k⟩ => by
    cases dp with
    | @tup a xs ds hs al =>
      simp only [gTp] at q
      by_cases hl : ds.length = n
      · rw [if_pos hl] at q
        exact ⟨_, _, rfl, same_tup R.sub hs, by rw [dpsLen al]; exact hl, G, ρ, _, ρ', R, al, q, k⟩
      · rw [if_neg hl] at q
        cases q
    | _ => cases q
/-- target = value, the value a datum -/
def fAsg (f : Fn RR) (t : D → Lo → Option Lo) : FS := fun ρ => (fF f ρ).bind fun x => (t x.1 x.2).map fun ρ' => (.nx, ρ')
theorem s_asg {tg : Expr} {t : D → Lo → Option Lo} {vs : List Nat} (he : PE X e (tD X.K f)) (hg : PG X tg (tTg X.K t vs)) (hs : swapsWithSole [tg] e pos.line X.env = pure false) (hw : swappedStores [tg] e X.env = pure none)
    (h1 : (assignEach [tg] X.env).map (·.2) = [assign tg X.env]) : PS X (.Assign [tg] e pos) (tS X.K (fAsg f t)) :=
  weakS (ps_asg (to_F he) hg hs hw h1) fun D σ H ⟨G, ρ, o, ρ', R, q, k⟩ => by
    obtain ⟨x, e1, q⟩ := bindS q
    obtain ⟨ρ2, e2, q⟩ := mapS q
    cases q
    exact ⟨G, ρ, x.1, x.2, R, e1, fun v G1 H1 R1 S1 dp => ⟨G1, x.2, x.1, ρ', R1, dp, e2, fun σ' R' S' _ _ => k σ' G1 H1 R' (S1.trans S')⟩⟩
/-- a, b = x, y -/
def fPar (i j : Nat) (f g : Fn RR) : FS := fun ρ => (fO f ρ).bind fun x => (fO g x.2).bind fun y =>
  if notBg y.2 i = true ∧ notBg y.2 j = true ∧ i ≠ j then some (.nx, (y.2.set i (SlOf x.1)).set j (SlOf y.1)) else none
theorem res_mono {K : PySem.W.Frag} {G G' H H' : Hp} {σ : St} {ρ ρ' : Lo} {v : V} {r : RR} (S : Stp σ ρ G H σ ρ' G' H') (h : ResR K G H σ ρ v r) : ResR K G' H' σ ρ' v r := by
  cases r with
  | va d => exact dpMono S.gg h
  | br i => exact h
  | ls ds =>
    obtain ⟨p, xs, rfl, g, e2, al, no⟩ := h
    have hp : H p ≠ none := by rw [e2]; simp
    exact ⟨p, xs, rfl, (S.gnew p hp no).trans g, S.keep p _ e2 no, dpsMono S.gg al, fun o => (S.ow o).elim no hp⟩
theorem notBg_set {ρ : Lo} {i j : Nat} {s : Sl} (h : notBg ρ j = true) (hij : i ≠ j) : notBg (ρ.set i s) j = true := by
  unfold notBg at h ⊢
  rw [List.getElem?_set_ne hij]
  exact h
theorem par_ok {i j : Nat} {D : Ends} {σ : St} {H : Hp} (h : tS X.K (fPar i j f g) D σ H) : tPar i j (tCons (tD X.K (fO f)) (tCons (tD X.K (fO g)) tNil)) D σ H := by
  obtain ⟨G, ρ, o, ρ', R, q, k⟩ := h
  obtain ⟨x, e1, q⟩ := bindS q
  obtain ⟨y, e2, q⟩ := bindS q
  obtain ⟨⟨hb, hb2, hij⟩, q⟩ := iteS q
  cases q
  refine ⟨G, ρ, x.1, x.2, R, e1, fun v G1 H1 P => ⟨G1, x.2, y.1, y.2, P.rel, e2, fun w G2 H2 P2 => ⟨v, w, rfl, ?_⟩⟩⟩
  have r1 := res_mono P2.stp P.res
  have R2 := rel_set (i := i) P2.rel r1 (fO_nb e1)
  have S2 := stp_set (v := v) (r := x.1) (P.stp.trans P2.stp) hb P.new
  have n2 : NewR H w y.1 := (pst_trans P.stp P2).new
  refine k _ G2 H2 (rel_set R2 ?_ (fO_nb e2)) (stp_set S2 (notBg_set hb2 hij) n2)
  cases hy : y.1 with
  | va d =>
    have z := P2.res
    rw [hy] at z
    exact z
  | br l => exact absurd hy (fO_nb e2 l)
  | ls ds =>
    have z := P2.res
    have zn := P2.new
    rw [hy] at z zn
    obtain ⟨p, xs, rfl, g, e3, al, no⟩ := z
    refine ⟨p, xs, rfl, g, e3, al, fun hw => ?_⟩
    rcases ow_set hw with hw | ⟨ho, hv⟩
    · exact no hw
    · have hx := P.res
      cases hx1 : x.1 with
      | va d => rw [hx1] at ho; cases ho
      | br l => rw [hx1] at ho; cases ho
      | ls es =>
        rw [hx1] at hx
        obtain ⟨p2, xs2, e4, g4, e5, _⟩ := hx
        rw [hv] at e4
        cases e4
        have := zn p rfl
        rw [e5] at this
        cases this
theorem s_par {i j : Nat} {x y : Str} {px py pt : Pos} {kt k2 : Nat} {pt2 : Pos} (hc : X.calm = true) (hN : X.N.Nodup) (hi : X.N[i]? = some x) (hj : X.N[j]? = some y) (hij : i ≠ j)
    (hx : X.env.scope.names.lookup x = some .local) (hy : X.env.scope.names.lookup y = some .local) (ha : PE X a (tD X.K f)) (hb : PE X b (tD X.K g)) (hsa : starEach [a, b] X.env = (false, eval a X.env) :: starEach [b] X.env) (hsb : starEach [b] X.env = (false, eval b X.env) :: starEach [] X.env)
    (hw : swappedStores [.Tuple [.Name x px, .Name y py] kt pt] (.Tuple [a, b] k2 pt2) X.env = pure (some [x, y])) : PS X (.Assign [.Tuple [.Name x px, .Name y py] kt pt] (.Tuple [a, b] k2 pt2) pos) (tS X.K (fPar i j f g)) :=
  weakS (ps_par hc hN hi hj hij hx hy (pa_cons (to_O ha) (pa_cons (to_O hb) pa_nil hsb) hsa) hw rfl) fun D σ H q => par_ok q
end

/-! ### own lists changed -/
def sameKind : Sl → List D → Sl
  | .ls _, ds => .ls ds
  | .bg _, ds => .bg ds
  | s, _ => s
/-- the items of an own list -/
def items (ρ : Lo) (i : Nat) : Option (List D) := match ρ[i]? with
  | some (.ls ds) => some ds
  | some (.bg ds) => some ds
  | _ => none
def putItems (ρ : Lo) (i : Nat) (ds : List D) : Lo := match ρ[i]? with
  | some s => ρ.set i (sameKind s ds)
  | none => ρ
section
variable {K : PySem.W.Frag} {G H : Hp} {σ : St} {ρ : Lo}
theorem items_ok {i : Nat} {ds : List D} (R : Rel K G H σ ρ) (e : items ρ i = some ds) : ∃ (p : Addr) (xs : List V), σ[i]? = some (some (.ref p)) ∧ G p = none ∧ H p = some (.lst xs) ∧ DpAll K G xs ds ∧ Ow σ ρ p ∧ Own ρ i := by
  unfold items at e
  cases z : ρ[i]? with
  | none => rw [z] at e; cases e
  | some s =>
    rw [z] at e
    cases s with
    | no => cases e
    | va d => cases e
    | ls es =>
      cases e
      obtain ⟨p, xs, e1, g, e2, al⟩ := R.sl i _ z
      exact ⟨p, xs, e1, g, e2, al, .inl ⟨i, _, z, e1⟩, .ls z⟩
    | hd _ => cases e
    | bg es =>
      cases e
      obtain ⟨p, xs, e1, g, e2, al⟩ := R.sl i _ z
      exact ⟨p, xs, e1, g, e2, al, .inr ⟨i, _, z, e1⟩, .bg z⟩
theorem put_ok {i : Nat} {p : Addr} {xs : List V} {ds : List D} (R : Rel K G H σ ρ) (o : Own ρ i) (e : σ[i]? = some (some (.ref p))) (al : DpAll K G xs ds) :
    Rel K G (upd H p (.lst xs)) σ (putItems ρ i ds) ∧ Stp σ ρ G H σ (putItems ρ i ds) G (upd H p (.lst xs)) := by
  obtain ⟨s, hs, ho⟩ := id o
  have hi : i < ρ.length := (List.getElem?_eq_some_iff.mp hs).1
  have ep : putItems ρ i ds = ρ.set i (sameKind s ds) := by unfold putItems; rw [hs]
  have ow : Ow σ ρ p := Ow.of o e
  have gp : G p = none := R.noG ow
  have sub : Same G (upd H p (.lst xs)) := fun a u h => by
    rw [upd_ne (ne_of_none h gp)]
    exact R.sub _ _ h
  rw [ep]
  have back : ∀ {j : Nat} {t : Sl}, (ρ.set i (sameKind s ds))[j]? = some t → isOwn t = true → Own ρ j := fun {j t} h h2 => by
    by_cases hj : i = j
    · subst hj
      exact o
    · rw [List.getElem?_set_ne hj] at h
      exact ⟨t, h, h2⟩
  refine ⟨⟨sub, fun j t h => ?_, fun j l a ⟨t1, h1, o1⟩ ⟨t2, h2, o2⟩ => R.apart j l a (back h1 o1) (back h2 o2), by rw [List.length_set]; exact R.len⟩,
    ⟨Same.refl _, fun a u h n => by rw [upd_ne (fun z => n (by rw [z]; exact ow))]; exact h, fun _ _ _ => rfl, fun a ⟨j, es, h1, h2⟩ => ?_, fun j es h => ?_, fun a h => ?_⟩⟩
  · by_cases hj : i = j
    · subst hj
      rw [List.getElem?_set_self hi] at h
      cases h
      cases s with
      | no => cases ho
      | va d => cases ho
      | ls es => exact ⟨p, xs, e, gp, upd_same, al⟩
      | hd _ => cases ho
      | bg es => exact ⟨p, xs, e, gp, upd_same, al⟩
    · rw [List.getElem?_set_ne hj] at h
      have q := R.sl j t h
      have own : ∀ es, isOwn t = true → Mine K G H σ[j]? es → Mine K G (upd H p (.lst xs)) σ[j]? es := fun es o2 ⟨a, ys, e3, g3, e4, al3⟩ =>
        ⟨a, ys, e3, g3, by rw [upd_ne (fun z => hj (R.apart i j p o ⟨t, h, o2⟩ e (by rw [z] at e3; exact e3)))]; exact e4, al3⟩
      cases t with
      | no => trivial
      | va d => exact q
      | ls es => exact own es rfl q
      | hd _ => exact q
      | bg es => exact own es rfl q
  · by_cases hj : i = j
    · subst hj
      rw [List.getElem?_set_self hi] at h1
      cases s with
      | no => cases ho
      | va d => cases ho
      | hd _ => cases ho
      | bg es => cases h1
      | ls es' => exact .inl ⟨i, es', hs, h2⟩
    · rw [List.getElem?_set_ne hj] at h1
      exact .inl ⟨j, es, h1, h2⟩
  · by_cases hj : i = j
    · subst hj
      rw [List.getElem?_set_self hi] at h
      cases s with
      | no => cases ho
      | va d => cases ho
      | ls es => cases h
      | hd _ => cases ho
      | bg es' => exact ⟨es', hs, rfl⟩
    · rw [List.getElem?_set_ne hj] at h
      exact ⟨es, h, rfl⟩
  · by_cases ha : a = p
    · rw [ha, upd_same]
      simp
    · rw [upd_ne ha]
      exact h
end
/-- the own list of a slot stays at its place -/
theorem own_stays {K : PySem.W.Frag} {G' H' : Hp} {σ : St} {ρ' : Lo} {i : Nat} {v : V} {ds : List D} (R' : Rel K G' H' σ ρ') (e : σ[i]? = some (some v)) (h : items ρ' i = some ds) : ∃ (p : Addr) (xs : List V), v = .ref p ∧ H' p = some (.lst xs) ∧ DpAll K G' xs ds ∧ Own ρ' i := by
  obtain ⟨p, xs, e1, g, e2, al, _, o⟩ := items_ok R' h
  rw [e] at e1
  cases e1
  exact ⟨p, xs, rfl, e2, al, o⟩
section
variable {X : Cx} {e : Expr} {es : List Expr} {pos : Pos}
/-- a method that changes an own list: of the items and the arguments the new items and what is handed back -/
def fMut (i : Nat) (φ : List D → List D → Option (List D × RR)) (fs : Fn (List D)) : Fn RR := fun ρ => if (items ρ i).isSome = true then (fs ρ).bind fun x => (items x.2 i).bind fun ds => (φ ds x.1).map fun y => (y.2, putItems x.2 i y.1) else none
def rMut (K : PySem.W.Frag) (φ : List D → List D → Option (List D × RR)) : V → List V → Hp → VK → Prop := fun x vs H Q => ∃ (G : Hp) (p : Addr) (xs : List V) (ds es : List D) (y : List D × RR), x = .ref p ∧ H p = some (.lst xs) ∧ DpAll K G xs ds ∧ DpAll K G vs es ∧ φ ds es = some y ∧
  ∀ (xs' : List V) (v : V), DpAll K G xs' y.1 → (match y.2 with | .va d => Dp K G v d | _ => False) → Q v (upd H p (.lst xs'))
theorem mut_ok {i : Nat} {φ : List D → List D → Option (List D × RR)} {fs : Fn (List D)} {σ : St} {H : Hp} {Q : VK} (h : tD X.K (fMut i φ fs) σ H Q) : tBM X.K "list" (rMut X.K φ) (tVar i) (tFs X.K fs) σ H Q := by
  obtain ⟨G, ρ, r, ρ', R, q, k⟩ := h
  unfold fMut at q
  by_cases hi : (items ρ i).isSome = true
  · rw [if_pos hi] at q
    obtain ⟨x, e1, q⟩ := bindS q
    obtain ⟨ds, e2, q⟩ := bindS q
    obtain ⟨y, e3, q⟩ := mapS q
    cases q
    obtain ⟨ds0, e0⟩ := Option.isSome_iff_exists.mp hi
    obtain ⟨p, xs, e4, g4, e5, al, ow, o⟩ := items_ok R e0
    refine ⟨.ref p, e4, .inl ⟨rfl, xs, SqL.of e5⟩, G, ρ, x.1, x.2, R, e1, fun vs G1 H1 R1 S1 d1 => ?_⟩
    obtain ⟨p', xs1, ep, e6, al1, o1⟩ := own_stays (v := .ref p) R1 e4 e2
    cases ep
    refine ⟨G1, p, xs1, ds, x.1, y, rfl, e6, al1, d1, e3, fun xs' v al' hv => ?_⟩
    obtain ⟨R2, S2⟩ := put_ok R1 o1 e4 al'
    refine k v G1 _ ⟨R2, S1.trans S2, ?_, ?_⟩
    · cases hy : y.2 with
      | va d => rw [hy] at hv; exact hv
      | ls es => rw [hy] at hv; exact hv.elim
      | br j => rw [hy] at hv; exact hv.elim
    · cases hy : y.2 with
      | va d => trivial
      | ls es => rw [hy] at hv; exact hv.elim
      | br j => trivial
  · rw [if_neg hi] at q
    cases q
theorem e_mut {i : Nat} {x name : Str} {id : String} {φ : List D → List D → Option (List D × RR)} {fs : Fn (List D)} {npos apos : Pos} (slot : Slot "list" name id) (hty : typeOf (.builtin id) = pure (.type "method_descriptor")) (hm : MtR X id (rMut X.K φ))
    (hN : X.N[i]? = some x) (hv : Vis X.env.scope x) (hd : (x == ("__debug__" : Str)) = false) (hcd : (x == ("__classdict__" : Str)) = false) (ha : PA X (e :: es) (tFs X.K fs))
    (hfew : ((backTo pos (starEach (e :: es) X.env)).all (fun x => !x.1) && (backToKw pos (keywordEach [] X.env)).all (fun x => x.1.isSome)
      && decide ((e :: es).length + ([] : List Keyword).length + (if ([] : List Keyword).isEmpty then 0 else 1) < 30)) = true)
    (hline : (apos.endLine == pos.line) = true) (hs : starEach (e :: es) X.env = (false, eval e X.env) :: starEach es X.env) (hplain : (backTo pos (starEach es X.env)).any (·.1) = false) :
    PE X (.Call (.Attribute (.Name x npos) name apos) (e :: es) [] pos) (tD X.K (fMut i φ fs)) :=
  weakE (pe_bm PySem.F.plainAttrs_list slot hty hm (pe_var hN hv hd hcd) ha rfl hfew hline hs hplain) fun σ H Q h => mut_ok h
def φApp : List D → List D → Option (List D × RR)
  | ds, [d] => if ds.length < lim then some (ds ++ [d], .va .none) else none
  | _, _ => none
theorem m_app : MtR X "list.append" (rMut X.K φApp) := by
  intro pins s σ H x vs v us Q I rx rs h
  obtain ⟨G, p, xs, ds, es, y, rfl, hp, al, bl, hφ, k⟩ := h
  unfold φApp at hφ
  split at hφ
  · obtain ⟨hl, rfl⟩ := iteS hφ
    cases bl with
    | cons b t =>
      cases t
      refine mt_append pins s σ H _ _ v us Q I rx rs ⟨p, xs, _, rfl, rfl, hp, by rw [dpsLen al]; exact lim_lt (Nat.le_of_lt hl), k _ _ (dpsApp al (.cons b .nil)) .non⟩
  · cases hφ
def φIns : List D → List D → Option (List D × RR)
  | ds, [.int i, d] => if ds.length < lim ∧ 0 ≤ i ∧ i < 1000000 then some (ds.take i.toNat ++ [d] ++ ds.drop i.toNat, .va .none) else none
  | _, _ => none
theorem m_ins : MtR X "list.insert" (rMut X.K φIns) := by
  intro pins s σ H x vs v us Q I rx rs h
  obtain ⟨G, p, xs, ds, es, y, rfl, hp, al, bl, hφ, k⟩ := h
  unfold φIns at hφ
  split at hφ
  · obtain ⟨⟨hl, h0, h1⟩, rfl⟩ := iteS hφ
    cases bl with
    | cons b t =>
      cases t with
      | cons b2 t2 =>
        cases t2
        cases b
        exact mt_insert pins s σ H _ _ v us Q I rx rs ⟨p, xs, _, _, rfl, rfl, hp, by rw [dpsLen al]; exact lim_lt (Nat.le_of_lt hl), h0, by omega, k _ _ (dpsApp (dpsApp (dpsTake _ al) (.cons b2 .nil)) (dpsDrop _ al)) .non⟩
  · cases hφ
end
/-- three names at once -/
def fPar3 (i j l : Nat) (f g h : Fn RR) : FS := fun ρ => (fO f ρ).bind fun x => (fO g x.2).bind fun y => (fO h y.2).bind fun z =>
  if (notBg z.2 i = true ∧ notBg z.2 j = true ∧ notBg z.2 l = true) ∧ i ≠ j ∧ i ≠ l ∧ j ≠ l then some (.nx, ((z.2.set i (SlOf x.1)).set j (SlOf y.1)).set l (SlOf z.1)) else none
theorem res_set {K : PySem.W.Frag} {G H H0 : Hp} {σ : St} {ρ : Lo} {i : Nat} {v w : V} {r r' : RR} (h : ResR K G H σ ρ w r') (nb : ∀ j, r' ≠ .br j) (ne : ∀ p, isOwn (SlOf r) = true → v = .ref p → H0 p ≠ none) (new : NewR H0 w r') :
    ResR K G H (σ.set i (some v)) (ρ.set i (SlOf r)) w r' := by
  cases r' with
  | va d => exact h
  | br l => exact absurd rfl (nb l)
  | ls ds =>
    obtain ⟨p, xs, rfl, g, e3, al, no⟩ := h
    refine ⟨p, xs, rfl, g, e3, al, fun hw => ?_⟩
    rcases ow_set hw with hw | ⟨ho, hv⟩
    · exact no hw
    · exact ne p ho hv (new p rfl)
theorem own_there {K : PySem.W.Frag} {G H : Hp} {σ : St} {ρ : Lo} {v : V} {r : RR} (h : ResR K G H σ ρ v r) : ∀ p, isOwn (SlOf r) = true → v = .ref p → H p ≠ none := fun p ho hv => by
  cases r with
  | va d => cases ho
  | br l => cases ho
  | ls es =>
    obtain ⟨p2, xs2, e4, g4, e5, _⟩ := h
    rw [hv] at e4
    cases e4
    rw [e5]
    simp
section
variable {X : Cx} {a b c : Expr} {f g h3 : Fn RR} {pos : Pos}
theorem par3_ok {i j l : Nat} {D : Ends} {σ : St} {H : Hp} (h : tS X.K (fPar3 i j l f g h3) D σ H) : L2.tPar3 i j l (tCons (tD X.K (fO f)) (tCons (tD X.K (fO g)) (tCons (tD X.K (fO h3)) tNil))) D σ H := by
  obtain ⟨G, ρ, o, ρ', R, q, k⟩ := h
  obtain ⟨x, e1, q⟩ := bindS q
  obtain ⟨y, e2, q⟩ := bindS q
  obtain ⟨z, e3, q⟩ := bindS q
  obtain ⟨⟨⟨hb, hb2, hb3⟩, hij, hil, hjl⟩, q⟩ := iteS q
  cases q
  refine ⟨G, ρ, x.1, x.2, R, e1, fun v G1 H1 P => ⟨G1, x.2, y.1, y.2, P.rel, e2, fun w G2 H2 P2 => ⟨G2, y.2, z.1, z.2, P2.rel, e3, fun u G3 H3 P3 => ⟨v, w, u, rfl, ?_⟩⟩⟩⟩
  have rx2 := res_mono P2.stp P.res
  have rx := res_mono P3.stp rx2
  have ry := res_mono P3.stp P2.res
  have R1 := rel_set (i := i) P3.rel rx (fO_nb e1)
  have S1 := stp_set (v := v) (r := x.1) ((P.stp.trans P2.stp).trans P3.stp) hb P.new
  have ry1 := res_set (i := i) (v := v) (r := x.1) ry (fO_nb e2) (own_there P.res) P2.new
  have ny : NewR H w y.1 := (pst_trans P.stp P2).new
  have R2 := rel_set (i := j) R1 ry1 (fO_nb e2)
  have S2 := stp_set (v := w) (r := y.1) S1 (notBg_set hb2 hij) ny
  have rz1 := res_set (i := i) (v := v) (r := x.1) P3.res (fO_nb e3) (own_there rx2) P3.new
  have rz2 := res_set (i := j) (v := w) (r := y.1) rz1 (fO_nb e3) (own_there P2.res) P3.new
  have nz : NewR H u z.1 := (pst_trans (P.stp.trans P2.stp) P3).new
  exact k _ G3 H3 (rel_set R2 rz2 (fO_nb e3)) (stp_set S2 (notBg_set (notBg_set hb3 hil) hjl) nz)
theorem s_par3 {i j l : Nat} {x y z : Str} {px py pz pt : Pos} {kt k2 : Nat} {pt2 : Pos} (hc : X.calm = true) (hN : X.N.Nodup) (hi : X.N[i]? = some x) (hj : X.N[j]? = some y) (hl : X.N[l]? = some z) (hij : i ≠ j) (hil : i ≠ l) (hjl : j ≠ l)
    (hx : X.env.scope.names.lookup x = some .local) (hy : X.env.scope.names.lookup y = some .local) (hz : X.env.scope.names.lookup z = some .local) (ha : PE X a (tD X.K f)) (hb : PE X b (tD X.K g)) (hcc : PE X c (tD X.K h3))
    (hsa : starEach [a, b, c] X.env = (false, eval a X.env) :: starEach [b, c] X.env) (hsb : starEach [b, c] X.env = (false, eval b X.env) :: starEach [c] X.env) (hsc : starEach [c] X.env = (false, eval c X.env) :: starEach [] X.env)
    (hw : swappedStores [.Tuple [.Name x px, .Name y py, .Name z pz] kt pt] (.Tuple [a, b, c] k2 pt2) X.env = pure (some [x, y, z])) : PS X (.Assign [.Tuple [.Name x px, .Name y py, .Name z pz] kt pt] (.Tuple [a, b, c] k2 pt2) pos) (tS X.K (fPar3 i j l f g h3)) :=
  weakS (L2.ps_par3 hc hN hi hj hl hij hil hjl hx hy hz (pa_cons (to_O ha) (pa_cons (to_O hb) (pa_cons (to_O hcc) pa_nil hsc) hsb) hsa) hw rfl) fun D σ H q => par3_ok q
end
end Den

set_option autoImplicit false
/-! Data-level denotations: what is walked, loops, comprehensions. -/
namespace Den
open PySem PySem.Spec L2

/-- the walk J yields the data ds one by one, as long as the heap G₀ is kept -/
structure Yl (K : PySem.W.Frag) (G₀ : Hp) (J : It) (ds : List D) : Prop where
  go : ∀ (i : Nat) (d : D) (H : Hp), Same G₀ H → ds[i]? = some d → J.go i H
  yl : ∀ (i : Nat) (d : D) (G H : Hp) (x : V) (H2 : Hp), Same G₀ G → Same G H → ds[i]? = some d → J.yld i H x H2 → ∃ G2, Made K G H x (.va d) G2 H2
  st : ∀ (i : Nat) (H : Hp), Same G₀ H → ds.length ≤ i → J.stop i H
def tItr (K : PySem.W.Frag) (f : Fn (List D)) : TI := fun σ H R => ∃ G ρ ds ρ', Rel K G H σ ρ ∧ f ρ = some (ds, ρ') ∧ ∀ G' H' J, Rel K G' H' σ ρ' → Stp σ ρ G H σ ρ' G' H' → Yl K G' J ds → R J H'
section
variable {K : PySem.W.Frag} {G : Hp}
theorem yl_list {a : Addr} {xs : List V} {ds : List D} (h : SqL K G a xs) (al : DpAll K G xs ds) : Yl K G (Itl K a) ds where
  go := fun i d H s e => by
    obtain ⟨v, h1, _⟩ := dpsGet al e
    exact ⟨xs, v, s.seq h, h1⟩
  yl := fun i d G' H x H2 s s2 e y => by
    obtain ⟨v, h1, h2⟩ := dpsGet al e
    obtain ⟨rfl, y⟩ := y
    have q := y xs ((s.trans s2).seq h)
    rw [h1] at q
    cases q
    exact ⟨G', .va s2 (dpMono s h2)⟩
  st := fun i H s e => ⟨xs, s.seq h, by rw [dpsLen al]; exact e⟩
theorem yl_tup {a : Addr} {xs : List V} {ds : List D} (h : SqT K G a xs) (al : DpAll K G xs ds) : Yl K G (Itt K a) ds where
  go := fun i d H s e => by
    obtain ⟨v, h1, _⟩ := dpsGet al e
    exact ⟨xs, v, same_tup s h, h1⟩
  yl := fun i d G' H x H2 s s2 e y => by
    obtain ⟨v, h1, h2⟩ := dpsGet al e
    obtain ⟨rfl, y⟩ := y
    have q := y xs (same_tup (s.trans s2) h)
    rw [h1] at q
    cases q
    exact ⟨G', .va s2 (dpMono s h2)⟩
  st := fun i H s e => ⟨xs, same_tup s h, by rw [dpsLen al]; exact e⟩
/-- lo, lo + 1, .. -/
def rng (lo hi : Int) : List D := (List.range (hi - lo).toNat).map fun (i : Nat) => .int (lo + (i : Int))
theorem rng_len (lo hi : Int) : (rng lo hi).length = (hi - lo).toNat := by unfold rng; rw [List.length_map, List.length_range]
theorem yl_rng {lo hi : Int} : Yl K G (Itr lo (hi - lo).toNat) (rng lo hi) where
  go := fun i d H s e => by
    have := (List.getElem?_eq_some_iff.mp e).1
    rw [rng_len] at this
    exact this
  yl := fun i d G' H x H2 s s2 e y => by
    obtain ⟨rfl, rfl⟩ := y
    refine ⟨G', ?_⟩
    unfold rng at e
    rw [List.getElem?_map] at e
    obtain ⟨j, e1, rfl⟩ := mapS e
    obtain ⟨h1, h2⟩ := List.getElem?_eq_some_iff.mp e1
    rw [List.getElem_range] at h2
    subst h2
    exact .va s2 (.int _)
  st := fun i H s e => by rw [rng_len] at e; exact e
end
section
variable {X : Cx} {tg l a b : Expr} {f g : Fn RR} {pos : Pos}
theorem weakI {tg it : Expr} {t t' : TI} (h : PI X tg it t) (w : ∀ σ H R, t' σ H R → t σ H R) : PI X tg it t' := ⟨fun pins s σ H R I q => h.run pins s σ H R I (w σ H R q)⟩
/-- the items of a list or a tuple -/
def its : D → Option (List D)
  | .list ds => some ds
  | .tuple ds => some ds
  | _ => none
def fIt (f : Fn RR) : Fn (List D) := fun ρ => (fF f ρ).bind fun x => (its x.1).map fun ds => (ds, x.2)
theorem i_seq (h : PE X l (tD X.K f)) : PI X tg l (tItr X.K (fIt f)) := by
  refine ⟨fun pins s σ H R I ⟨G, ρ, ds, ρ', Rl, q, k⟩ => ?_⟩
  obtain ⟨x, e1, q⟩ := bindS q
  obtain ⟨ds', e2, q⟩ := mapS q
  cases q
  cases hx : x.1 with
  | list es =>
    rw [hx] at e2
    cases e2
    refine (pi_list (to_F h)).run pins s σ H R I ⟨G, ρ, x.1, x.2, Rl, e1, fun v G1 H1 R1 S1 dp => ?_⟩
    rw [hx] at dp
    cases dp with
    | lst hs al => exact ⟨_, rfl, ⟨_, R1.sub.seq hs⟩, k G1 H1 _ R1 S1 (yl_list hs al)⟩
  | tuple es =>
    rw [hx] at e2
    cases e2
    refine (pi_tup (to_F h)).run pins s σ H R I ⟨G, ρ, x.1, x.2, Rl, e1, fun v G1 H1 R1 S1 dp => ?_⟩
    rw [hx] at dp
    cases dp with
    | tup hs al => exact ⟨_, rfl, ⟨_, same_tup R1.sub hs⟩, k G1 H1 _ R1 S1 (yl_tup hs al)⟩
  | _ => rw [hx] at e2; cases e2
def fR1 (fs : Fn (List RR)) : Fn (List D) := fun ρ => (fs ρ).bind fun x => (vws x.1 x.2).bind fun ds => match ds with
  | [.int j] => if -1000000 ≤ j ∧ j ≤ 1000000 then some (rng 0 j, x.2) else none
  | [.int i, .int j] => if -1000000 ≤ i ∧ i ≤ 1000000 ∧ -1000000 ≤ j ∧ j ≤ 1000000 then some (rng i j, x.2) else none
  | _ => none
theorem i_rng1 {p : Pos} {fs : Fn (List RR)} (hg : Gl X "range") (hm : X.mg "range" = none) (ha : PA X [a] (tVs X.K fs)) (hs : starEach [a] X.env = [(false, eval a X.env)]) (h1 : ∀ ρ x, fs ρ = some x → x.1.length = 1) :
    PI X tg (.Call (.Name "range" p) [a] [] pos) (tItr X.K (fR1 fs)) :=
  weakI (pi_range1 hg hm ha hs) fun σ H R ⟨G, ρ, ds, ρ', Rl, q, k⟩ => by
    obtain ⟨x, e1, q⟩ := bindS q
    obtain ⟨es, e2, q⟩ := bindS q
    refine ⟨G, ρ, x.1, x.2, Rl, e1, fun vs G1 H1 R1 S1 dv => ?_⟩
    have dv2 := views_of R1 dv e2
    have hl := h1 _ _ e1
    have hl2 := resVs_get dv
    split at q
    · obtain ⟨hc, q⟩ := iteS q
      cases q
      obtain ⟨v, rfl, hv⟩ := views1 dv2
      cases view_int hv
      have e0 : ∀ j : Int, (j - 0).toNat = j.toNat := fun j => by rw [Int.sub_zero]
      refine ⟨_, rfl, by omega, by omega, k G1 H1 _ R1 S1 ?_⟩
      rw [← e0]
      exact yl_rng
    · obtain ⟨v, u, rfl, _, _⟩ := views2 dv2
      rw [hl] at hl2
      simp at hl2
    · cases q
theorem i_rng2 {p : Pos} {fs : Fn (List RR)} (hg : Gl X "range") (hm : X.mg "range" = none) (ha : PA X [a, b] (tVs X.K fs)) (hs : starEach [a, b] X.env = [(false, eval a X.env), (false, eval b X.env)]) (hs2 : starEach [b] X.env = [(false, eval b X.env)]) (h1 : ∀ ρ x, fs ρ = some x → x.1.length = 2) :
    PI X tg (.Call (.Name "range" p) [a, b] [] pos) (tItr X.K (fR1 fs)) :=
  weakI (pi_range2 hg hm ha hs hs2) fun σ H R ⟨G, ρ, ds, ρ', Rl, q, k⟩ => by
    obtain ⟨x, e1, q⟩ := bindS q
    obtain ⟨es, e2, q⟩ := bindS q
    refine ⟨G, ρ, x.1, x.2, Rl, e1, fun vs G1 H1 R1 S1 dv => ?_⟩
    have dv2 := views_of R1 dv e2
    have hl := h1 _ _ e1
    have hl2 := resVs_get dv
    split at q
    · obtain ⟨v, rfl, _⟩ := views1 dv2
      rw [hl] at hl2
      simp at hl2
    · obtain ⟨hc, q⟩ := iteS q
      cases q
      obtain ⟨v, u, rfl, hv, hu⟩ := views2 dv2
      cases view_int hv
      cases view_int hu
      exact ⟨_, _, rfl, ⟨by omega, by omega, by omega, by omega⟩, k G1 H1 _ R1 S1 yl_rng⟩
    · cases q
theorem fsCons_len {α : Type} {f : Fn α} {fs : Fn (List α)} {n : Nat} (h : ∀ ρ x, fs ρ = some x → x.1.length = n) : ∀ ρ x, fsCons f fs ρ = some x → x.1.length = n + 1 := fun ρ x e => by
  obtain ⟨y, e1, e⟩ := bindS e
  obtain ⟨z, e2, rfl⟩ := mapS e
  rw [List.length_cons, h _ _ e2]
theorem fsNil_len {α : Type} : ∀ ρ (x : List α × Lo), fsNil ρ = some x → x.1.length = 0 := fun ρ x e => by
  cases e
  rfl

/-! ### enumerate of a list or a tuple -/
def enumFrom (k : Nat) : List D → List D
  | [] => []
  | d :: ds => .tuple [.int (k : Int), d] :: enumFrom (k + 1) ds
theorem enumFrom_len : ∀ (ds : List D) (k : Nat), (enumFrom k ds).length = ds.length
  | [], _ => rfl
  | d :: ds, k => by rw [enumFrom, List.length_cons, List.length_cons, enumFrom_len ds]
theorem enumFrom_get : ∀ (ds : List D) (k i : Nat) (e : D), (enumFrom k ds)[i]? = some e → ∃ d, ds[i]? = some d ∧ e = .tuple [.int ((k + i : Nat) : Int), d]
  | [], _, _, _, h => by simp [enumFrom] at h
  | d :: ds, k, 0, e, h => by
    simp [enumFrom] at h
    exact ⟨d, rfl, h.symm⟩
  | d :: ds, k, i + 1, e, h => by
    obtain ⟨d', h1, h2⟩ := enumFrom_get ds (k + 1) i e (by simpa [enumFrom] using h)
    exact ⟨d', by simpa using h1, by rw [h2]; congr 3; omega⟩
/-- a tuple walked with its places -/
def IteT (K : PySem.W.Frag) (a : Addr) : It where
  go i H := ∃ (xs : List V) (x : V), SqT K H a xs ∧ xs[i]? = some x
  yld i H v H' := ∃ T x, v = .ref T ∧ H T = none ∧ H' = upd H T (.tup [.int (i : Nat), x]) ∧ ∀ xs, SqT K H a xs → xs[i]? = some x
  stop i H := ∃ xs : List V, SqT K H a xs ∧ xs.length ≤ i
theorem yl_enum {K : PySem.W.Frag} {G : Hp} {J : It} {xs : List V} {ds : List D} (al : DpAll K G xs ds) (go : ∀ i v H, Same G H → xs[i]? = some v → J.go i H) (st : ∀ i H, Same G H → xs.length ≤ i → J.stop i H)
    (yl : ∀ i v H y H', Same G H → xs[i]? = some v → J.yld i H y H' → ∃ T, y = .ref T ∧ H T = none ∧ H' = upd H T (.tup [.int (i : Nat), v])) : Yl K G J (enumFrom 0 ds) where
  go := fun i d H s e => by
    obtain ⟨d', e1, _⟩ := enumFrom_get ds 0 i d e
    obtain ⟨v, h1, _⟩ := dpsGet al e1
    exact go i v H s h1
  yl := fun i d G' H x H2 s s2 e y => by
    obtain ⟨d', e1, rfl⟩ := enumFrom_get ds 0 i d e
    obtain ⟨v, h1, h2⟩ := dpsGet al e1
    obtain ⟨T, rfl, n, rfl⟩ := yl i v H x H2 (s.trans s2) h1 y
    refine ⟨_, .tup s2 n ?_⟩
    rw [Nat.zero_add]
    exact .cons (.int _) (.cons (dpMono s h2) .nil)
  st := fun i H s e => st i H s (by rw [enumFrom_len] at e; rw [dpsLen al]; exact e)
theorem turn_enumT {P : Program} {w : World} {elts : List Expr} {kk : Nat} {tpos : Pos} (K : PySem.W.Frag) (a e it : Addr) :
    Turn P w K (.Tuple elts kk tpos) (IteT K a) [e, it] e (fun i h => (∃ old, IsEnum h e it ((i : Nat) : Int) old) ∧ h.IsTupleIter it a i ∧ e ≠ it) where
  mem := List.mem_cons_self
  obj := fun i h ⟨⟨old, he⟩, ⟨o, ho, hc, hd⟩, _⟩ b hb => by
    rcases List.mem_cons.mp hb with z | z
    · subst z
      exact ⟨_, he, fun v q => by cases q⟩
    · rw [List.mem_singleton.mp z]
      exact ⟨o, ho, fun v q => by rw [hd] at q; cases q⟩
  keep := fun i h h' ⟨⟨old, he⟩, hi, hne⟩ k => ⟨⟨old, k e List.mem_cons_self _ he⟩, hi.at fun o q => k it (List.mem_cons_of_mem _ List.mem_cons_self) o q, hne⟩
  item := by
    rintro X rfl rfl rfl hc i pins s σ H E I hf ⟨⟨old, he⟩, hit, hne⟩ ⟨xs, x, hq, hx⟩
    obtain ⟨us, rv, p, hz⟩ := I.tuple hq
    obtain ⟨u, hu, ru⟩ := rv.get hx
    have hel : e < s.heap.objs.size := Heap.lt_size he
    have hil : it < s.heap.objs.size := let ⟨_, q, _⟩ := hit; Heap.lt_size q
    have ha : a < s.heap.objs.size := p.lt
    have hai : a ≠ it := fun z => by
      obtain ⟨o1, q1, c1, _⟩ := p
      obtain ⟨o2, q2, c2, _⟩ := hit
      rw [z, q2] at q1
      cases q1
      rw [c1] at c2
      injection c2 with c3
      exact absurd c3 (by decide)
    have hae : a ≠ e := fun z => by
      obtain ⟨o1, q1, c1, _⟩ := p
      rw [z] at q1
      rw [show s.heap.get? e = _ from he] at q1
      cases q1
      injection c1 with c3
      exact absurd c3 (by decide)
    have Dr := Draws.tuple (prog := X.prog) (w := X.w) (A := X.A.in1) (I.ok.hd hc) it a hai us.toArray
    refine wpAny_pyNext_enum_itemD Dr he ⟨hit, p⟩ (i := i) (by have := (List.getElem?_eq_some_iff.mp hu).1; simpa using this) hne (by simp [hne, Ne.symm hae]) fun y h' tk py ho st' hT hsz hk => ?_
    have hy : y = u := by
      have z : us.toArray[i]? = some y := py
      rw [List.getElem?_toArray, hu] at z
      exact (Option.some.inj z).symm
    subst hy
    refine ⟨_, rfl, wpAny_letOwnedTupleGo_enum (s := { s with heap := h', toks := tk + 1 }) ho fun h2 he2 sb => ?_⟩
    have hT2 : h2.get? s.heap.objs.size = some { cls := .type "tuple", data := .seq #[.int i tk, y] } := (sb.2 _ (Nat.ne_of_gt hel)).trans hT
    have new : ObjOk X.prog X.w (upd H s.heap.objs.size (.tup [.int (i : Nat), x])) h2 s.heap.objs.size (.tup [.int (i : Nat), x]) :=
      ⟨lim_le (show 2 ≤ lim by decide), [.int i tk, y], .cons ⟨_, rfl⟩ (.cons ru .nil), ⟨_, hT2, rfl, _, rfl⟩⟩
    have keep2 : ∀ b ob, b ∉ [e, it] → s.heap.get? b = some ob → h2.get? b = some ob := fun b ob hb q => by
      rw [List.mem_cons, List.mem_singleton, not_or] at hb
      exact (sb.2 b hb.1).trans (hk b ob hb.1 hb.2 q)
    have I1 := I.turnedNew (t' := tk + 1) (ch := [e, it]) keep2 hf (Nat.le_refl _) new
    refine ⟨.ref s.heap.objs.size, _, I1, rfl, ⟨_, x, rfl, I.hok.fresh (Nat.le_refl _), rfl, fun ys hy => by rw [I.tuple_inj hy hq]; exact hx⟩, ⟨⟨y, ?_⟩, st'.1.at fun o q => (sb.2 it (Ne.symm hne)).trans q, hne⟩, fun b hb => ?_⟩
    · rw [show ((i + 1 : Nat) : Int) = (i : Int) + 1 by omega]
      exact he2
    · have hb2 : b < s.heap.objs.size := by
        rcases List.mem_cons.mp hb with z | z
        · rw [z]; exact hel
        · rw [List.mem_singleton.mp z]; exact hil
      rw [upd_ne (Nat.ne_of_lt hb2)]
      exact (hf b hb).1
  done := by
    rintro X rfl rfl rfl hc i pins s σ H E I hf ⟨⟨old, he⟩, hit, hne⟩ ⟨xs, hq, hx⟩
    obtain ⟨us, rv, p, hz⟩ := I.tuple hq
    obtain ⟨f0, f1, f2, f3, f4, f5⟩ := hf it (List.mem_cons_of_mem _ List.mem_cons_self)
    have hl := rv.length
    have hai : a ≠ it := fun z => by
      obtain ⟨o1, q1, c1, _⟩ := p
      obtain ⟨o2, q2, c2, _⟩ := hit
      rw [z, q2] at q1
      cases q1
      rw [c1] at c2
      injection c2 with c3
      exact absurd c3 (by decide)
    have hend : us.toArray[i]? = none := by rw [List.getElem?_toArray, List.getElem?_eq_none]; omega
    have hT : s.TypeIs (.ref e) "enumerate" := ⟨_, he, rfl⟩
    unfold pyNext
    refine wpAny_bind (wpAny_attempt (wpAny_callSpecial?_slot (name := Str.ofString "__next__") hT PySem.F.slot_enumerate_next
      (wpAny_call_entry PySem.F.slot_enumerate_next hT PySem.F.entry_enumerate_next ?_ (PySem.F.args_enumerate_next_1 _))))
    show wpAny _ _ (field (.ref e) 2 >>= _) _ _ _
    refine wpAny_bind (wpAny_field he rfl (x := .ref it) rfl ?_)
    refine wpAny_bind (wpAny_nextOf_tuple_end (I.ok.hd hc) hit p hend fun h' x' he' hx' => ?_)
    obtain ⟨o, ho, hc'⟩ := hx'
    refine wpAny_bind (wpAny_isInstance (T := "StopIteration") (b := true) ⟨o, ho, hc'⟩ isSubtype_stop ?_)
    exact wpAny_pure ⟨rfl, I.turned (t' := s.toks) (fun b o hb q => he' b o hb q) f0 f1 f3 f4 f5⟩
  self := fun A i s Q E ⟨⟨_, he⟩, _⟩ h => wpAny_pyIter_enum he h
end
end Den

set_option autoImplicit false
/-! Data-level denotations: enumerate called, loops, comprehensions. -/
namespace Den
open PySem PySem.Spec L2

section
open Sem (wp)
open AutoSeq1 (wpAny_loadPart')
set_option maxHeartbeats 1000000 in
/-- enumerate of one thing that can be walked: made -/
theorem meets_enum1 {v : Value} {o : Obj} {Hh : Heap → Prop} (B : Begins v o Hh) :
    Meets (Builtin.«enumerate.__new__» ⟨[.type "enumerate", v], []⟩) (fun _ R s => Hh s.heap ∧
      R (.ok (.ret (.ref (s.heap.push o).objs.size))) { s with heap := (s.heap.push o).push { cls := .type "enumerate", data := .fields #[.none, .bool false, .ref s.heap.objs.size, rawInt 0, .none, .none] } }) := by
  refine Meets.of_wp fun prog w A R s h => ?_
  obtain ⟨hp, g, d, tk, os⟩ := s
  obtain ⟨h1, h⟩ := h
  have hsub := sub_enumerate
  have walkv : ∀ {A2 : Around} {E2 Q2 : Value → Shared → Prop}, Q2 (.ref hp.objs.size) ⟨hp.push o, g, d, tk, os⟩ → wpAny (model prog w) A2 (pyIter v) Q2 E2 ⟨hp, g, d, tk, os⟩ :=
    fun q => B.iter prog w _ _ ⟨hp, g, d, tk, os⟩ _ h1 q
  wp_walk using walkv
  refine (wpAny_stack_any fun around => wpAny_pure ?_)
  split
  · rename_i c _ _ _ _ _
    cases (c == Value.type "enumerate") <;> (wp_walk using walkv; exact ⟨_, rfl, h⟩)
  · wp_walk using walkv
    exact ⟨_, rfl, h⟩
theorem call_enumT {prog : Program} {w : World} {A : Around} {E : Value → Shared → Prop} {s : Shared} {t : Addr} {us : Array Value} {Q : Value → Shared → Prop} (ht : s.heap.IsTuple t us)
    (h : ∀ h', IsEnum h' (s.heap.objs.size + 1) s.heap.objs.size 0 .none → h'.IsTupleIter s.heap.objs.size t 0 → (∀ b o, s.heap.get? b = some o → h'.get? b = some o) → Q (.ref (s.heap.objs.size + 1)) { s with heap := h' }) :
    wpAny (model prog w) A (call (.type "enumerate") [.ref t]) Q E s := by
  refine callType_new PySem.F.called_enumerate (by decide) (PySem.F.typeCall_enumerate_1 _) (PySem.F.newCall_enumerate_1 _) (fun obj => PySem.F.args_object_init_2 obj _) PySem.F.entry_enumerate_new (meets_enum1 (begins_tuple t us)) ⟨ht, ?_⟩
  generalize ho : ({ cls := .type "tuple_iterator", data := .fields #[.ref t, .int 0 0] } : Obj) = o
  have hz : (s.heap.push o).objs.size = s.heap.objs.size + 1 := Heap.size_push ..
  have he : IsEnum ((s.heap.push o).push { cls := .type "enumerate", data := .fields #[.none, .bool false, .ref s.heap.objs.size, rawInt 0, .none, .none] }) (s.heap.objs.size + 1) s.heap.objs.size 0 .none := by
    have q := Heap.get?_push_size (s.heap.push o) (o := { cls := .type "enumerate", data := .fields #[.none, .bool false, .ref s.heap.objs.size, rawInt 0, .none, .none] }) rfl
    rwa [hz] at q
  have ofree : o.isFreed = false := by rw [← ho]; rfl
  show _ ∧ _
  rw [hz]
  refine ⟨⟨_, he, rfl⟩, h _ he ⟨o, Heap.get?_push_of_some _ (Heap.get?_push_size _ ofree), by rw [← ho], by rw [← ho]; rfl⟩ fun b u x => Heap.get?_push_of_some _ (Heap.get?_push_of_some _ x)⟩
end
section
variable {X : Cx} {tg e : Expr} {f : Fn RR} {pos : Pos}
def fEn (f : Fn RR) : Fn (List D) := fun ρ => (fIt f ρ).map fun x => (enumFrom 0 x.1, x.2)
theorem i_enum {p tpos : Pos} {elts : List Expr} {kk : Nat} (hg : Gl X "enumerate") (hm : X.mg "enumerate" = none) (he : PE X e (tD X.K f)) (hs : starEach [e] X.env = [(false, eval e X.env)]) :
    PI X (.Tuple elts kk tpos) (.Call (.Name "enumerate" p) [e] [] pos) (tItr X.K (fEn f)) := by
  have ha : PA X [e] (tFs X.K (fsCons (fF f) fsNil)) := fs_cons (to_F he) fs_nil hs
  refine ⟨fun pins s σ H R I ⟨G, ρ, ds, ρ', Rl, q, k⟩ => ?_⟩
  obtain ⟨y, e0, q⟩ := mapS q
  cases q
  obtain ⟨x, e1, q⟩ := bindS e0
  obtain ⟨ds', e2, q⟩ := mapS q
  cases q
  have ea : fsCons (fF f) fsNil ρ = some ([x.1], x.2) := by
    unfold fsCons
    rw [e1]
    rfl
  cases hx : x.1 with
  | list es =>
    rw [hx] at e2
    cases e2
    refine (pi_enum hg hm ha hs).run pins s σ H R I ⟨G, ρ, [x.1], x.2, Rl, ea, fun vs G1 H1 R1 S1 dp => ?_⟩
    rw [hx] at dp
    cases dp with
    | cons dp t =>
      cases t
      cases dp with
      | lst hs al =>
        refine ⟨_, _, rfl, R1.sub.seq hs, k G1 H1 _ R1 S1 (yl_enum al (fun i v H' s h => ⟨_, v, s.seq hs, h⟩) (fun i H' s h => ⟨_, s.seq hs, h⟩) fun i v H' y H2 s h z => ?_)⟩
        obtain ⟨T, x2, e3, n, e4, z⟩ := z
        have z2 := z _ (s.seq hs)
        rw [h] at z2
        cases z2
        exact ⟨T, e3, n, e4⟩
  | tuple es =>
    rw [hx] at e2
    cases e2
    refine PyProof.Rows.Call_ (ld_blt I hg hm PyProof.Rows.boot_enumerate (PyProof.Rows.callWith_type1 (thn (ha.run pos pins s σ H (fun vs H1 => ∃ a xs, vs = [.ref a] ∧ SqT X.K H1 a xs ∧ R (IteT X.K a) H1) I ?_) fun us s1 ⟨vs, H1, I1, r1, q1⟩ => ?_) hs rfl))
    · refine ⟨G, ρ, [x.1], x.2, Rl, ea, fun vs G1 H1 R1 S1 dp => ?_⟩
      rw [hx] at dp
      cases dp with
      | cons dp t =>
        cases t
        cases dp with
        | tup hs al =>
          refine ⟨_, _, rfl, same_tup R1.sub hs, k G1 H1 _ R1 S1 (yl_enum al (fun i v H' s h => ⟨_, v, same_tup s hs, h⟩) (fun i H' s h => ⟨_, same_tup s hs, h⟩) fun i v H' y H2 s h z => ?_)⟩
          obtain ⟨T, x2, e3, n, e4, z⟩ := z
          have z2 := z _ (same_tup s hs)
          rw [h] at z2
          cases z2
          exact ⟨T, e3, n, e4⟩
    · obtain ⟨a, xs, rfl, hq, q⟩ := q1
      obtain ⟨u, rfl, ru⟩ := vals1 r1
      cases ru
      obtain ⟨us2, rv, p', hz⟩ := I1.tuple hq
      refine call_enumT p' fun h' he2 hit hk => wpAny_pyIter_enum he2 ?_
      refine ⟨s1.heap.objs.size + 1, [s1.heap.objs.size + 1, s1.heap.objs.size], _, _, H1, rfl, I1.kept (t' := s1.toks) hk, turn_enumT X.K a (s1.heap.objs.size + 1) s1.heap.objs.size, ⟨⟨.none, he2⟩, hit, Nat.succ_ne_self _⟩, fun b hb => ?_, q⟩
      have hle : s1.heap.objs.size ≤ b := by
        rcases List.mem_cons.mp hb with z | z
        · rw [z]; exact Nat.le_succ _
        · rw [List.mem_singleton.mp z]; exact Nat.le_refl _
      exact I1.fpOk hle (I1.hok.fresh hle)
  | _ => rw [hx] at e2; cases e2

/-! ### for -/
def loopF (t : D → Lo → Option Lo) (body : FS) : List D → FS
  | [], ρ => some (.nx, ρ)
  | d :: ds, ρ => (t d ρ).bind fun ρ1 => (body ρ1).bind fun x => match x.1 with
    | .nx => loopF t body ds x.2
    | .ct => loopF t body ds x.2
    | .bk => some (.nx, x.2)
    | .rt r => some (.rt r, x.2)
def fFor (it : Fn (List D)) (t : D → Lo → Option Lo) (body : FS) : FS := fun ρ => (it ρ).bind fun x => loopF t body x.1 x.2
theorem s_for {iter : Expr} {body : List Stmt} {it : Fn (List D)} {t : D → Lo → Option Lo} {fb : FS} {vs : List Nat} (hx : X.xe = fun _ _ => False) (hc : X.calm = true) (hi : PI X tg iter (tItr X.K it)) (hg : PG X tg (tTg X.K t vs)) (hb : PSs X body (tS X.K fb))
    (hs : ∀ x, foldedSetIterable iter X.env x = pure x) : PS X (.For tg iter body [] pos) (tS X.K (fFor it t fb)) :=
  weakS (ps_for (by rw [hx]; exact PassesOwn.never) hc hi hg hb hs) fun D σ H ⟨G, ρ, o, ρ', R, q, k⟩ => by
    obtain ⟨x, e1, q⟩ := bindS q
    refine ⟨G, ρ, x.1, x.2, R, e1, fun G1 H1 J R1 S1 yl => ?_⟩
    refine ⟨fun i m σ' H' => ∃ G' ρ'', Rel X.K G' H' σ' ρ'' ∧ Stp σ ρ G H σ' ρ'' G' H' ∧ Same G1 G' ∧ loopF t fb (x.1.drop i) ρ'' = some (o, ρ') ∧ m = x.1.length - i, ⟨_, G1, x.2, R1, S1, Same.refl _, q, rfl⟩, ?_⟩
    rintro i m σ2 H2 ⟨G2, ρ2, R2, S2, g12, q2, rfl⟩
    cases hd : x.1[i]? with
    | none =>
      have hl : x.1.length ≤ i := List.getElem?_eq_none_iff.mp hd
      rw [List.drop_eq_nil_of_le hl] at q2
      cases q2
      exact .inl ⟨yl.st i H2 (g12.trans R2.sub) hl, k σ2 G2 H2 R2 S2⟩
    | some d =>
      have hl : i < x.1.length := (List.getElem?_eq_some_iff.mp hd).1
      have ed : x.1.drop i = d :: x.1.drop (i + 1) := by
        rw [List.drop_eq_getElem_cons hl]
        congr 1
        exact (List.getElem?_eq_some_iff.mp hd).2
      rw [ed] at q2
      obtain ⟨ρ3, e3, q2⟩ := bindS q2
      obtain ⟨y, e4, q2⟩ := bindS q2
      refine .inr ⟨yl.go i d H2 (g12.trans R2.sub) hd, fun σ' H' => ∃ G' ρ'', Rel X.K G' H' σ' ρ'' ∧ Stp σ ρ G H σ' ρ'' G' H' ∧ Same G1 G' ∧ loopF t fb (x.1.drop (i + 1)) ρ'' = some (o, ρ'), fun σ' H' ⟨G', ρ'', a1, a2, a3, a4⟩ => ⟨_, by omega, G', ρ'', a1, a2, a3, a4, rfl⟩, fun v H3 hy => ?_⟩
      obtain ⟨G3, md⟩ := yl.yl i d G2 H2 v H3 g12 R2.sub hd hy
      have P := md.pst R2
      refine ⟨G3, ρ2, d, ρ3, P.rel, P.res, e3, fun σ4 R4 S4 _ _ => ?_⟩
      have S24 := S2.trans (P.stp.trans S4)
      have g14 : Same G1 G3 := g12.trans md.gg
      refine ⟨G3, ρ3, y.1, y.2, R4, e4, fun σ5 G5 H5 R5 S5 => ?_⟩
      have S25 := S24.trans S5
      cases hy1 : y.1 with
      | nx =>
        rw [hy1] at q2
        exact ⟨G5, y.2, R5, S25, g14.trans S5.gg, q2⟩
      | ct =>
        rw [hy1] at q2
        exact ⟨G5, y.2, R5, S25, g14.trans S5.gg, q2⟩
      | bk =>
        rw [hy1] at q2
        cases q2
        exact k σ5 G5 H5 R5 S25
      | rt r =>
        rw [hy1] at q2
        cases q2
        exact outK_trans k S24 σ5 G5 H5 R5 S5

/-! ### while -/
def whF (c : FT) (b : FS) : Nat → FS
  | 0, _ => none
  | n + 1, ρ => (c ρ).bind fun x => if x.1 then (b x.2).bind fun y => match y.1 with
      | .nx => whF c b n y.2
      | .ct => whF c b n y.2
      | .bk => some (.nx, y.2)
      | .rt r => some (.rt r, y.2)
    else some (.nx, x.2)
/-- a loop of at most so many turns -/
def fWh (c : FT) (b : FS) : FS := whF c b 1000000
theorem s_while {c : Expr} {body : List Stmt} {fc : FT} {fb : FS} (hx : X.xe = fun _ _ => False) (hc : PT X c (tT X.K fc)) (hb : PSs X body (tS X.K fb)) : PS X (.While c body [] pos) (tS X.K (fWh fc fb)) :=
  weakS (ps_while (by rw [hx]; exact PassesOwn.never) hc hb) fun D σ H ⟨G, ρ, o, ρ', R, q, k⟩ => by
    refine ⟨fun m σ' H' => ∃ G' ρ'', Rel X.K G' H' σ' ρ'' ∧ Stp σ ρ G H σ' ρ'' G' H' ∧ whF fc fb m ρ'' = some (o, ρ'), ⟨_, G, ρ, R, .refl, q⟩, ?_⟩
    rintro m σ2 H2 ⟨G2, ρ2, R2, S2, q2⟩
    cases m with
    | zero => cases q2
    | succ n =>
      obtain ⟨x, e1, q2⟩ := bindS q2
      refine ⟨G2, ρ2, x.1, x.2, R2, e1, fun G3 H3 R3 S3 => ?_⟩
      cases hx1 : x.1 with
      | false =>
        rw [hx1, if_neg (by simp)] at q2
        cases q2
        rw [if_neg (by simp)]
        exact k σ2 G3 H3 R3 (S2.trans S3)
      | true =>
        rw [hx1, if_pos rfl] at q2
        rw [if_pos rfl]
        obtain ⟨y, e4, q2⟩ := bindS q2
        refine ⟨fun σ' H' => ∃ G' ρ'', Rel X.K G' H' σ' ρ'' ∧ Stp σ ρ G H σ' ρ'' G' H' ∧ whF fc fb n ρ'' = some (o, ρ'), fun σ' H' h => ⟨n, Nat.lt_succ_self _, h⟩, G3, x.2, y.1, y.2, R3, e4, fun σ5 G5 H5 R5 S5 => ?_⟩
        have S25 := (S2.trans S3).trans S5
        cases hy1 : y.1 with
        | nx =>
          rw [hy1] at q2
          exact ⟨G5, y.2, R5, S25, q2⟩
        | ct =>
          rw [hy1] at q2
          exact ⟨G5, y.2, R5, S25, q2⟩
        | bk =>
          rw [hy1] at q2
          cases q2
          exact k σ5 G5 H5 R5 S25
        | rt r =>
          rw [hy1] at q2
          cases q2
          exact outK_trans k (S2.trans S3) σ5 G5 H5 R5 S5
theorem whF_more {c : FT} {b : FS} {y : Out × Lo} : ∀ {n : Nat} {ρ : Lo} {m : Nat}, whF c b n ρ = some y → n ≤ m → whF c b m ρ = some y
  | 0, _, _, h, _ => by cases h
  | n + 1, ρ, 0, _, h => by omega
  | n + 1, ρ, m + 1, h, hm => by
    obtain ⟨x, e1, h⟩ := bindS h
    show (c ρ).bind _ = _
    rw [e1, Option.bind_some]
    cases hx : x.1 with
    | false =>
      rw [hx] at h
      exact h
    | true =>
      rw [hx, if_pos rfl] at h
      rw [if_pos rfl]
      obtain ⟨z, e2, h⟩ := bindS h
      rw [e2, Option.bind_some]
      cases hz : z.1 with
      | nx =>
        rw [hz] at h
        exact whF_more h (by omega)
      | ct =>
        rw [hz] at h
        exact whF_more h (by omega)
      | bk =>
        rw [hz] at h
        exact h
      | rt r =>
        rw [hz] at h
        exact h
end
end Den

set_option autoImplicit false
/-! Data-level denotations: comprehensions. -/
namespace Den
open PySem PySem.Spec L2

def wipeL (ρ : Lo) : List Nat → Lo
  | [] => ρ
  | v :: vs => (wipeL ρ vs).set v .no
theorem wipeL_len (ρ : Lo) : ∀ vs : List Nat, (wipeL ρ vs).length = ρ.length
  | [] => rfl
  | v :: vs => by rw [wipeL, List.length_set, wipeL_len ρ vs]
theorem wipeL_out (ρ : Lo) {i : Nat} : ∀ {vs : List Nat}, i ∉ vs → (wipeL ρ vs)[i]? = ρ[i]?
  | [], _ => rfl
  | v :: vs, h => by
    rw [List.mem_cons, not_or] at h
    rw [wipeL, List.getElem?_set_ne (Ne.symm h.1), wipeL_out ρ h.2]
theorem wipeL_in (ρ : Lo) {i : Nat} {s : Sl} : ∀ {vs : List Nat}, i ∈ vs → (wipeL ρ vs)[i]? = some s → s = .no
  | v :: vs, h, e => by
    rw [wipeL] at e
    by_cases hv : v = i
    · subst hv
      by_cases hl : v < (wipeL ρ vs).length
      · rw [List.getElem?_set_self hl] at e
        cases e
        rfl
      · rw [List.getElem?_eq_none (by simpa using hl)] at e
        cases e
    · rw [List.getElem?_set_ne hv] at e
      rcases List.mem_cons.mp h with z | z
      · exact absurd z.symm hv
      · exact wipeL_in ρ z e
theorem wipe_in (σ : St) {i : Nat} : ∀ {vs : List Nat}, i ∈ vs → i < σ.length → (wipe σ vs)[i]? = some none
  | v :: vs, h, hl => by
    show ((wipe σ vs).set v none)[i]? = some none
    by_cases hv : v = i
    · subst hv
      exact List.getElem?_set_self (by rw [wipe_length]; exact hl)
    · rw [List.getElem?_set_ne hv]
      rcases List.mem_cons.mp h with z | z
      · exact absurd z.symm hv
      · exact wipe_in σ z hl
/-- back to what stood in the block's own slots -/
def restL (ρ₁ ρ₂ : Lo) : List Nat → Lo
  | [] => ρ₂
  | v :: vs => (restL ρ₁ ρ₂ vs).set v (ρ₁[v]?.getD .no)
theorem restL_len (ρ₁ ρ₂ : Lo) : ∀ vs : List Nat, (restL ρ₁ ρ₂ vs).length = ρ₂.length
  | [] => rfl
  | v :: vs => by rw [restL, List.length_set, restL_len ρ₁ ρ₂ vs]
theorem restL_out (ρ₁ ρ₂ : Lo) {i : Nat} : ∀ {vs : List Nat}, i ∉ vs → (restL ρ₁ ρ₂ vs)[i]? = ρ₂[i]?
  | [], _ => rfl
  | v :: vs, h => by
    rw [List.mem_cons, not_or] at h
    rw [restL, List.getElem?_set_ne (Ne.symm h.1), restL_out ρ₁ ρ₂ h.2]
theorem restL_in (ρ₁ ρ₂ : Lo) {i : Nat} (hl : ρ₂.length = ρ₁.length) : ∀ {vs : List Nat}, i ∈ vs → (restL ρ₁ ρ₂ vs)[i]? = ρ₁[i]?
  | v :: vs, h => by
    rw [restL]
    by_cases hv : v = i
    · subst hv
      by_cases hi : v < ρ₁.length
      · rw [List.getElem?_set_self (by rw [restL_len]; omega), List.getElem?_eq_getElem hi]
        rfl
      · rw [List.getElem?_eq_none (by rw [List.length_set, restL_len]; omega), List.getElem?_eq_none (by omega)]
    · rw [List.getElem?_set_ne hv]
      rcases List.mem_cons.mp h with z | z
      · exact absurd z.symm hv
      · exact restL_in ρ₁ ρ₂ hl z
section
variable {K : PySem.W.Frag} {G G' H H' : Hp} {σ σ' : St} {ρ ρ' : Lo}
theorem own_wipe {vs : List Nat} {i : Nat} (h : Own (wipeL ρ vs) i) : Own ρ i ∧ i ∉ vs := by
  obtain ⟨s, e, o⟩ := h
  by_cases hi : i ∈ vs
  · rw [wipeL_in ρ hi e] at o
    cases o
  · rw [wipeL_out ρ hi] at e
    exact ⟨⟨s, e, o⟩, hi⟩
theorem rel_wipe (R : Rel K G H σ ρ) (vs : List Nat) : Rel K G H (wipe σ vs) (wipeL ρ vs) := by
  refine ⟨R.sub, fun i s e => ?_, fun i j a hi hj ei ej => ?_, by rw [wipeL_len, wipe_length]; exact R.len⟩
  · by_cases hi : i ∈ vs
    · rw [wipeL_in ρ hi e]
      trivial
    · rw [wipeL_out ρ hi] at e
      rw [wipe_out hi]
      exact R.sl i s e
  · obtain ⟨o1, n1⟩ := own_wipe hi
    obtain ⟨o2, n2⟩ := own_wipe hj
    rw [wipe_out n1] at ei
    rw [wipe_out n2] at ej
    exact R.apart i j a o1 o2 ei ej
theorem ow_wipe {vs : List Nat} {a : Addr} (h : Ow (wipe σ vs) (wipeL ρ vs) a) : Ow σ ρ a := by
  obtain ⟨i, o, e⟩ := h.own
  obtain ⟨o1, n1⟩ := own_wipe o
  rw [wipe_out n1] at e
  exact Ow.of o1 e
theorem ls_wipe {vs : List Nat} {a : Addr} (h : Ls (wipe σ vs) (wipeL ρ vs) a) : Ls σ ρ a := by
  obtain ⟨i, ds, e1, e2⟩ := h
  by_cases hi : i ∈ vs
  · cases wipeL_in ρ hi e1
  · rw [wipeL_out ρ hi] at e1
    rw [wipe_out hi] at e2
    exact ⟨i, ds, e1, e2⟩
/-- a step's end wiped -/
theorem stp_wipe {σ₀ : St} {ρ₀ : Lo} {G₀ H₀ : Hp} (S : Stp σ₀ ρ₀ G₀ H₀ σ ρ G H) (vs : List Nat) : Stp σ₀ ρ₀ G₀ H₀ (wipe σ vs) (wipeL ρ vs) G H := by
  refine ⟨S.gg, S.keep, S.gnew, fun a h => S.ols a (ls_wipe h), fun i ds h => ?_, S.dom⟩
  by_cases hi : i ∈ vs
  · cases wipeL_in ρ hi h
  · rw [wipeL_out ρ hi] at h
    obtain ⟨d0, h1, h2⟩ := S.obg i ds h
    exact ⟨d0, h1, by rw [wipe_out hi]; exact h2⟩
/-- behind the block: its own slots stand as they stood -/
theorem rest_ok {vs : List Nat} {ρ₂ : Lo} (R : Rel K G H σ ρ) (R2 : Rel K G' H' (wipe σ vs) ρ₂) (S : Stp (wipe σ vs) (wipeL ρ vs) G H (wipe σ vs) ρ₂ G' H') :
    Rel K G' H' σ (restL ρ ρ₂ vs) ∧ Stp σ ρ G H σ (restL ρ ρ₂ vs) G' H' := by
  have hl : ρ₂.length = ρ.length := by rw [R2.len, wipe_length, R.len]
  have hid : ∀ {i : Nat} {s : Sl} {a : Addr}, i ∈ vs → ρ[i]? = some s → isOwn s = true → σ[i]? = some (some (.ref a)) → ¬ Ow (wipe σ vs) (wipeL ρ vs) a := fun {i s a} hi e o e2 h => by
    obtain ⟨j, o3, e3⟩ := h.own
    obtain ⟨o4, n4⟩ := own_wipe o3
    rw [wipe_out n4] at e3
    exact n4 (by rw [R.apart j i a o4 ⟨s, e, o⟩ e3 e2]; exact hi)
  have keepM : ∀ (i : Nat) (s : Sl) ds, i ∈ vs → ρ[i]? = some s → isOwn s = true → Mine K G H σ[i]? ds → Mine K G' H' σ[i]? ds := fun i s ds hi e o ⟨a, xs, e1, g, e2, al⟩ =>
    ⟨a, xs, e1, (S.gnew a (by rw [e2]; simp) (hid hi e o e1)).trans g, S.keep a _ e2 (hid hi e o e1), dpsMono S.gg al⟩
  have split : ∀ {i : Nat} {s : Sl}, (restL ρ ρ₂ vs)[i]? = some s → (i ∈ vs ∧ ρ[i]? = some s) ∨ (i ∉ vs ∧ ρ₂[i]? = some s) := fun {i s} e => by
    by_cases hi : i ∈ vs
    · rw [restL_in ρ ρ₂ hl hi] at e
      exact .inl ⟨hi, e⟩
    · rw [restL_out ρ ρ₂ hi] at e
      exact .inr ⟨hi, e⟩
  have notin : ∀ {i j : Nat} {s t : Sl} {a : Addr}, i ∈ vs → ρ[i]? = some s → isOwn s = true → σ[i]? = some (some (.ref a)) → j ∉ vs → ρ₂[j]? = some t → isOwn t = true → σ[j]? = some (some (.ref a)) → False := fun {i j s t a} hi e o e2 hj e3 o3 e4 => by
    have w : Ow (wipe σ vs) ρ₂ a := Ow.of ⟨t, e3, o3⟩ (by rw [wipe_out hj]; exact e4)
    rcases S.ow w with w | w
    · exact hid hi e o e2 w
    · exact R.owH (Ow.of ⟨s, e, o⟩ e2) w
  refine ⟨⟨R2.sub, fun i s e => ?_, fun i j a ⟨s, es, os⟩ ⟨t, et, ot⟩ ei ej => ?_, by rw [restL_len, hl]; exact R.len⟩,
    ⟨S.gg, fun a o e n => S.keep a o e fun w => n (ow_wipe w), fun a e n => S.gnew a e fun w => n (ow_wipe w), fun a ⟨i, ds, e1, e2⟩ => ?_, fun i ds e => ?_, S.dom⟩⟩
  · rcases split e with ⟨hi, e⟩ | ⟨hi, e⟩
    · have q := R.sl i s e
      cases s with
      | no => trivial
      | va d => obtain ⟨v, e1, q⟩ := q; exact ⟨v, e1, dpMono S.gg q⟩
      | ls ds => exact keepM i _ ds hi e rfl q
      | hd _ => exact q
      | bg ds => exact keepM i _ ds hi e rfl q
    · have q := R2.sl i s e
      rw [wipe_out hi] at q
      exact q
  · rcases split es with ⟨hi, es⟩ | ⟨hi, es⟩
    · rcases split et with ⟨hj, et⟩ | ⟨hj, et⟩
      · exact R.apart i j a ⟨s, es, os⟩ ⟨t, et, ot⟩ ei ej
      · exact (notin hi es os ei hj et ot ej).elim
    · rcases split et with ⟨hj, et⟩ | ⟨hj, et⟩
      · exact (notin hj et ot ej hi es os ei).elim
      · exact R2.apart i j a ⟨s, es, os⟩ ⟨t, et, ot⟩ (by rw [wipe_out hi]; exact ei) (by rw [wipe_out hj]; exact ej)
  · rcases split e1 with ⟨hi, e1⟩ | ⟨hi, e1⟩
    · exact .inl ⟨i, ds, e1, e2⟩
    · rcases S.ols a ⟨i, ds, e1, by rw [wipe_out hi]; exact e2⟩ with w | w
      · exact .inl (ls_wipe w)
      · exact .inr w
  · rcases split e with ⟨hi, e⟩ | ⟨hi, e⟩
    · exact ⟨ds, e, rfl⟩
    · obtain ⟨d0, h1, _⟩ := S.obg i ds e
      rw [wipeL_out ρ hi] at h1
      exact ⟨d0, h1, rfl⟩
theorem ow_rest {vs : List Nat} {ρ₂ : Lo} {a : Addr} (hl : ρ₂.length = ρ.length) (h : Ow σ (restL ρ ρ₂ vs) a) : Ow σ ρ a ∨ Ow (wipe σ vs) ρ₂ a := by
  obtain ⟨i, ⟨s, e, o⟩, e2⟩ := h.own
  by_cases hi : i ∈ vs
  · rw [restL_in ρ ρ₂ hl hi] at e
    exact .inl (Ow.of ⟨s, e, o⟩ e2)
  · rw [restL_out ρ ρ₂ hi] at e
    exact .inr (Ow.of ⟨s, e, o⟩ (by rw [wipe_out hi]; exact e2))
theorem wipe_same {vs ws : List Nat} (hw : ∀ j ∈ ws, j ∈ vs) (h : ∀ j, j ∉ ws → σ'[j]? = (wipe σ vs)[j]?) (hl : σ'.length = (wipe σ vs).length) : wipe σ' vs = wipe σ vs := by
  apply List.ext_getElem?
  intro j
  have l2 : σ'.length = σ.length := by rw [hl, wipe_length]
  by_cases hj : j ∈ vs
  · by_cases hlt : j < σ.length
    · rw [wipe_in σ' hj (by omega), wipe_in σ hj hlt]
    · rw [List.getElem?_eq_none (by rw [wipe_length]; omega), List.getElem?_eq_none (by rw [wipe_length]; omega)]
  · rw [wipe_out hj, h j (fun z => hj (hw j z))]
theorem wipe_wipe {vs : List Nat} (σ : St) : wipe (wipe σ vs) vs = wipe σ vs := wipe_same (ws := []) (fun _ z => nomatch z) (fun _ _ => rfl) rfl
end
/-- the turns of a comprehension -/
def lcF (vs : List Nat) (t : D → Lo → Option Lo) (test : FT) (elt : Fn D) : List D → List D → Lo → Option (List D × Lo)
  | [], acc, ρ => some (acc, ρ)
  | d :: ds, acc, ρ => (t d ρ).bind fun ρ1 => (test ρ1).bind fun b => if b.1 then (elt b.2).bind fun y => lcF vs t test elt ds (acc ++ [y.1]) (wipeL y.2 vs) else lcF vs t test elt ds acc (wipeL b.2 vs)
def fLc (vs : List Nat) (it : Fn (List D)) (t : D → Lo → Option Lo) (test : FT) (elt : Fn RR) : Fn RR := fun ρ => (it ρ).bind fun x => if x.1.length ≤ lim then
  (lcF vs t test (fF elt) x.1 [] (wipeL x.2 vs)).map fun y => (.ls y.1, restL x.2 y.2 vs) else none
def fYes : FT := fun ρ => some (true, ρ)
section
variable {X : Cx}
theorem lc_ok {K : PySem.W.Frag} {vs ws : List Nat} {it : Fn (List D)} {t : D → Lo → Option Lo} {test : FT} {elt : Fn RR} (hw : ∀ j ∈ ws, j ∈ vs) {σ : St} {H : Hp} {Q : VK} (h : tD K (fLc vs it t test elt) σ H Q) :
    tLc (tItr K it) (tTg K t ws) (tT K test) (tF K (fF elt)) vs σ H Q := by
  obtain ⟨G, ρ, r, ρ', R, q, k⟩ := h
  obtain ⟨x, e1, q⟩ := bindS q
  by_cases hlen : x.1.length ≤ lim
  · rw [if_pos hlen] at q
    obtain ⟨y, e2, q⟩ := mapS q
    cases q
    refine ⟨G, ρ, x.1, x.2, R, e1, fun G1 H1 J R1 S1 yl D hD => ?_⟩
    obtain ⟨R0, S0⟩ := (rel_wipe R1 vs).newH (o := .lst []) hD
    have n0 : ¬ Ow (wipe σ vs) (wipeL x.2 vs) D := fun w => R1.owH (ow_wipe w) hD
    refine ⟨fun i m H' => ∃ G' ρ'' oV oD, Rel K G' H' (wipe σ vs) ρ'' ∧ Stp (wipe σ vs) (wipeL x.2 vs) G1 H1 (wipe σ vs) ρ'' G' H' ∧ ¬ Ow (wipe σ vs) ρ'' D ∧ H' D = some (.lst oV) ∧ DpAll K G' oV oD ∧ G' D = none ∧
      lcF vs t test (fF elt) (x.1.drop i) oD ρ'' = some y ∧ m = x.1.length - i ∧ oD.length ≤ i, ⟨_, G1, wipeL x.2 vs, [], [], R0, S0, n0, upd_same, .nil, R1.gfree hD, e2, rfl, Nat.le_refl _⟩, ?_⟩
    rintro i m H2 ⟨G2, ρ2, oV, oD, R2, S2, n2, hD2, al2, gD2, q2, rfl, hlo⟩
    have g12 : Same G1 G2 := S2.gg
    have hlV : oV.length = oD.length := dpsLen al2
    cases hd : x.1[i]? with
    | none =>
      have hl : x.1.length ≤ i := List.getElem?_eq_none_iff.mp hd
      rw [List.drop_eq_nil_of_le hl] at q2
      cases q2
      refine .inl ⟨yl.st i H2 (g12.trans R2.sub) hl, ?_⟩
      obtain ⟨R3, S3⟩ := rest_ok R1 R2 S2
      refine k _ G2 H2 ⟨R3, S1.trans S3, ⟨D, oV, rfl, gD2, hD2, al2, fun w => ?_⟩, fun p hp => ?_⟩
      · rcases ow_rest (by rw [R2.len, wipe_length, R1.len]) w with w | w
        · exact R1.owH w hD
        · exact n2 w
      · cases hp
        cases z : H D with
        | none => rfl
        | some o => exact absurd hD (S1.dom D (by rw [z]; simp))
    | some d =>
      have hl : i < x.1.length := (List.getElem?_eq_some_iff.mp hd).1
      have ed : x.1.drop i = d :: x.1.drop (i + 1) := by
        rw [List.drop_eq_getElem_cons hl]
        congr 1
        exact (List.getElem?_eq_some_iff.mp hd).2
      rw [ed] at q2
      obtain ⟨ρ3, e3, q2⟩ := bindS q2
      obtain ⟨b, e4, q2⟩ := bindS q2
      refine .inr ⟨yl.go i d H2 (g12.trans R2.sub) hd, fun H' => ∃ G' ρ'' oV oD, Rel K G' H' (wipe σ vs) ρ'' ∧ Stp (wipe σ vs) (wipeL x.2 vs) G1 H1 (wipe σ vs) ρ'' G' H' ∧ ¬ Ow (wipe σ vs) ρ'' D ∧ H' D = some (.lst oV) ∧ DpAll K G' oV oD ∧ G' D = none ∧
        lcF vs t test (fF elt) (x.1.drop (i + 1)) oD ρ'' = some y ∧ oD.length ≤ i + 1, fun H' ⟨G', ρ'', oV, oD, a1, a2, a0, a3, a4, a5, a6, a7⟩ => ⟨_, by omega, G', ρ'', oV, oD, a1, a2, a0, a3, a4, a5, a6, rfl, a7⟩, fun v H3 hy => ?_⟩
      obtain ⟨G3, md⟩ := yl.yl i d G2 H2 v H3 g12 R2.sub hd hy
      have P := md.pst R2
      have dn2 : H2 D ≠ none := by rw [hD2]; simp
      refine ⟨G3, ρ2, d, ρ3, P.rel, P.res, e3, fun σ4 R4 S4 n4 l4 => ⟨wipe_same hw n4 l4, ?_⟩⟩
      have ws4 : wipe σ4 vs = wipe σ vs := wipe_same hw n4 l4
      have T4 : Stp (wipe σ vs) ρ2 G2 H2 σ4 ρ3 G3 H3 := P.stp.trans S4
      refine ⟨G3, ρ3, b.1, b.2, R4, e4, fun G5 H5 R5 S5 => ?_⟩
      have T5 := T4.trans S5
      -- the new list is nobody's slot, and stays as it is
      have noD : ∀ {σx : St} {ρx : Lo} {Gx Hx : Hp}, Stp (wipe σ vs) ρ2 G2 H2 σx ρx Gx Hx → ¬ Ow σx ρx D := fun S w => (S.ow w).elim n2 dn2
      cases hb : b.1 with
      | true =>
        rw [hb, if_pos rfl] at q2
        show if true = true then _ else _
        rw [if_pos rfl]
        obtain ⟨z, e6, q2⟩ := bindS q2
        refine ⟨G5, b.2, z.1, z.2, R5, e6, fun u G6 H6 R6 S6 d6 => ?_⟩
        have T6 := T5.trans S6
        have hD6 : H6 D = some (.lst oV) := T6.keep D _ hD2 n2
        have gD6 : G6 D = none := (T6.gnew D dn2 n2).trans gD2
        have al6 : DpAll K G6 (oV ++ [u]) (oD ++ [z.1]) := dpsApp (dpsMono T6.gg al2) (.cons d6 .nil)
        refine ⟨oV, hD6, lim_lt (by omega), ?_⟩
        have R7 := rel_wipe R6 vs
        have S7 := stp_wipe (S2.trans T6) vs
        have nD7 := noD (stp_wipe T6 vs)
        rw [ws4] at R7 S7 nD7
        refine ⟨G6, wipeL z.2 vs, oV ++ [u], oD ++ [z.1], ⟨fun a o e => ?_, fun j s e => ?_, R7.apart, R7.len⟩, ⟨S7.gg, fun a o e n => ?_, S7.gnew, S7.ols, S7.obg, fun a e => ?_⟩, nD7, upd_same, al6, gD6, q2, by rw [List.length_append, List.length_singleton]; omega⟩
        · rw [upd_ne (ne_of_none e gD6)]
          exact R7.sub a o e
        · have qs := R7.sl j s e
          have own : ∀ es, isOwn s = true → Mine K G6 H6 (wipe σ vs)[j]? es → Mine K G6 (upd H6 D (.lst (oV ++ [u]))) (wipe σ vs)[j]? es := fun es o ⟨a, xs, e7, g7, e8, al8⟩ =>
            ⟨a, xs, e7, g7, by rw [upd_ne (fun w => nD7 (Ow.of ⟨s, e, o⟩ (by rw [w] at e7; exact e7)))]; exact e8, al8⟩
          cases s with
          | no => trivial
          | va d => exact qs
          | ls es => exact own es rfl qs
          | hd _ => exact qs
          | bg es => exact own es rfl qs
        · rw [upd_ne (ne_of_none e hD)]
          exact S7.keep a o e n
        · by_cases ha : a = D
          · rw [ha, upd_same]
            simp
          · rw [upd_ne ha]
            exact S7.dom a e
      | false =>
        rw [hb, if_neg (by simp)] at q2
        show if false = true then _ else _
        rw [if_neg (by simp)]
        have R7 := rel_wipe R5 vs
        have S7 := stp_wipe (S2.trans T5) vs
        have nD7 := noD (stp_wipe T5 vs)
        rw [ws4] at R7 S7 nD7
        exact ⟨G5, wipeL b.2 vs, oV, oD, R7, S7, nD7, T5.keep D _ hD2 n2, dpsMono T5.gg al2, (T5.gnew D dn2 n2).trans gD2, q2, by omega⟩
  · rw [if_neg hlen] at q
    cases q
end
end Den

set_option autoImplicit false
/-! Data-level denotations: comprehensions as expressions, calls of defs, a def's promise. -/
namespace Den
open PySem PySem.Spec L2

section
variable {X : Cx} {elt tg iter : Expr} {pos : Pos}
theorem e_lc {ifs : List Expr} {scope : Scope} {own : List (Str × Nat)} {it : Fn (List D)} {t : D → Lo → Option Lo} {test : FT} {f : Fn RR} {ws : List Nat} (hc : X.calm = true) (hN : X.N.Nodup) (hi : PI X tg iter (tItr X.K it)) (ok : BlkOk X.N X.env.scope scope own)
    (hw : ∀ j ∈ ws, j ∈ own.map (·.2))
    (hg : ∀ (s : Shared) (H : Hp) (C : Addr) (cl : List (Str × Addr)) (fp : List Addr), PG (X.blk s H scope (compEnvC scope cl C X.env) fp) tg (tTg X.K t ws))
    (ht : ∀ (s : Shared) (H : Hp) (C : Addr) (cl : List (Str × Addr)) (fp : List Addr), PTs (X.blk s H scope (compEnvC scope cl C X.env) fp) ifs (tT X.K test))
    (he : ∀ (s : Shared) (H : Hp) (C : Addr) (cl : List (Str × Addr)) (fp : List Addr), PE (X.blk s H scope (compEnvC scope cl C X.env) fp) elt (tD X.K f)) (hs : ∀ x, foldedSetIterable iter X.env x = pure x) :
    PE X (.ListComp elt [⟨tg, iter, ifs, 0⟩] scope pos) (tD X.K (fLc (own.map (·.2)) it t test f)) :=
  weakE (pe_lc hc hN hi ok hg ht (fun s H C cl fp => to_F (he s H C cl fp)) hs) fun σ H Q h => lc_ok hw h
theorem fO_lc {vs : List Nat} {it : Fn (List D)} {t : D → Lo → Option Lo} {test : FT} {f : Fn RR} {ρ : Lo} {x : RR × Lo} (h : fO (fLc vs it t test f) ρ = some x) : fLc vs it t test f ρ = some x := by
  obtain ⟨y, e1, q⟩ := bindS h
  obtain ⟨z, e2, q2⟩ := bindS e1
  by_cases hl : z.1.length ≤ lim
  · rw [if_pos hl] at q2
    obtain ⟨u, e3, rfl⟩ := mapS q2
    cases q
    exact e1
  · rw [if_neg hl] at q2
    cases q2
theorem s_setLc {i : Nat} {y : Str} {py : Pos} {ifs : List Expr} {scope : Scope} {own : List (Str × Nat)} {spos : Pos} {it : Fn (List D)} {t : D → Lo → Option Lo} {test : FT} {f : Fn RR} {ws : List Nat} (hc : X.calm = true) (hN : X.N.Nodup) (hy : X.N[i]? = some y) (hyl : X.env.scope.names.lookup y = some .local)
    (hsw : swapsWith (.ListComp elt [⟨tg, iter, ifs, 0⟩] scope pos) (some (.Name y py)) spos.line X.env = pure true) (hi : PI X tg iter (tItr X.K it)) (ok : BlkOk X.N X.env.scope scope own)
    (hw : ∀ j ∈ ws, j ∈ own.map (·.2))
    (hg : ∀ (s : Shared) (H : Hp) (C : Addr) (cl : List (Str × Addr)) (fp : List Addr), PG (X.blk s H scope (compEnvC scope cl C X.env) fp) tg (tTg X.K t ws))
    (ht : ∀ (s : Shared) (H : Hp) (C : Addr) (cl : List (Str × Addr)) (fp : List Addr), PTs (X.blk s H scope (compEnvC scope cl C X.env) fp) ifs (tT X.K test))
    (he : ∀ (s : Shared) (H : Hp) (C : Addr) (cl : List (Str × Addr)) (fp : List Addr), PE (X.blk s H scope (compEnvC scope cl C X.env) fp) elt (tD X.K f)) (hs : ∀ x, foldedSetIterable iter X.env x = pure x) :
    PS X (.Assign [.Name y py] (.ListComp elt [⟨tg, iter, ifs, 0⟩] scope pos) spos) (tS X.K (fSet i (fLc (own.map (·.2)) it t test f))) :=
  weakS (ps_setLc hc hN hy hyl hsw hi ok hg ht (fun s H C cl fp => to_F (he s H C cl fp)) hs) fun D σ H h => by
    have q := set_ok h
    obtain ⟨G, ρ, r, ρ', R, e, k⟩ := q
    exact lc_ok hw ⟨G, ρ, r, ρ', R, fO_lc e, k⟩
end

/-! ### what a def promises -/
structure FD where
  mt : Bool
  np : Nat
  run : List D → List D → Option (RR × List D)
def parL (mt : Bool) (β ds : List D) : Lo := if mt then .bg β :: ds.map .va else ds.map .va
def spD (K : PySem.W.Frag) (fd : FD) : Sp := fun vs H Q _ => vs.length = fd.np ∧ ∃ G β ds r β', Rel K G H (vs.map some) (parL fd.mt β ds) ∧ fd.run β ds = some (r, β') ∧
  ∀ v G' H', Rel K G' H' (vs.map some) (parL fd.mt β' ds) → Stp (vs.map some) (parL fd.mt β ds) G H (vs.map some) (parL fd.mt β' ds) G' H' → RetR K (vs.map some) (parL fd.mt β ds) H G' H' v r → Q v H'
structure FnG (P : Program) (w : World) (K : PySem.W.Frag) (mg : Str → Option Value) (base : Heap) (k : Nat) (f : Addr) (fd : FuncData) (ps : List Str) (sp : Sp) : Prop where
  len : ∀ vs H Q E, sp vs H Q E → vs.length = ps.length
  run : ∀ (A : Around) (outer : List Env) (s : Shared) (H : Hp) (args : Args) (us : List Value) (vs : List V) (Q : VK), Room k A → A.guards = some [] → Env0 P w K mg base A outer s H → BindsTo s fd args (ps.zip us) → Vals vs us → sp vs H Q E0 →
    codeAny (model P w) A (.call (.ref f) args) (CR CX0 outer P w H s Q E0) s
theorem FnG.mono {P : Program} {w : World} {K : PySem.W.Frag} {mg : Str → Option Value} {base : Heap} {j k : Nat} {f : Addr} {fd : FuncData} {ps : List Str} {sp : Sp} (F : FnG P w K mg base j f fd ps sp) (h : j ≤ k) : FnG P w K mg base k f fd ps sp :=
  ⟨F.len, fun A outer s H args us vs Q hr => F.run A outer s H args us vs Q (hr.mono h)⟩
theorem ls_parL {σ : St} {mt : Bool} {β ds : List D} {a : Addr} : ¬ Ls σ (parL mt β ds) a := fun ⟨i, es, e, _⟩ => by
  unfold parL at e
  cases mt with
  | false =>
    rw [if_neg (by simp), List.getElem?_map] at e
    obtain ⟨d, _, q⟩ := mapS e
    cases q
  | true =>
    rw [if_pos rfl] at e
    cases i with
    | zero => cases e
    | succ j =>
      rw [List.getElem?_cons_succ, List.getElem?_map] at e
      obtain ⟨d, _, q⟩ := mapS e
      cases q
theorem bg_parL {σ : St} {mt : Bool} {β ds : List D} {a : Addr} (h : Bg σ (parL mt β ds) a) : mt = true ∧ σ[0]? = some (some (.ref a)) := by
  obtain ⟨i, es, e, e2⟩ := h
  unfold parL at e
  cases mt with
  | false =>
    rw [if_neg (by simp), List.getElem?_map] at e
    obtain ⟨d, _, q⟩ := mapS e
    cases q
  | true =>
    rw [if_pos rfl] at e
    cases i with
    | zero => exact ⟨rfl, e2⟩
    | succ j =>
      rw [List.getElem?_cons_succ, List.getElem?_map] at e
      obtain ⟨d, _, q⟩ := mapS e
      cases q
theorem ow_parL {σ : St} {mt : Bool} {β ds : List D} {a : Addr} (h : Ow σ (parL mt β ds) a) : mt = true ∧ σ[0]? = some (some (.ref a)) := by
  rcases h with h | h
  · exact (ls_parL h).elim
  · exact bg_parL h

section
variable {X : Cx} {k : Nat} {f : Addr} {fd : FuncData} {ps : List Str} {d : FD} {e : Expr} {es : List Expr} {x : Str} {p pos : Pos}
theorem run_fnG {sp : Sp} {pins : List (Addr × Obj)} {σ : St} {H : Hp} {s : Shared} {Q : VK} {us : List Value} {vs : List V} (F : FnG X.prog X.w X.K X.mg X.base k f fd ps sp) (hr : Room k X.A) (hgd : X.A.guards = some []) (hb : Binds X.K fd ps [])
    (I : Inv X pins σ H s) (r : Vals vs us) (h : sp vs H Q E0) : wpAny (model X.prog X.w) X.A (call (.ref f) us) (EP X pins σ Q) X.xe s := by
  have hl : us.length = ps.length := by rw [← r.length]; exact F.len _ _ _ _ h
  have hb2 := hb s us I.kIn (by rw [List.append_nil]; exact hl)
  rw [List.append_nil] at hb2
  refine wpAny_call (codeAny_mono (F.run X.A X.stack s H ⟨us, []⟩ us vs Q hr hgd I.env0 hb2 r h) fun res s2 hq => ?_)
  cases res with
  | error er => exact False.elim hq
  | ok fl =>
    cases fl with
    | ret u => exact I.after hq
    | next => exact False.elim hq
    | brk => exact False.elim hq
    | cont => exact False.elim hq
/-- a call's reading by values -/
def tCl (sp : Sp) (t : TA) : TE := fun σ H Q => t σ H fun vs H1 => sp vs H1 Q E0
theorem e_call0 {sp : Sp} {t : TA} (F : FnG X.prog X.w X.K X.mg X.base k f fd ps sp) (hr : Room k X.A) (hgd : X.A.guards = some []) (hg : Gl X x) (hm : X.mg x = some (.ref f)) (hk : PySem.W.keepIn X.K (.ref f) = true) (hb : Binds X.K fd ps [])
    (ha : PA X (e :: es) t) (hdb : (x == ("__debug__" : Str)) = false) (he : starEach (e :: es) X.env = (false, eval e X.env) :: starEach es X.env) (hpl : (backTo pos (starEach es X.env)).any (·.1) = false) :
    PE X (.Call (.Name x p) (e :: es) [] pos) (tCl sp t) := by
  refine ⟨fun pins s σ H Q I h => wpAny_Call_Name_kw (ld_glob I hg hm ?_ hdb)⟩
  refine PySem.W.callWith_K (h₀ := X.base) I.ok.mod.kin hk (thn (ha.run pos pins s σ H _ I h) fun us s1 hq => ?_) he hpl
  obtain ⟨vs, H1, I1, r, q⟩ := hq
  exact ⟨I1.kIn, run_fnG F hr hgd hb I1 r q⟩
/-- f(e, ..), all arguments data -/
def fCall (d : FD) (fs : Fn (List D)) : Fn RR := fun ρ => (fs ρ).bind fun y => if d.mt = false ∧ y.1.length = d.np then (d.run [] y.1).bind fun z => some (z.1, y.2) else none
/-- f(list, e, ..): the own list in slot i is lent -/
def fCallM (d : FD) (i : Nat) (fs : Fn (List D)) : Fn RR := fun ρ => if (items ρ i).isSome = true then (fs ρ).bind fun y => if d.mt = true ∧ y.1.length + 1 = d.np then (items y.2 i).bind fun β => (d.run β y.1).map fun z => (z.1, putItems y.2 i z.2) else none else none
theorem rel_par {K : PySem.W.Frag} {G H : Hp} {vs : List V} {ds : List D} (s : Same G H) (al : DpAll K G vs ds) : Rel K G H (vs.map some) (parL false [] ds) := by
  refine ⟨s, fun i t e => ?_, fun i j a ⟨t, e, o⟩ => ?_, ?_⟩
  · unfold parL at e
    rw [if_neg (by simp), List.getElem?_map] at e
    obtain ⟨d, e1, rfl⟩ := mapS e
    obtain ⟨v, h1, h2⟩ := dpsGet al e1
    exact ⟨v, by rw [List.getElem?_map, h1]; rfl, h2⟩
  · unfold parL at e
    rw [if_neg (by simp), List.getElem?_map] at e
    obtain ⟨d, e1, rfl⟩ := mapS e
    cases o
  · unfold parL
    rw [if_neg (by simp), List.length_map, List.length_map, dpsLen al]
theorem rel_parM {K : PySem.W.Frag} {G H : Hp} {q : Addr} {xs vs : List V} {β ds : List D} (s : Same G H) (g : G q = none) (hq : H q = some (.lst xs)) (bl : DpAll K G xs β) (al : DpAll K G vs ds) : Rel K G H ((.ref q :: vs).map some) (parL true β ds) := by
  have own : ∀ {i : Nat}, Own (parL true β ds) i → i = 0 := fun {i} ⟨t, e, o⟩ => by
    unfold parL at e
    rw [if_pos rfl] at e
    cases i with
    | zero => rfl
    | succ j =>
      rw [List.getElem?_cons_succ, List.getElem?_map] at e
      obtain ⟨d, e1, rfl⟩ := mapS e
      cases o
  refine ⟨s, fun i t e => ?_, fun i j a hi hj _ _ => (own hi).trans (own hj).symm, ?_⟩
  · unfold parL at e
    rw [if_pos rfl] at e
    cases i with
    | zero =>
      cases e
      exact ⟨q, xs, rfl, g, hq, bl⟩
    | succ j =>
      rw [List.getElem?_cons_succ, List.getElem?_map] at e
      obtain ⟨d, e1, rfl⟩ := mapS e
      obtain ⟨v, h1, h2⟩ := dpsGet al e1
      exact ⟨v, by rw [List.map_cons, List.getElem?_cons_succ, List.getElem?_map, h1]; rfl, h2⟩
  · unfold parL
    rw [if_pos rfl, List.length_map, List.length_cons, List.length_cons, List.length_map, dpsLen al]
theorem parL_mt {mt : Bool} {β ds : List D} (h : mt = false) : parL mt β ds = parL false [] ds := by
  subst h
  rfl
theorem call_ok {fs : Fn (List D)} {σ : St} {H : Hp} {Q : VK} (h : tD X.K (fCall d fs) σ H Q) : tCl (spD X.K d) (tFs X.K fs) σ H Q := by
  obtain ⟨G, ρ, r, ρ', R, q, kk⟩ := h
  obtain ⟨y, e1, q⟩ := bindS q
  by_cases hc : d.mt = false ∧ y.1.length = d.np
  · rw [if_pos hc] at q
    obtain ⟨z, e2, q⟩ := bindS q
    cases q
    refine ⟨G, ρ, y.1, y.2, R, e1, fun vs G1 H1 R1 S1 al => ⟨by rw [dpsLen al]; exact hc.2, G1, [], y.1, z.1, z.2, ?_, e2, fun v G' H' R2 S2 hv => ?_⟩⟩
    · rw [parL_mt hc.1]
      exact rel_par R1.sub al
    · rw [parL_mt hc.1] at S2 hv
      have no : ∀ a, ¬ Ow (vs.map some) (parL false [] y.1) a := fun a w => by
        have := (ow_parL w).1
        cases this
      have hh : Same H1 H' := fun a o e => S2.keep a o e (no a)
      have m : Made X.K G1 H1 v z.1 G' H' := by
        refine ⟨S2.gg, hh, R2.sub, fun a e => S2.gnew a e (no a), ?_⟩
        cases hz : z.1 with
        | va d' =>
          rw [hz] at hv
          exact hv
        | br j =>
          rw [hz] at hv
          exact hv.elim
        | ls ds' =>
          rw [hz] at hv
          obtain ⟨q', xs, rfl, g, e3, al3, n⟩ := hv
          refine ⟨q', xs, rfl, g, e3, al3, ?_⟩
          rcases n with n | n
          · exact n
          · exact (ls_parL n).elim
      exact kk v G' H' (pst_trans S1 (m.pst R1))
  · rw [if_neg hc] at q
    cases q
theorem callM_ok {i : Nat} {fs : Fn (List D)} {σ : St} {H : Hp} {Q : VK} (h : tD X.K (fCallM d i fs) σ H Q) : tCl (spD X.K d) (tCons (tVar i) (tFs X.K fs)) σ H Q := by
  obtain ⟨G, ρ, r, ρ', R, q, kk⟩ := h
  unfold fCallM at q
  by_cases hi : (items ρ i).isSome = true
  · rw [if_pos hi] at q
    obtain ⟨y, e1, q⟩ := bindS q
    by_cases hc : d.mt = true ∧ y.1.length + 1 = d.np
    · rw [if_pos hc] at q
      obtain ⟨β, e2, q⟩ := bindS q
      obtain ⟨z, e3, q⟩ := mapS q
      cases q
      obtain ⟨β0, e0⟩ := Option.isSome_iff_exists.mp hi
      obtain ⟨a, xs, e4, g4, e5, al, ow, o⟩ := items_ok R e0
      refine ⟨.ref a, e4, G, ρ, y.1, y.2, R, e1, fun vs G1 H1 R1 S1 al1 => ⟨by rw [List.length_cons, dpsLen al1]; exact hc.2, G1, β, y.1, z.1, z.2, ?_, e3, fun v G' H' R2 S2 hv => ?_⟩⟩
      · obtain ⟨a', xs1, e6, g6, e7, al7, ow7, o7⟩ := items_ok R1 e2
        rw [e4] at e6
        cases e6
        rw [hc.1]
        exact rel_parM R1.sub g6 e7 al7 al1
      · obtain ⟨a', xs1, e6, g6, e7, al7, ow7, o7⟩ := items_ok R1 e2
        rw [e4] at e6
        cases e6
        rw [hc.1] at R2 S2 hv
        have no : ∀ b, b ≠ a → ¬ Ow ((V.ref a :: vs).map some) (parL true β y.1) b := fun b hb w => by
          have := (ow_parL w).2
          cases this
          exact hb rfl
        obtain ⟨a2, xs2, e8, g8, e9, al9⟩ := R2.sl 0 (.bg z.2) rfl
        cases e8
        obtain ⟨s, hs, ho⟩ := id o7
        have hlt : i < y.2.length := (List.getElem?_eq_some_iff.mp hs).1
        have ep : putItems y.2 i z.2 = y.2.set i (sameKind s z.2) := by unfold putItems; rw [hs]
        have back : ∀ {j : Nat} {t : Sl}, (y.2.set i (sameKind s z.2))[j]? = some t → isOwn t = true → Own y.2 j := fun {j t} h h2 => by
          by_cases hj : i = j
          · subst hj
            exact o7
          · rw [List.getElem?_set_ne hj] at h
            exact ⟨t, h, h2⟩
        have R3 : Rel X.K G' H' σ (putItems y.2 i z.2) := by
          rw [ep]
          refine ⟨R2.sub, fun j t h => ?_, fun j l b ⟨t1, h1, o1⟩ ⟨t2, h2, o2⟩ => R1.apart j l b (back h1 o1) (back h2 o2), by rw [List.length_set]; exact R1.len⟩
          by_cases hj : i = j
          · subst hj
            rw [List.getElem?_set_self hlt] at h
            cases h
            cases s with
            | no => cases ho
            | va d => cases ho
            | ls es => exact ⟨a, xs2, e4, g8, e9, al9⟩
            | hd _ => cases ho
            | bg es => exact ⟨a, xs2, e4, g8, e9, al9⟩
          · rw [List.getElem?_set_ne hj] at h
            have qs := R1.sl j t h
            have own : ∀ es, isOwn t = true → Mine X.K G1 H1 σ[j]? es → Mine X.K G' H' σ[j]? es := fun es o2 ⟨b, ys, e10, g10, e11, al11⟩ => by
              have hb : b ≠ a := fun w => hj (R1.apart i j a o7 ⟨t, h, o2⟩ e4 (by rw [w] at e10; exact e10))
              exact ⟨b, ys, e10, (S2.gnew b (by rw [e11]; simp) (no b hb)).trans g10, S2.keep b _ e11 (no b hb), dpsMono S2.gg al11⟩
            cases t with
            | no => trivial
            | va d => obtain ⟨u, e10, dp⟩ := qs; exact ⟨u, e10, dpMono S2.gg dp⟩
            | ls es => exact own es rfl qs
            | hd _ => exact qs
            | bg es => exact own es rfl qs
        have S3 : Stp σ y.2 G1 H1 σ (putItems y.2 i z.2) G' H' := by
          rw [ep]
          refine ⟨S2.gg, fun b o2 e n => S2.keep b o2 e (no b fun w => n (by rw [w]; exact ow7)), fun b e n => S2.gnew b e (no b fun w => n (by rw [w]; exact ow7)), fun b ⟨j, es, h1, h2⟩ => ?_, fun j es h => ?_, S2.dom⟩
          · by_cases hj : i = j
            · subst hj
              rw [List.getElem?_set_self hlt] at h1
              cases s with
              | no => cases ho
              | va d => cases ho
              | hd _ => cases ho
              | bg es => cases h1
              | ls es2 => exact .inl ⟨i, es2, hs, h2⟩
            · rw [List.getElem?_set_ne hj] at h1
              exact .inl ⟨j, es, h1, h2⟩
          · by_cases hj : i = j
            · subst hj
              rw [List.getElem?_set_self hlt] at h
              cases s with
              | no => cases ho
              | va d => cases ho
              | ls es => cases h
              | hd _ => cases ho
              | bg es2 => exact ⟨es2, hs, rfl⟩
            · rw [List.getElem?_set_ne hj] at h
              exact ⟨es, h, rfl⟩
        have owD : ∀ {b : Addr}, Ow σ (putItems y.2 i z.2) b → H1 b ≠ none := fun {b} w => by
          rw [ep] at w
          obtain ⟨j, ⟨t, h1, h2⟩, h3⟩ := w.own
          exact R1.owH (Ow.of (back h1 h2) h3)
        refine kk v G' H' ⟨R3, S1.trans S3, ?_, ?_⟩
        · cases hz : z.1 with
          | va d' => rw [hz] at hv; exact hv
          | br j => rw [hz] at hv; exact hv.elim
          | ls ds' =>
            rw [hz] at hv
            obtain ⟨b, ys, rfl, g, e10, al10, n⟩ := hv
            rcases n with n | n
            · exact ⟨b, ys, rfl, g, e10, al10, fun w => owD w n⟩
            · exact (ls_parL n).elim
        · cases hz : z.1 with
          | va d' => trivial
          | br j => trivial
          | ls ds' =>
            rw [hz] at hv
            obtain ⟨b, ys, rfl, g, e10, al10, n⟩ := hv
            rcases n with n | n
            · intro c hcq
              cases hcq
              cases w : H b with
              | none => rfl
              | some o2 => exact absurd n (S1.dom b (by rw [w]; simp))
            · exact (ls_parL n).elim
    · rw [if_neg hc] at q
      cases q
  · rw [if_neg hi] at q
    cases q
theorem e_call {fs : Fn (List D)} (F : FnG X.prog X.w X.K X.mg X.base k f fd ps (spD X.K d)) (hr : Room k X.A) (hgd : X.A.guards = some []) (hg : Gl X x) (hm : X.mg x = some (.ref f)) (hk : PySem.W.keepIn X.K (.ref f) = true) (hb : Binds X.K fd ps [])
    (ha : PA X (e :: es) (tFs X.K fs)) (hdb : (x == ("__debug__" : Str)) = false) (he : starEach (e :: es) X.env = (false, eval e X.env) :: starEach es X.env) (hpl : (backTo pos (starEach es X.env)).any (·.1) = false) :
    PE X (.Call (.Name x p) (e :: es) [] pos) (tD X.K (fCall d fs)) :=
  weakE (e_call0 F hr hgd hg hm hk hb ha hdb he hpl) fun σ H Q h => call_ok h
theorem e_callM {i : Nat} {y : Str} {yp : Pos} {fs : Fn (List D)} (F : FnG X.prog X.w X.K X.mg X.base k f fd ps (spD X.K d)) (hr : Room k X.A) (hgd : X.A.guards = some []) (hg : Gl X x) (hm : X.mg x = some (.ref f)) (hk : PySem.W.keepIn X.K (.ref f) = true) (hb : Binds X.K fd ps [])
    (hN : X.N[i]? = some y) (hv : Vis X.env.scope y) (hd : (y == ("__debug__" : Str)) = false) (hcd : (y == ("__classdict__" : Str)) = false)
    (ha : PA X es (tFs X.K fs)) (hdb : (x == ("__debug__" : Str)) = false) (hpl : (backTo pos (starEach es X.env)).any (·.1) = false) :
    PE X (.Call (.Name x p) (.Name y yp :: es) [] pos) (tD X.K (fCallM d i fs)) :=
  weakE (e_call0 F hr hgd hg hm hk hb (pa_cons (pe_var hN hv hd hcd) ha rfl) hdb rfl hpl) fun σ H Q h => callM_ok h
end
end Den

set_option autoImplicit false
/-! Data-level denotations: comprehensions with two fors. -/
namespace Den
open PySem PySem.Spec L2
/-- the inner turns -/
def lcG (vs : List Nat) (t : D → Lo → Option Lo) (test : FT) (elt : Fn D) : List D → List D → Lo → Option (List D × Lo)
  | [], acc, ρ => some (acc, ρ)
  | d :: ds, acc, ρ => (t d ρ).bind fun ρ1 => (test ρ1).bind fun b => if b.1 then (elt b.2).bind fun y => if acc.length < lim then lcG vs t test elt ds (acc ++ [y.1]) (wipeL y.2 vs) else none else lcG vs t test elt ds acc (wipeL b.2 vs)
/-- the outer turns -/
def lcH (vs vs1 : List Nat) (t : D → Lo → Option Lo) (test : FT) (it1 : Fn (List D)) (t1 : D → Lo → Option Lo) (test1 : FT) (elt : Fn D) : List D → List D → Lo → Option (List D × Lo)
  | [], acc, ρ => some (acc, ρ)
  | d :: ds, acc, ρ => (t d ρ).bind fun ρ1 => (test ρ1).bind fun b => if b.1 then (it1 b.2).bind fun x => (lcG vs1 t1 test1 elt x.1 acc (wipeL x.2 vs1)).bind fun y => lcH vs vs1 t test it1 t1 test1 elt ds y.1 (wipeL y.2 vs) else lcH vs vs1 t test it1 t1 test1 elt ds acc (wipeL b.2 vs)
def fLc2 (vs vs1 : List Nat) (it : Fn (List D)) (t : D → Lo → Option Lo) (test : FT) (it1 : Fn (List D)) (t1 : D → Lo → Option Lo) (test1 : FT) (elt : Fn RR) : Fn RR := fun ρ => (it ρ).bind fun x =>
  (lcH vs vs1 t test it1 t1 test1 (fF elt) x.1 [] (wipeL x.2 vs)).map fun y => (.ls y.1, restL x.2 y.2 vs)
section
variable {X : Cx}
theorem wipe_sub {vs ws : List Nat} {σ : St} (h : ∀ j ∈ ws, j ∈ vs) : wipe (wipe σ ws) vs = wipe σ vs := by
  refine wipe_same (ws := vs) (fun _ z => z) (fun j hj => ?_) (by rw [wipe_length, wipe_length])
  rw [wipe_out hj, wipe_out fun z => hj (h j z)]
theorem lc2_ok {K : PySem.W.Frag} {vs vs1 ws : List Nat} {it it1 : Fn (List D)} {t t1 : D → Lo → Option Lo} {test test1 : FT} {elt : Fn RR} (hw : ∀ j ∈ ws, j ∈ vs) (hv1 : ∀ j ∈ vs1, j ∈ vs) {σ : St} {H : Hp} {Q : VK} (h : tD K (fLc2 vs vs1 it t test it1 t1 test1 elt) σ H Q) :
    tLc2 (tItr K it) (tTg K t ws) (tT K test) (tItr K it1) (tTg K t1 vs1) (tT K test1) (tF K (fF elt)) vs vs1 σ H Q := by
  obtain ⟨G, ρ, r, ρ', R, q, k⟩ := h
  obtain ⟨x, e1, q⟩ := bindS q
  obtain ⟨y, e2, q⟩ := mapS q
  cases q
  refine ⟨G, ρ, x.1, x.2, R, e1, fun G1 H1 J R1 S1 yl D hD => ?_⟩
  obtain ⟨R0, S0⟩ := (rel_wipe R1 vs).newH (o := .lst []) hD
  have n0 : ¬ Ow (wipe σ vs) (wipeL x.2 vs) D := fun w => R1.owH (ow_wipe w) hD
  refine ⟨fun i m H' => ∃ G' ρ'' oV oD, Rel K G' H' (wipe σ vs) ρ'' ∧ Stp (wipe σ vs) (wipeL x.2 vs) G1 H1 (wipe σ vs) ρ'' G' H' ∧ ¬ Ow (wipe σ vs) ρ'' D ∧ H' D = some (.lst oV) ∧ DpAll K G' oV oD ∧ G' D = none ∧
    lcH vs vs1 t test it1 t1 test1 (fF elt) (x.1.drop i) oD ρ'' = some y ∧ m = x.1.length - i, ⟨_, G1, wipeL x.2 vs, [], [], R0, S0, n0, upd_same, .nil, R1.gfree hD, e2, rfl⟩, ?_⟩
  rintro i m H2 ⟨G2, ρ2, oV, oD, R2, S2, n2, hD2, al2, gD2, q2, rfl⟩
  have g12 : Same G1 G2 := S2.gg
  cases hd : x.1[i]? with
  | none =>
    have hl : x.1.length ≤ i := List.getElem?_eq_none_iff.mp hd
    rw [List.drop_eq_nil_of_le hl] at q2
    cases q2
    refine .inl ⟨yl.st i H2 (g12.trans R2.sub) hl, ?_⟩
    obtain ⟨R3, S3⟩ := rest_ok R1 R2 S2
    refine k _ G2 H2 ⟨R3, S1.trans S3, ⟨D, oV, rfl, gD2, hD2, al2, fun w => ?_⟩, fun p hp => ?_⟩
    · rcases ow_rest (by rw [R2.len, wipe_length, R1.len]) w with w | w
      · exact R1.owH w hD
      · exact n2 w
    · cases hp
      cases z : H D with
      | none => rfl
      | some o => exact absurd hD (S1.dom D (by rw [z]; simp))
  | some d =>
    have hl : i < x.1.length := (List.getElem?_eq_some_iff.mp hd).1
    have ed : x.1.drop i = d :: x.1.drop (i + 1) := by
      rw [List.drop_eq_getElem_cons hl]
      congr 1
      exact (List.getElem?_eq_some_iff.mp hd).2
    rw [ed] at q2
    obtain ⟨ρ3, e3, q2⟩ := bindS q2
    obtain ⟨b, e4, q2⟩ := bindS q2
    refine .inr ⟨yl.go i d H2 (g12.trans R2.sub) hd, fun H' => ∃ G' ρ'' oV oD, Rel K G' H' (wipe σ vs) ρ'' ∧ Stp (wipe σ vs) (wipeL x.2 vs) G1 H1 (wipe σ vs) ρ'' G' H' ∧ ¬ Ow (wipe σ vs) ρ'' D ∧ H' D = some (.lst oV) ∧ DpAll K G' oV oD ∧ G' D = none ∧
      lcH vs vs1 t test it1 t1 test1 (fF elt) (x.1.drop (i + 1)) oD ρ'' = some y, fun H' ⟨G', ρ'', oV, oD, a1, a2, a0, a3, a4, a5, a6⟩ => ⟨_, by omega, G', ρ'', oV, oD, a1, a2, a0, a3, a4, a5, a6, rfl⟩, fun v H3 hy => ?_⟩
    obtain ⟨G3, md⟩ := yl.yl i d G2 H2 v H3 g12 R2.sub hd hy
    have P := md.pst R2
    have dn2 : H2 D ≠ none := by rw [hD2]; simp
    refine ⟨G3, ρ2, d, ρ3, P.rel, P.res, e3, fun σ4 R4 S4 n4 l4 => ⟨wipe_same hw n4 l4, ?_⟩⟩
    have ws4 : wipe σ4 vs = wipe σ vs := wipe_same hw n4 l4
    have T4 : Stp (wipe σ vs) ρ2 G2 H2 σ4 ρ3 G3 H3 := P.stp.trans S4
    refine ⟨G3, ρ3, b.1, b.2, R4, e4, fun G5 H5 R5 S5 => ?_⟩
    have T5 := T4.trans S5
    -- the new list is nobody's slot, and stays as it is
    have noD : ∀ {σx : St} {ρx : Lo} {Gx Hx : Hp}, Stp (wipe σ vs) ρ2 G2 H2 σx ρx Gx Hx → ¬ Ow σx ρx D := fun S w => (S.ow w).elim n2 dn2
    cases hb : b.1 with
    | false =>
      rw [hb, if_neg (by simp)] at q2
      show if false = true then _ else _
      rw [if_neg (by simp)]
      have R7 := rel_wipe R5 vs
      have S7 := stp_wipe (S2.trans T5) vs
      have nD7 := noD (stp_wipe T5 vs)
      rw [ws4] at R7 S7 nD7
      exact ⟨G5, wipeL b.2 vs, oV, oD, R7, S7, nD7, T5.keep D _ hD2 n2, dpsMono T5.gg al2, (T5.gnew D dn2 n2).trans gD2, q2⟩
    | true =>
      rw [hb, if_pos rfl] at q2
      show if true = true then _ else _
      rw [if_pos rfl]
      obtain ⟨x1, e5, q2⟩ := bindS q2
      obtain ⟨y1, e6, q2⟩ := bindS q2
      refine ⟨G5, b.2, x1.1, x1.2, R5, e5, fun G6 H6 J1 R6 S6 yl1 => ?_⟩
      have T6 := T5.trans S6
      have hwv : wipe (wipe σ4 vs1) vs = wipe σ vs := (wipe_sub hv1).trans ws4
      refine ⟨fun j m H' => ∃ G' ρ'' oV oD, Rel K G' H' (wipe σ4 vs1) ρ'' ∧ Stp (wipe σ vs) (wipeL x.2 vs) G1 H1 (wipe σ4 vs1) ρ'' G' H' ∧ ¬ Ow (wipe σ4 vs1) ρ'' D ∧ H' D = some (.lst oV) ∧ DpAll K G' oV oD ∧ G' D = none ∧
        lcG vs1 t1 test1 (fF elt) (x1.1.drop j) oD ρ'' = some y1 ∧ Same G6 G' ∧ m = x1.1.length - j, ⟨_, G6, wipeL x1.2 vs1, oV, oD, rel_wipe R6 vs1, stp_wipe (S2.trans T6) vs1, noD (stp_wipe T6 vs1), T6.keep D _ hD2 n2, dpsMono T6.gg al2, (T6.gnew D dn2 n2).trans gD2, e6, Same.refl _, rfl⟩, ?_⟩
      rintro j m1 H7 ⟨G7, ρ7, pV, pD, R7, S7, n7, hD7, al7, gD7, q7, g67, rfl⟩
      have hlV : pV.length = pD.length := dpsLen al7
      cases hd1 : x1.1[j]? with
      | none =>
        have hl1 : x1.1.length ≤ j := List.getElem?_eq_none_iff.mp hd1
        rw [List.drop_eq_nil_of_le hl1] at q7
        cases q7
        refine .inl ⟨yl1.st j H7 (g67.trans R7.sub) hl1, ?_⟩
        have R8 := rel_wipe R7 vs
        have S8 := stp_wipe S7 vs
        have n8 : ¬ Ow (wipe (wipe σ4 vs1) vs) (wipeL ρ7 vs) D := fun w => n7 (ow_wipe w)
        rw [hwv] at R8 S8 n8
        exact ⟨G7, wipeL ρ7 vs, pV, pD, R8, S8, n8, hD7, al7, gD7, q2⟩
      | some d1 =>
        have hl1 : j < x1.1.length := (List.getElem?_eq_some_iff.mp hd1).1
        have ed1 : x1.1.drop j = d1 :: x1.1.drop (j + 1) := by
          rw [List.drop_eq_getElem_cons hl1]
          congr 1
          exact (List.getElem?_eq_some_iff.mp hd1).2
        rw [ed1] at q7
        obtain ⟨ρ8, e8, q7⟩ := bindS q7
        obtain ⟨b1, e9, q7⟩ := bindS q7
        refine .inr ⟨yl1.go j d1 H7 (g67.trans R7.sub) hd1, fun H' => ∃ G' ρ'' oV oD, Rel K G' H' (wipe σ4 vs1) ρ'' ∧ Stp (wipe σ vs) (wipeL x.2 vs) G1 H1 (wipe σ4 vs1) ρ'' G' H' ∧ ¬ Ow (wipe σ4 vs1) ρ'' D ∧ H' D = some (.lst oV) ∧ DpAll K G' oV oD ∧ G' D = none ∧
          lcG vs1 t1 test1 (fF elt) (x1.1.drop (j + 1)) oD ρ'' = some y1 ∧ Same G6 G', fun H' ⟨G', ρ'', oV, oD, a1, a2, a0, a3, a4, a5, a6, a7⟩ => ⟨_, by omega, G', ρ'', oV, oD, a1, a2, a0, a3, a4, a5, a6, a7, rfl⟩, fun v1 H8 hy1 => ?_⟩
        obtain ⟨G8, md1⟩ := yl1.yl j d1 G7 H7 v1 H8 g67 R7.sub hd1 hy1
        have P1 := md1.pst R7
        have dn7 : H7 D ≠ none := by rw [hD7]; simp
        refine ⟨G8, ρ7, d1, ρ8, P1.rel, P1.res, e8, fun σ9 R9 S9 n9 l9 => ?_⟩
        have ws9 : wipe σ9 vs1 = wipe σ4 vs1 := wipe_same (fun _ z => z) n9 l9
        refine ⟨ws9, ?_⟩
        have T9 : Stp (wipe σ4 vs1) ρ7 G7 H7 σ9 ρ8 G8 H8 := P1.stp.trans S9
        refine ⟨G8, ρ8, b1.1, b1.2, R9, e9, fun Ga Ha Ra Sa => ?_⟩
        have Ta := T9.trans Sa
        have noD1 : ∀ {σx : St} {ρx : Lo} {Gx Hx : Hp}, Stp (wipe σ4 vs1) ρ7 G7 H7 σx ρx Gx Hx → ¬ Ow σx ρx D := fun S w => (S.ow w).elim n7 dn7
        cases hb1 : b1.1 with
        | true =>
          rw [hb1, if_pos rfl] at q7
          show if true = true then _ else _
          rw [if_pos rfl]
          obtain ⟨z, ea, q7⟩ := bindS q7
          by_cases hlen : pD.length < lim
          · rw [if_pos hlen] at q7
            refine ⟨Ga, b1.2, z.1, z.2, Ra, ea, fun u Gb Hb Rb Sb db => ?_⟩
            have Tb := Ta.trans Sb
            have hDb : Hb D = some (.lst pV) := Tb.keep D _ hD7 n7
            have gDb : Gb D = none := (Tb.gnew D dn7 n7).trans gD7
            have alb : DpAll K Gb (pV ++ [u]) (pD ++ [z.1]) := dpsApp (dpsMono Tb.gg al7) (.cons db .nil)
            refine ⟨pV, hDb, lim_lt (by omega), ?_⟩
            have Rc := rel_wipe Rb vs1
            have Sc := stp_wipe (S7.trans Tb) vs1
            have nDc := noD1 (stp_wipe Tb vs1)
            rw [ws9] at Rc Sc nDc
            refine ⟨Gb, wipeL z.2 vs1, pV ++ [u], pD ++ [z.1], ⟨fun a o e => ?_, fun j s e => ?_, Rc.apart, Rc.len⟩, ⟨Sc.gg, fun a o e n => ?_, Sc.gnew, Sc.ols, Sc.obg, fun a e => ?_⟩, nDc, upd_same, alb, gDb, q7, g67.trans Tb.gg⟩
            · rw [upd_ne (ne_of_none e gDb)]
              exact Rc.sub a o e
            · have qs := Rc.sl j s e
              have own : ∀ es, isOwn s = true → Mine K Gb Hb (wipe σ4 vs1)[j]? es → Mine K Gb (upd Hb D (.lst (pV ++ [u]))) (wipe σ4 vs1)[j]? es := fun es o ⟨a, xs, e7, g7, e8, al8⟩ =>
                ⟨a, xs, e7, g7, by rw [upd_ne (fun w => nDc (Ow.of ⟨s, e, o⟩ (by rw [w] at e7; exact e7)))]; exact e8, al8⟩
              cases s with
              | no => trivial
              | va d => exact qs
              | ls es => exact own es rfl qs
              | hd _ => exact qs
              | bg es => exact own es rfl qs
            · rw [upd_ne (ne_of_none e hD)]
              exact Sc.keep a o e n
            · by_cases ha : a = D
              · rw [ha, upd_same]
                simp
              · rw [upd_ne ha]
                exact Sc.dom a e
          · rw [if_neg hlen] at q7
            cases q7
        | false =>
          rw [hb1, if_neg (by simp)] at q7
          show if false = true then _ else _
          rw [if_neg (by simp)]
          have Rc := rel_wipe Ra vs1
          have Sc := stp_wipe (S7.trans Ta) vs1
          have nDc := noD1 (stp_wipe Ta vs1)
          rw [ws9] at Rc Sc nDc
          exact ⟨Ga, wipeL b1.2 vs1, pV, pD, Rc, Sc, nDc, Ta.keep D _ hD7 n7, dpsMono Ta.gg al7, (Ta.gnew D dn7 n7).trans gD7, q7, g67.trans Ta.gg⟩
variable {tg iter tg1 iter1 el : Expr} {pos : Pos}
theorem e_lc2 {ifs ifs1 : List Expr} {scope : Scope} {own : List (Str × Nat)} {it it1 : Fn (List D)} {t t1 : D → Lo → Option Lo} {test test1 : FT} {f : Fn RR} {ws vs1 : List Nat} (hc : X.calm = true) (hN : X.N.Nodup) (hi : PI X tg iter (tItr X.K it)) (ok : BlkOk X.N X.env.scope scope own)
    (hw : ∀ j ∈ ws, j ∈ own.map (·.2)) (hv : ∀ j ∈ vs1, j ∈ own.map (·.2))
    (hg : ∀ (s : Shared) (H : Hp) (C : Addr) (cl : List (Str × Addr)) (fp : List Addr), PG (X.blk s H scope (compEnvC scope cl C X.env) fp) tg (tTg X.K t ws))
    (ht : ∀ (s : Shared) (H : Hp) (C : Addr) (cl : List (Str × Addr)) (fp : List Addr), PTs (X.blk s H scope (compEnvC scope cl C X.env) fp) ifs (tT X.K test))
    (hi1 : ∀ (s : Shared) (H : Hp) (C : Addr) (cl : List (Str × Addr)) (fp : List Addr), PI (X.blk s H scope (compEnvC scope cl C X.env) fp) tg1 iter1 (tItr X.K it1))
    (hg1 : ∀ (s : Shared) (H : Hp) (C : Addr) (cl : List (Str × Addr)) (fp : List Addr), PG (X.blk s H scope (compEnvC scope cl C X.env) fp) tg1 (tTg X.K t1 vs1))
    (ht1 : ∀ (s : Shared) (H : Hp) (C : Addr) (cl : List (Str × Addr)) (fp : List Addr), PTs (X.blk s H scope (compEnvC scope cl C X.env) fp) ifs1 (tT X.K test1))
    (he : ∀ (s : Shared) (H : Hp) (C : Addr) (cl : List (Str × Addr)) (fp : List Addr), PE (X.blk s H scope (compEnvC scope cl C X.env) fp) el (tD X.K f)) (hs : ∀ x, foldedSetIterable iter X.env x = pure x) (hs1 : ∀ env x, foldedSetIterable iter1 env x = pure x) :
    PE X (.ListComp el [⟨tg, iter, ifs, 0⟩, ⟨tg1, iter1, ifs1, 0⟩] scope pos) (tD X.K (fLc2 (own.map (·.2)) vs1 it t test it1 t1 test1 f)) :=
  weakE (pe_lc2 hc hN hi ok hv hg ht hi1 hg1 ht1 (fun s H C cl fp => to_F (he s H C cl fp)) hs hs1) fun σ H Q h => lc2_ok hw hv h
theorem fO_lc2 {vs vs1 : List Nat} {it it1 : Fn (List D)} {t t1 : D → Lo → Option Lo} {test test1 : FT} {f : Fn RR} {ρ : Lo} {x : RR × Lo} (h : fO (fLc2 vs vs1 it t test it1 t1 test1 f) ρ = some x) : fLc2 vs vs1 it t test it1 t1 test1 f ρ = some x := by
  obtain ⟨y, e1, q⟩ := bindS h
  obtain ⟨z, e2, q2⟩ := bindS e1
  obtain ⟨u, e3, rfl⟩ := mapS q2
  cases q
  exact e1
theorem s_setLc2 {i : Nat} {y : Str} {py spos : Pos} {ifs ifs1 : List Expr} {scope : Scope} {own : List (Str × Nat)} {it it1 : Fn (List D)} {t t1 : D → Lo → Option Lo} {test test1 : FT} {f : Fn RR} {ws vs1 : List Nat} (hc : X.calm = true) (hN : X.N.Nodup) (hy : X.N[i]? = some y) (hyl : X.env.scope.names.lookup y = some .local)
    (hsw : swapsWith (.ListComp el [⟨tg, iter, ifs, 0⟩, ⟨tg1, iter1, ifs1, 0⟩] scope pos) (some (.Name y py)) spos.line X.env = pure true) (hi : PI X tg iter (tItr X.K it)) (ok : BlkOk X.N X.env.scope scope own)
    (hw : ∀ j ∈ ws, j ∈ own.map (·.2)) (hv : ∀ j ∈ vs1, j ∈ own.map (·.2))
    (hg : ∀ (s : Shared) (H : Hp) (C : Addr) (cl : List (Str × Addr)) (fp : List Addr), PG (X.blk s H scope (compEnvC scope cl C X.env) fp) tg (tTg X.K t ws))
    (ht : ∀ (s : Shared) (H : Hp) (C : Addr) (cl : List (Str × Addr)) (fp : List Addr), PTs (X.blk s H scope (compEnvC scope cl C X.env) fp) ifs (tT X.K test))
    (hi1 : ∀ (s : Shared) (H : Hp) (C : Addr) (cl : List (Str × Addr)) (fp : List Addr), PI (X.blk s H scope (compEnvC scope cl C X.env) fp) tg1 iter1 (tItr X.K it1))
    (hg1 : ∀ (s : Shared) (H : Hp) (C : Addr) (cl : List (Str × Addr)) (fp : List Addr), PG (X.blk s H scope (compEnvC scope cl C X.env) fp) tg1 (tTg X.K t1 vs1))
    (ht1 : ∀ (s : Shared) (H : Hp) (C : Addr) (cl : List (Str × Addr)) (fp : List Addr), PTs (X.blk s H scope (compEnvC scope cl C X.env) fp) ifs1 (tT X.K test1))
    (he : ∀ (s : Shared) (H : Hp) (C : Addr) (cl : List (Str × Addr)) (fp : List Addr), PE (X.blk s H scope (compEnvC scope cl C X.env) fp) el (tD X.K f)) (hs : ∀ x, foldedSetIterable iter X.env x = pure x) (hs1 : ∀ env x, foldedSetIterable iter1 env x = pure x) :
    PS X (.Assign [.Name y py] (.ListComp el [⟨tg, iter, ifs, 0⟩, ⟨tg1, iter1, ifs1, 0⟩] scope pos) spos) (tS X.K (fSet i (fLc2 (own.map (·.2)) vs1 it t test it1 t1 test1 f))) :=
  weakS (ps_setLc2 hc hN hy hyl hsw hi ok hv hg ht hi1 hg1 ht1 (fun s H C cl fp => to_F (he s H C cl fp)) hs hs1) fun D σ H h => by
    have q := set_ok h
    obtain ⟨G, ρ, r, ρ', R, e, k⟩ := q
    exact lc2_ok hw hv ⟨G, ρ, r, ρ', R, fO_lc2 e, k⟩
/-! ### the last item taken from an own list -/
def fPop (i : Nat) : Fn RR := fun ρ => (items ρ i).bind fun ds => ds[ds.length - 1]?.map fun d => (.va d, putItems ρ i ds.dropLast)
theorem dpsDropLast {K : PySem.W.Frag} {G : Hp} {xs : List V} {ds : List D} (h : DpAll K G xs ds) : DpAll K G xs.dropLast ds.dropLast := by
  rw [List.dropLast_eq_take, List.dropLast_eq_take, dpsLen h]
  exact dpsTake _ h
theorem pop_ok {i : Nat} {σ : St} {H : Hp} {Q : VK} (h : tD X.K (fPop i) σ H Q) : tBM0 X.K "list" rPop (tVar i) σ H Q := by
  obtain ⟨G, ρ, r, ρ', R, q, k⟩ := h
  obtain ⟨ds, e0, q⟩ := bindS q
  obtain ⟨d, e1, q⟩ := mapS q
  cases q
  obtain ⟨p, xs, e4, g4, e5, al, ow, o⟩ := items_ok R e0
  obtain ⟨v, hv, dv⟩ := dpsGet al e1
  refine ⟨.ref p, e4, .inl ⟨rfl, xs, SqL.of e5⟩, p, xs, v, rfl, rfl, e5, by rw [dpsLen al]; exact hv, ?_⟩
  obtain ⟨R2, S2⟩ := put_ok R o e4 (dpsDropLast al)
  exact k v G _ ⟨R2, S2, dv, trivial⟩
theorem e_pop {i : Nat} {x : Str} {npos apos : Pos} (hN : X.N[i]? = some x) (hv : Vis X.env.scope x) (hd : (x == ("__debug__" : Str)) = false) (hcd : (x == ("__classdict__" : Str)) = false) (hline : (apos.endLine == pos.line) = true) :
    PE X (.Call (.Attribute (.Name x npos) "pop" apos) [] [] pos) (tD X.K (fPop i)) :=
  weakE (pe_bm0 PySem.F.plainAttrs_list PySem.F.slot_list_pop PySem.F.type_list_pop mt_pop (pe_var hN hv hd hcd) rfl hline) fun σ H Q h => pop_ok h
/-! ### bit_length -/
def φBits : D → Option RR
  | .int i => some (.va (.int (Builtin.Int.intBits i : Nat)))
  | _ => none
theorem e_bits {o : Expr} {f : Fn RR} {apos : Pos} (ha : PE X o (tD X.K f)) (hbase : attributeBase o "bit_length" X.env (eval o X.env) = eval o X.env) (hline : (apos.endLine == pos.line) = true) :
    PE X (.Call (.Attribute o "bit_length" apos) [] [] pos) (tD X.K (f1 φBits f)) :=
  weakE (pe_bits (to_V ha) hbase hline) fun σ H Q h => by
    obtain ⟨G, ρ, r, ρ', R, q, k⟩ := h
    obtain ⟨x, e1, q⟩ := bindS q
    obtain ⟨d, e3, q⟩ := bindS q
    obtain ⟨r', e5, q⟩ := mapS q
    cases q
    refine ⟨G, ρ, x.1, x.2, R, e1, fun v G1 H1 R1 S1 d1 => ?_⟩
    have hv := vw_view R1 d1 e3
    unfold φBits at e5
    split at e5
    · cases e5
      cases view_int hv
      exact ⟨_, rfl, k _ G1 H1 (pst_trans S1 ((made_int R1.sub _).pst R1))⟩
    · cases e5
end
end Den

set_option autoImplicit false
/-! Data-level denotations: from a body to its promise; the law's call. -/
namespace Den
open PySem PySem.Spec L2

section
variable {P : Program} {w : World} {K : PySem.W.Frag} {mg : Str → Option Value} {base : Heap} {k : Nat} {f : Addr} {name qual : Str} {params : Arguments} {body : List Stmt} {scope : Scope} {dV kV doc pm cdv ct oc : Value} {an od : Option Addr} {osl : Array (Option Value)} {N ps : List Str}
/-- a def's call runs its body -/
theorem enter {A : Around} {outer : List Env} {s : Shared} {H : Hp} {args : Args} {us : List Value} {vs : List V} {Q : VK} {t : TS}
    (found : K.lookup f = some ⟨oc, od, .func (PySem.W.fnOf name qual params body scope dV kV doc pm an cdv ct), osl⟩) (coded : PySem.W.codeIn K cdv qual = true) (S : FnScope N ps scope)
    (room : Room (k + 1) A) (e0 : Env0 P w K mg base A outer s H) (bound : BindsTo s (PySem.W.fnOf name qual params body scope dV kV doc pm an cdv ct) args (ps.zip us)) (rel : Vals vs us) (many : vs.length = ps.length)
    (runs : PSs (cxOf CX0 P w K mg base N qual scope f cdv A outer s H E0) body t) (wish : t { nx := fun _ H' => Q .non H', rt := Q } (L2.start N vs) H) :
    codeAny (model P w) A (.call (.ref f) args) (CR CX0 outer P w H s Q E0) s := by
  have inK : K.In s.heap := e0.mod.kin.keeps fun b o z => (e0.bs b o z).1
  have free : s.heap.NoLimit := e0.mod.nolimit.keeps fun b o z => (e0.bs b o z).1
  have kinds : ∀ y ∈ ps.zip us, scope.names.lookup y.1 = some .local ∨ (scope.names.lookup y.1 = some .cell ∧ ((cellsFrom (s.heap.objs.size + 1) scope.names []).lookup y.1).isSome = true) := by
    rintro ⟨n, v⟩ hy
    exact (S.par n (List.of_mem_zip hy).1).imp id fun q => ⟨q, PySem.W.cellsFrom_some _ _ _ (.inl q)⟩
  refine codeAny_call_function room.depth (inK _ _ found) rfl S.co S.gen rfl (PySem.W.codeRec_of inK coded) (bound _ _ _ _ (wpAny_newFunctionEnv_cells S.kind kinds fun env he s1 x => ?_))
  subst he
  refine ⟨free.keeps x.toInCall.keep, codeAny_func (wpAny_mono (runs.run [] s1 (L2.start N vs) H _ (inv_start S room.hd e0 many rel x) wish) (fun fl s2 done => ?_) fun _ _ done => done)⟩
  cases fl with
  | ret u => exact let ⟨v, σ', H', J, rv, q⟩ := done; ⟨v, H', J.os, J.bare, J.base, J.hok, rv, q⟩
  | next => exact let ⟨σ', H', J, q⟩ := done; ⟨.non, H', J.os, J.bare, J.base, J.hok, rfl, q⟩
  | brk => exact let ⟨_, _, _, q⟩ := done; False.elim q
  | cont => exact let ⟨_, _, _, q⟩ := done; False.elim q
end
/-- a body run at its parameters -/
def bodyRun (mt : Bool) (more : Nat) (fb : FS) (β ds : List D) : Option (RR × List D) := (fb (parL mt β ds ++ List.replicate more .no)).bind fun y => (match y.1 with
    | .rt r => some r
    | .nx => some (.va .none)
    | _ => none).bind fun r => if mt then (match (y.2[0]? : Option Sl) with
      | some (Sl.bg β') => some (r, β')
      | _ => none) else some (r, [])
section
variable {K : PySem.W.Frag} {G G' H H' : Hp} {vs : List V} {mt : Bool} {β β' ds : List D} {m : Nat}
theorem get_more {ρ : Lo} {i : Nat} {s : Sl} (h : (ρ ++ List.replicate m .no)[i]? = some s) : ρ[i]? = some s ∨ s = .no := by
  by_cases hi : i < ρ.length
  · rw [List.getElem?_append_left hi] at h
    exact .inl h
  · rw [List.getElem?_append_right (by omega), List.getElem?_replicate] at h
    split at h
    · cases h
      exact .inr rfl
    · cases h
theorem own_more {ρ : Lo} {i : Nat} (h : Own (ρ ++ List.replicate m .no) i) : Own ρ i := by
  obtain ⟨s, e, o⟩ := h
  rcases get_more e with e | e
  · exact ⟨s, e, o⟩
  · rw [e] at o
    cases o
theorem st_more {ρ : Lo} {i : Nat} (R : ρ.length = vs.length) (hi : i < ρ.length) (n : Nat) : (vs.map some ++ List.replicate n (none : Option V))[i]? = (vs.map some)[i]? :=
  List.getElem?_append_left (by rw [List.length_map, ← R]; exact hi)
theorem rel_more {ρ : Lo} (R : Rel K G H (vs.map some) ρ) (m : Nat) : Rel K G H (vs.map some ++ List.replicate m none) (ρ ++ List.replicate m .no) := by
  have hl : ρ.length = vs.length := by rw [R.len, List.length_map]
  refine ⟨R.sub, fun i s e => ?_, fun i j a hi hj ei ej => ?_, by simp [R.len]⟩
  · rcases get_more e with e | e
    · have hi := (List.getElem?_eq_some_iff.mp e).1
      rw [st_more hl hi]
      exact R.sl i s e
    · rw [e]
      trivial
  · have oi := own_more hi
    have oj := own_more hj
    have li : i < ρ.length := let ⟨_, e, _⟩ := oi; (List.getElem?_eq_some_iff.mp e).1
    have lj : j < ρ.length := let ⟨_, e, _⟩ := oj; (List.getElem?_eq_some_iff.mp e).1
    rw [st_more hl li] at ei
    rw [st_more hl lj] at ej
    exact R.apart i j a oi oj ei ej
theorem parL_len : (parL mt β ds).length = ds.length + (if mt = true then 1 else 0) := by
  cases mt <;> simp [parL]
theorem no_ls {σ : St} {a : Addr} : ¬ Ls σ (parL mt β ds ++ List.replicate m .no) a := fun ⟨i, es, e, e2⟩ => by
  rcases get_more e with e | e
  · exact ls_parL ⟨i, es, e, e2⟩
  · cases e
theorem own_par {i : Nat} (h : Own (parL mt β ds) i) : mt = true ∧ i = 0 := by
  obtain ⟨s, e, o⟩ := h
  unfold parL at e
  cases mt with
  | false =>
    rw [if_neg (by simp), List.getElem?_map] at e
    obtain ⟨d, _, rfl⟩ := mapS e
    cases o
  | true =>
    rw [if_pos rfl] at e
    cases i with
    | zero => exact ⟨rfl, rfl⟩
    | succ j =>
      rw [List.getElem?_cons_succ, List.getElem?_map] at e
      obtain ⟨d, _, rfl⟩ := mapS e
      cases o
/-- from the body's end to the caller's view -/
theorem back_par {σ' : St} {ρ' : Lo} (R : Rel K G H (vs.map some) (parL mt β ds)) (R' : Rel K G' H' σ' ρ') (S : Stp (vs.map some ++ List.replicate m none) (parL mt β ds ++ List.replicate m .no) G H σ' ρ' G' H')
    (hb : mt = true → ρ'[0]? = some (.bg β')) : Rel K G' H' (vs.map some) (parL mt β' ds) ∧ Stp (vs.map some) (parL mt β ds) G H (vs.map some) (parL mt β' ds) G' H' := by
  have hl : (parL mt β ds).length = vs.length := by rw [R.len, List.length_map]
  have hl2 : (parL mt β' ds).length = vs.length := by rw [← hl, parL_len, parL_len]
  have ow2 : ∀ {a : Addr}, Ow (vs.map some ++ List.replicate m none) (parL mt β ds ++ List.replicate m .no) a → Ow (vs.map some) (parL mt β ds) a := fun {a} h => by
    obtain ⟨i, o, e⟩ := h.own
    have o2 := own_more o
    have li : i < (parL mt β ds).length := let ⟨_, e, _⟩ := o2; (List.getElem?_eq_some_iff.mp e).1
    rw [st_more hl li] at e
    exact Ow.of o2 e
  have slot0 : mt = true → Mine K G' H' (vs.map some)[0]? β' := fun h => by
    have e := hb h
    obtain ⟨d0, h1, h2⟩ := S.obg 0 β' e
    have q := R'.sl 0 _ e
    rw [h2] at q
    have li : 0 < (parL mt β ds).length := by
      rw [parL_len, if_pos h]
      omega
    rw [st_more hl li] at q
    exact q
  refine ⟨⟨R'.sub, fun i s e => ?_, fun i j a hi hj _ _ => (own_par hi).2.trans (own_par hj).2.symm, by rw [hl2, List.length_map]⟩,
    ⟨S.gg, fun a o e n => S.keep a o e fun h => n (ow2 h), fun a e n => S.gnew a e fun h => n (ow2 h), fun a h => (ls_parL h).elim, fun i es e => ?_, S.dom⟩⟩
  · cases mt with
    | false =>
      have q := R.sl i s e
      have e2 := e
      unfold parL at e2
      rw [if_neg (by simp), List.getElem?_map] at e2
      obtain ⟨d, _, rfl⟩ := mapS e2
      obtain ⟨v, e1, dp⟩ := q
      exact ⟨v, e1, dpMono S.gg dp⟩
    | true =>
      cases i with
      | zero =>
        cases e
        exact slot0 rfl
      | succ j =>
        have q := R.sl (j + 1) s e
        have e2 : (ds.map Sl.va)[j]? = some s := e
        rw [List.getElem?_map] at e2
        obtain ⟨d, _, rfl⟩ := mapS e2
        obtain ⟨v, e1, dp⟩ := q
        exact ⟨v, e1, dpMono S.gg dp⟩
  · have hi := own_par (i := i) ⟨_, e, rfl⟩
    obtain ⟨h1, rfl⟩ := hi
    subst h1
    exact ⟨β, rfl, rfl⟩
end
section
variable {P : Program} {w : World} {K : PySem.W.Frag} {mg : Str → Option Value} {base : Heap} {k : Nat}
theorem fnG_of {x qual : Str} {st : Stmt} {f : Addr} {fd : FuncData} {N ps : List Str} {d : FD} {fb : FS} (F : Fun K x qual st f fd) (S : FnScope N ps (defScope st)) (hnp : d.np = ps.length)
    (hbody : ∀ (cdv : Value) (A : Around) (outer : List Env) (s : Shared) (H : Hp), Room k (A.deeper (PyProof.Rows.envOfC qual (defScope st) s.heap.objs.size f cdv)) → A.guards = some [] →
      PSs (cxOf CX0 P w K mg base N qual (defScope st) f cdv A outer s H E0).nox (defBody st) (tS K fb))
    (hrun : ∀ β ds z, d.run β ds = some z → bodyRun d.mt (N.length - ps.length) fb β ds = some z) : FnG P w K mg base (k + 1) f fd ps (spD K d) := by
  obtain ⟨oc, od, kV, doc, pm, an, cdv, ct, osl, rfl, lk, hcd⟩ := F.ex
  refine ⟨fun vs H Q E h => h.1.trans hnp, fun A outer s H args us vs Q hr hgd e0 hb r h => ?_⟩
  obtain ⟨hlen, G, β, ds, rr, β', R, e1, kk⟩ := h
  refine enter lk hcd S hr e0 hb r (hlen.trans hnp) (hbody cdv A outer s H (hr.deeper _) hgd).nox ?_
  have e2 := hrun β ds _ e1
  obtain ⟨y, e3, e2⟩ := bindS e2
  obtain ⟨r2, e4, e2⟩ := bindS e2
  have hst : L2.start N vs = vs.map some ++ List.replicate (N.length - ps.length) none := by
    unfold L2.start
    rw [hlen, hnp]
  rw [hst]
  refine ⟨G, _, y.1, y.2, rel_more R _, e3, fun σ' G' H' R' S' => ?_⟩
  have hbg : r2 = rr ∧ (d.mt = true → y.2[0]? = some (.bg β')) := by
    by_cases hm : d.mt = true
    · rw [if_pos hm] at e2
      split at e2
      · rename_i b hb2
        cases e2
        exact ⟨rfl, fun _ => hb2⟩
      · cases e2
    · rw [if_neg hm] at e2
      cases e2
      exact ⟨rfl, fun z => absurd z hm⟩
  obtain ⟨rfl, hbg⟩ := hbg
  obtain ⟨R2, S2⟩ := back_par R R' S' hbg
  cases hy : y.1 with
  | bk => rw [hy] at e4; cases e4
  | ct => rw [hy] at e4; cases e4
  | nx =>
    rw [hy] at e4
    cases e4
    exact kk _ G' H' R2 S2 Dp.non
  | rt q =>
    rw [hy] at e4
    cases e4
    intro v hv
    refine kk v G' H' R2 S2 ?_
    cases r2 with
    | va d' => exact hv
    | br j => exact hv
    | ls es =>
      obtain ⟨p, xs, a1, a2, a3, a4, a5⟩ := hv
      rcases a5 with a5 | a5
      · exact ⟨p, xs, a1, a2, a3, a4, .inl a5⟩
      · exact (no_ls a5).elim
end
end Den

set_option autoImplicit false
/-! Data-level denotations: the law's call from the top's end. -/
namespace Den
open PySem PySem.Spec L2

/-- the only thing told of the heap at the law's entry: the script, if it is no object of the module -/
def entryH (K : PySem.W.Frag) (a : Addr) (o : Obj) (xs : List V) : Hp := fun b => if b = a ∧ K.lookup a = none then some (.frz o (.lst xs)) else none
theorem dps_ints {K : PySem.W.Frag} {G : Hp} : ∀ ns : List Int, DpAll K G (ns.map V.int) (ns.map PyData.int)
  | [] => .nil
  | n :: ns => .cons (.int n) (dps_ints ns)
theorem law_run {P : Program} {w : World} {K : PySem.W.Frag} {mg mb : Str → Option Value} {k : Nat} {fa a : Addr} {fd : FuncData} {x : Str} {d : FD} {s : Shared} {vs : List Value} {ns : List Int}
    (inK : K.In s.heap) (glob : s.heap.Ns mainGlobals mg) (blt : s.heap.Ns builtinsNs mb) (same : ∀ x : Str, x ≠ "__name__" → mb x = bootBuiltins x) (free : s.heap.NoLimit) (bare : s.gens = #[])
    (ha : s.heap.get? a = some { cls := .type "list", data := .seq vs.toArray }) (hi : PyProof.Rows.IntsAre vs ns) (hl : ns.length ≤ sizeLine) (hr : Room k callerA)
    (F : ∀ base : Heap, K.In base → base.Ns mainGlobals mg → FnG P w K mg base k fa fd [x] (spD K d)) (hbind : ∀ (s : Shared) (u : Value), BindsTo s fd ⟨[u], []⟩ [(x, u)])
    (hmt : d.mt = false) (hnp : d.np = 1) (hrun : d.run [] [.list (ns.map PyData.int)] = some (.va (.bool true), [])) :
    codeAny (model P w) callerA (.call (.ref fa) ⟨[.ref a], []⟩) (fun r s' => r = .ok (.ret (.bool true)) ∧ OldK s.heap s'.heap ∧ s'.os = s.os ∧ PyProof.Rows.AllBare s'.gens) s := by
  have rv : Vals (ns.map V.int) vs := L2.vals_ints hi
  have many := hi.length
  generalize hobj : ({ cls := .type "list", data := .seq vs.toArray } : Obj) = ob at ha
  have lk : ∀ {b : Addr} {u : HO}, entryH K a ob (ns.map V.int) b = some u → b = a ∧ K.lookup a = none ∧ u = .frz ob (.lst (ns.map V.int)) := fun {b u} e => by
    unfold entryH at e
    split at e
    · rename_i h
      cases e
      exact ⟨h.1, h.2, rfl⟩
    · cases e
  have ok : HOk P w (entryH K a ob (ns.map V.int)) s.heap := fun b u e => by
    obtain ⟨rfl, _, rfl⟩ := lk e
    exact ⟨ha, by rw [List.length_map]; exact hl, vs, _, rv, by rw [ha, ← hobj]⟩
  have keepH : ∀ {b : Addr} {o : Obj}, s.heap.get? b = some o → entryH K a ob (ns.map V.int) b = none → (hidT s.heap (entryH K a ob (ns.map V.int))).get? b = some o := fun e n => hidT_get e n
  have nsH : ∀ {b : Addr} {m : Str → Option Value}, s.heap.Ns b m → (hidT s.heap (entryH K a ob (ns.map V.int))).Ns b m := fun {b m} ⟨o, es, ep, e, dd, r⟩ => by
    refine ⟨o, es, ep, keepH e ?_, dd, r⟩
    cases q : entryH K a ob (ns.map V.int) b with
    | none => rfl
    | some u =>
      obtain ⟨rfl, _, _⟩ := lk q
      rw [ha] at e
      cases e
      rw [← hobj] at dd
      cases dd
  have kH : K.In (hidT s.heap (entryH K a ob (ns.map V.int))) := fun b o e => keepH (inK b o e) (by
    cases q : entryH K a ob (ns.map V.int) b with
    | none => rfl
    | some u =>
      obtain ⟨rfl, n, _⟩ := lk q
      rw [n] at e
      cases e)
  have md : Mod K mg (hidT s.heap (entryH K a ob (ns.map V.int))) := ⟨kH, nsH glob, ⟨mb, nsH blt, same⟩, let ⟨mc, h1, h2⟩ := free; ⟨mc, nsH h1, h2⟩⟩
  have e0 : Env0 P w K mg (hidT s.heap (entryH K a ob (ns.map V.int))) callerA [] s (entryH K a ob (ns.map V.int)) :=
    ⟨rfl, md, fun b o e => of_hidT e, Nat.le_of_eq (hidT_size _ _), trivial, (fun b hb => by cases hb), ok, .of_eq bare⟩
  have sq : SqL K (entryH K a ob (ns.map V.int)) a (ns.map V.int) := by
    cases hk : K.lookup a with
    | none => exact .inl (.inr ⟨ob, if_pos ⟨rfl, hk⟩⟩)
    | some o =>
      have e := inK a o hk
      rw [ha] at e
      cases e
      rw [← hobj]
      exact .inr ⟨_, vs.toArray, _, hk.trans (by rw [← hobj]), rfl, rfl, rfl, by rw [List.size_toArray, many]; exact hl, rv⟩
  have wish : spD K d [.ref a] (entryH K a ob (ns.map V.int)) (fun v _ => v = .bl true) E0 := by
    refine ⟨hnp.symm, entryH K a ob (ns.map V.int), [], [.list (ns.map PyData.int)], _, _, ?_, hrun, fun v G' H' _ _ hv => ?_⟩
    · rw [hmt]
      exact rel_par (vs := [.ref a]) (Same.refl _) (.cons (.lst sq (dps_ints ns)) .nil)
    · have hv2 : Dp K G' v (.bool true) := hv
      cases hv2
      rfl
  refine codeAny_mono ((F _ kH (nsH glob)).run callerA [] s _ ⟨[.ref a], []⟩ [.ref a] [.ref a] _ hr rfl e0 (hbind s (.ref a)) (.cons rfl .nil) wish) fun r s' h => ?_
  cases r with
  | error er => exact False.elim h
  | ok fl =>
    cases fl with
    | next => exact False.elim h
    | brk => exact False.elim h
    | cont => exact False.elim h
    | ret u =>
      obtain ⟨v, H', os, bare', un, ok', rr, q⟩ := h
      have q2 : v = .bl true := q
      subst q2
      obtain rfl : u = Value.bool true := rr
      refine ⟨rfl, OldK.of_keep fun b o e => ?_, os, bare'⟩
      cases q3 : entryH K a ob (ns.map V.int) b with
      | none => exact un.keep b o e q3 (fun z => by cases z) (fun z => by cases z)
      | some u =>
        obtain ⟨rfl, n, rfl⟩ := lk q3
        obtain ⟨e1, _⟩ := ok' _ _ (un.frzs _ _ _ q3)
        rw [ha] at e
        cases e
        exact e1
theorem law_walk {l : PySem.W.OpenLaw} {n k : Nat} {q : Program} {loose : List Str} {XP : (Str → Option Value) → Heap → Prop} {YP : World → Heap → Prop} {d : DefRec} {K : Params → PySem.W.Frag} {x : Str} {fdn : FD}
    (hn : l.most = some n) (hn2 : n ≤ sizeLine) (hdf : d.params.defaults = []) (hr : Room k callerA)
    (hY : ∀ (w : World) (h : Heap), YP w h → (K w.params).In h)
    (F : ∀ (w : World) (mg : Str → Option Value) (fa : Addr) (h : Heap), (K w.params).In h → h.Ns mainGlobals mg → mg d.name = some (.ref fa) →
      ∃ fd : FuncData, (∀ (s : Shared) (u : Value), BindsTo s fd ⟨[u], []⟩ [(x, u)]) ∧
        ∀ base : Heap, (K w.params).In base → base.Ns mainGlobals mg → FnG l.prog w (K w.params) mg base k fa fd [x] (spD (K w.params) fdn))
    (hmt : fdn.mt = false) (hnp : fdn.np = 1) (hrun : ∀ ns : List Int, ns.length ≤ n → fdn.run [] [.list (ns.map PyData.int)] = some (.va (.bool true), [])) :
    PySem.W.WalkO q loose XP YP l.row.toRowW d [] (fun f vs => PySem.call f vs) := by
  refine Att.attach_call hn hdf fun w s₀ s₁ mg mb fa o pm cd doc a vs ns G Y ho hd hcd hmg hobj hints hlen hg => ?_
  have inK := hY w _ Y
  obtain ⟨fd, hb, hF⟩ := F w mg fa _ inK G.T.g hmg
  exact law_run inK G.T.g G.T.b G.T.builtins G.T.nolimit hg hobj hints (Nat.le_trans hlen hn2) hr hF hb hmt hnp (hrun ns hlen)
end Den

set_option autoImplicit false
/-! Data-level denotations: sorted of a tuple. -/
namespace Den
open PySem PySem.Spec L2
section
variable {prog : Program} {w : World} {A : Around} {E : Value → Shared → Prop} {s : Shared} {β : Type} {vs : List Value} {bs : List β} {enc : β → PyData} {R : Value → β → Prop}
/-- the items are gathered, laid as a list, and this list is sorted -/
theorem tup_sorted {t : Addr} {o : Obj} {n : Nat} {Q : Value → Shared → Prop} (ho : s.heap.get? t = some o) (hc : o.cls = .type "tuple") (hd : o.data = .seq vs.toArray n) (e : PySem.W.EachIs R vs bs)
    (er : PySem.W.EachIs (fun v b => ∃ as, Reads s.heap v (enc b) as) vs bs) (hal : PySem.W.AllAlike (bs.map enc)) (hk : PySem.W.Sortable (bs.map enc)) (hL : bs.length ≤ sizeLine) (hu : ∀ b, b ∈ bs → A.units + 2 + (enc b).depth < cLine)
    (h : ∀ (h1 : Heap) (out : List Value), (∀ a u, s.heap.get? a = some u → h1.get? a = some u) → out.length = bs.length → PySem.W.EachIs R out (bs.mergeSort (PySem.W.dataLe false enc)) →
      Q (.ref h1.objs.size) { s with heap := PyProof.Rows.sortedHeap (h1.push (PyProof.Rows.seqObj "list" vs.toArray 0)) h1.objs.size vs out.toArray }) :
    wpAny (model prog w) A (call (.builtin "sorted") [.ref t]) Q E s := by
  have hv : vs.length ≤ sizeLine := by rw [e.length]; exact hL
  refine PyProof.Rows.call_function_entry_kw PyProof.Rows.kind_sorted PyProof.Rows.plain_sorted PyProof.Rows.entry_sorted (PyProof.Rows.args_sorted1 (.ref t)) ?_
  show wpAny _ _ (checkCount "sorted" 1 1 _ >>= _) _ _ _
  refine wpAny_bind (wpAny_pure (wpAny_bind (wpAny_collect_seq t (T := "tuple") (.inr rfl) ho hc hd (fun h1 k1 => ?_) (by simpa using hv))))
  have el : vs.toArray.toList = vs := by simp
  rw [el]
  refine wpAny_bind (wpAny_newList ?_)
  have hn : (h1.push (PyProof.Rows.seqObj "list" vs.toArray 0)).get? h1.objs.size = some (PyProof.Rows.seqObj "list" vs.toArray 0) := Heap.get?_push_size _ rfl
  refine wpAny_bind (wpAny_holding (PyProof.Rows.wpAny_call_entry_kw PyProof.Rows.slot_list_sort ⟨_, hn, rfl⟩ PyProof.Rows.entry_list_sort ?body (PyProof.Rows.args_list_sort _)))
  case body =>
    have kept : ∀ a u, s.heap.get? a = some u → (PySem.W.sortingHeap (h1.push (PyProof.Rows.seqObj "list" vs.toArray 0)) h1.objs.size vs).get? a = some u := fun a u z =>
      PySem.W.sortingHeap_old (Nat.ne_of_lt (Heap.lt_size (k1 a u z))) (Heap.get?_push_of_some _ (k1 a u z))
    have er2 : PySem.W.EachIs (fun v b => ∃ as, Reads (PySem.W.sortingHeap (h1.push (PyProof.Rows.seqObj "list" vs.toArray 0)) h1.objs.size vs) v (enc b) as) vs bs := er.mono fun _ _ ⟨as, r⟩ => ⟨as, PyProof.Rows.Reads.keeps kept r⟩
    refine wpAny_mono (PySem.W.list_sort_vals (κ := PySem.W.dataKind (PySem.W.sortingHeap (h1.push (PyProof.Rows.seqObj "list" vs.toArray 0)) h1.objs.size vs) (bs.map enc)) (s := { s with heap := h1.push (PyProof.Rows.seqObj "list" vs.toArray 0) }) (n := 0) hn
      (PySem.W.SortsAt.data (s := { s with heap := PySem.W.sortingHeap (h1.push (PyProof.Rows.seqObj "list" vs.toArray 0)) h1.objs.size vs }) (PySem.W.each_map (R := fun v d => ∃ as, Reads _ v d as) enc er2) hal hk (PySem.W.bound_map hu)) hv
      (P := fun f s2 => f = .done (.ret .none) ∧ Q (.ref h1.objs.size) s2) ⟨rfl, h h1 _ k1 (by rw [PySem.W.sortVals_length false rfl]; exact e.length) (PySem.W.sortVals_data false e er2 hal)⟩) (fun f s2 q => ?_) fun _ _ z => z
    obtain ⟨rfl, q⟩ := q
    exact ⟨_, rfl, wpAny_pure ⟨_, rfl, q⟩⟩
end
end Den

set_option autoImplicit false
/-! Data-level denotations: slices, items stored, sorted, list(range ..). -/
namespace Den
open PySem PySem.Spec L2

section
variable {X : Cx} {a e : Expr} {pos p2 : Pos} {f : Fn RR}
def cutD {α : Type} (xs : List α) (lo hi : Option Int) : List α := (xs.drop (HT.sIx xs.length 0 lo)).take (HT.sIx xs.length xs.length hi - HT.sIx xs.length 0 lo)
theorem cut_dps {K : PySem.W.Frag} {G : Hp} {xs : List V} {ds : List D} (al : DpAll K G xs ds) (lo hi : Option Int) : DpAll K G (cutV xs lo hi) (cutD ds lo hi) := by
  unfold cutV cutD
  rw [dpsLen al]
  exact dpsTake _ (dpsDrop _ al)
def φSl : D → Option Int → Option Int → Option RR
  | .list ds, lo, hi => some (.ls (cutD ds lo hi))
  | .tuple ds, lo, hi => some (.va (.tuple (cutD ds lo hi)))
  | .str z, lo, hi => if z.length ≤ lim then some (.va (.str (cutS z lo hi))) else none
  | _, _, _ => none
def rSlD (K : PySem.W.Frag) : V → Option Int → Option Int → Hp → VK → Prop := fun x lo hi H Q => ∃ (G : Hp) (d : D) (r : RR), Same G H ∧ ViewR K G H x d ∧ φSl d lo hi = some r ∧ ∀ v G' H', Made K G H v r G' H' → Q v H'
theorem cut_whole {α : Type} {xs : List α} {lo hi : Option Int} (h : HT.sIx xs.length 0 lo = 0 ∧ HT.sIx xs.length xs.length hi = xs.length) : cutD xs lo hi = xs := by
  unfold cutD
  rw [h.1, h.2]
  simp
theorem o_sl : L2.SlR X (rSlD X.K) := by
  intro pins s σ H x v vl vu lo hi sl Q I rx hs pl pu h
  obtain ⟨G, d, r, sg, hx, hφ, k⟩ := h
  unfold φSl at hφ
  split at hφ
  · cases hφ
    obtain ⟨b, xs, rfl, ha, al⟩ := view_list sg hx
    exact sl_list pins s σ H _ v vl vu lo hi sl Q I rx hs pl pu ⟨b, xs, rfl, ha, fun p hp => k _ _ _ (.ls sg hp (cut_dps al lo hi))⟩
  · cases hφ
    have hg := view_tupG hx
    obtain ⟨b, xs, rfl, ha, al⟩ := view_tup sg hx
    refine sl_tupA pins s σ H _ v vl vu lo hi sl Q I rx hs pl pu ⟨b, xs, rfl, ha, fun hw => ?_, fun _ p hp => k _ _ _ (.tup sg hp (cut_dps al lo hi))⟩
    rw [dpsLen al] at hw
    rw [cut_whole hw] at k
    exact k _ G H (.va sg hg)
  · obtain ⟨hc, rfl⟩ := iteS hφ
    exact sl_str pins s σ H _ v vl vu lo hi sl Q I rx hs pl pu ⟨_, view_str hx, lim_le hc, k _ G H (made_str sg _)⟩
  · cases hφ
/-- a slice's part -/
def asInt : RR → Lo → Option Int := fun r ρ => match vw r ρ with
  | some (.int i) => some i
  | _ => none
def fPt (o : Option (Fn RR)) : Fn (Option Int) := fun ρ => match o with
  | none => some (none, ρ)
  | some f => (fV f ρ).bind fun x => (asInt x.1 x.2).map fun i => (some i, x.2)
def tPt (K : PySem.W.Frag) (f : Fn (Option Int)) : TO := fun σ H Q => ∃ G ρ o ρ', Rel K G H σ ρ ∧ f ρ = some (o, ρ') ∧ ∀ G' H', Rel K G' H' σ ρ' → Stp σ ρ G H σ ρ' G' H' → Q o H'
theorem weakO {o : Option Expr} {t t' : TO} (h : PO X o t) (w : ∀ σ H Q, t' σ H Q → t σ H Q) : PO X o t' := ⟨fun pins s σ H Q I q => h.run pins s σ H Q I (w σ H Q q)⟩
theorem p_none : PO X none (tPt X.K (fPt none)) := weakO po_none fun σ H Q ⟨G, ρ, o, ρ', R, q, k⟩ => by
  cases q
  exact k G H R .refl
theorem asInt_ok {K : PySem.W.Frag} {G H : Hp} {σ : St} {ρ : Lo} {v : V} {r : RR} {i : Int} (R : Rel K G H σ ρ) (h : ResV K G σ v r) (e : asInt r ρ = some i) : v = .int i := by
  unfold asInt at e
  cases z : vw r ρ with
  | none => rw [z] at e; cases e
  | some d =>
    rw [z] at e
    cases d with
    | int j =>
      cases e
      exact view_int (vw_view R h z)
    | _ => cases e
theorem p_some (h : PE X a (tD X.K f)) : PO X (some a) (tPt X.K (fPt (some f))) := weakO (po_some (to_V h)) fun σ H Q ⟨G, ρ, o, ρ', R, q, k⟩ => by
  obtain ⟨x, e1, q⟩ := bindS q
  obtain ⟨i, e2, q⟩ := mapS q
  cases q
  exact ⟨G, ρ, x.1, x.2, R, e1, fun v G1 H1 R1 S1 d1 => ⟨i, asInt_ok R1 d1 e2, k G1 H1 R1 S1⟩⟩
def fSl (f : Fn RR) (lo hi : Option (Fn RR)) : Fn RR := fun ρ => (fV f ρ).bind fun x => (fPt lo x.2).bind fun l => (fPt hi l.2).bind fun u => (vw x.1 u.2).bind fun d => (φSl d l.1 u.1).map fun r => (r, u.2)
theorem e_sl {lo hi : Option Expr} {fl fh : Option (Fn RR)} (he : PE X e (tD X.K f)) (hl : PO X lo (tPt X.K (fPt fl))) (hu : PO X hi (tPt X.K (fPt fh))) : PE X (.Subscript e (.Slice lo hi none p2) pos) (tD X.K (fSl f fl fh)) :=
  weakE (pe_slice o_sl (to_V he) hl hu) fun σ H Q ⟨G, ρ, r, ρ', R, q, k⟩ => by
    obtain ⟨x, e1, q⟩ := bindS q
    obtain ⟨l, e2, q⟩ := bindS q
    obtain ⟨u, e3, q⟩ := bindS q
    obtain ⟨d, e4, q⟩ := bindS q
    obtain ⟨r', e5, q⟩ := mapS q
    cases q
    exact ⟨G, ρ, x.1, x.2, R, e1, fun v G1 H1 R1 S1 d1 => ⟨G1, x.2, l.1, l.2, R1, e2, fun G2 H2 R2 S2 => ⟨G2, l.2, u.1, u.2, R2, e3, fun G3 H3 R3 S3 =>
      ⟨G3, d, r, R3.sub, vw_view R3 (resV_mono (S2.gg.trans S3.gg) d1) e4, e5, fun v' G' H' m => k v' G' H' (pst_trans ((S1.trans S2).trans S3) (m.pst R3))⟩⟩⟩⟩

/-! ### items stored -/
def fSetIx (i : Nat) (fi fe : Fn RR) : FS := fun ρ => (fF fe ρ).bind fun y => if (items y.2 i).isSome = true then (fV fi y.2).bind fun x => (asInt x.1 x.2).bind fun j => (items x.2 i).bind fun ds => (ixN ds.length j).map fun n => (.nx, putItems x.2 i (ds.set n y.1)) else none
theorem s_setIx {i : Nat} {x : Str} {xp sp : Pos} {fi fe : Fn RR} (hN : X.N[i]? = some x) (hv : Vis X.env.scope x) (hd : (x == ("__debug__" : Str)) = false) (hcd : (x == ("__classdict__" : Str)) = false) (hi : PE X a (tD X.K fi)) (he : PE X e (tD X.K fe))
    (ha : ∀ v, assign (.Subscript (.Name x xp) a sp) X.env v = (do
      let ov ← holding [v] (eval (.Name x xp) X.env)
      let iv ← holding [v, ov] (eval a X.env)
      standAt sp
      holding [v, ov, iv] (setItem ov iv v)
      release [v, ov, iv] []))
    (hs : swapsWithSole [.Subscript (.Name x xp) a sp] e pos.line X.env = pure false) (hw : swappedStores [.Subscript (.Name x xp) a sp] e X.env = pure none)
    (h1 : (assignEach [.Subscript (.Name x xp) a sp] X.env).map (·.2) = [assign (.Subscript (.Name x xp) a sp) X.env]) : PS X (.Assign [.Subscript (.Name x xp) a sp] e pos) (tS X.K (fSetIx i fi fe)) :=
  weakS (ps_asg (to_F he) (pg_sub (pe_var hN hv hd hcd) (to_V hi) set_list ha) hs hw h1) fun D σ H ⟨G, ρ, o, ρ', R, q, k⟩ => by
    obtain ⟨y, e1, q⟩ := bindS q
    by_cases hsome : (items y.2 i).isSome = true
    · rw [if_pos hsome] at q
      obtain ⟨z, e2, q⟩ := bindS q
      obtain ⟨j, e3, q⟩ := bindS q
      obtain ⟨ds, e4, q⟩ := bindS q
      obtain ⟨n, e5, q⟩ := mapS q
      cases q
      refine ⟨G, ρ, y.1, y.2, R, e1, fun v G1 H1 R1 S1 dv => ?_⟩
      obtain ⟨ds0, e0⟩ := Option.isSome_iff_exists.mp hsome
      obtain ⟨p, xs, e6, g6, e7, al7, ow7, o7⟩ := items_ok R1 e0
      refine ⟨.ref p, e6, G1, y.2, z.1, z.2, R1, e2, fun w G2 H2 R2 S2 dw => ?_⟩
      obtain ⟨p', xs2, ep, e8, al8, o8⟩ := own_stays (v := .ref p) R2 e6 e4
      cases ep
      refine ⟨p, xs2, j, n, rfl, asInt_ok R2 dw e3, e8, by rw [dpsLen al8]; exact e5, ?_⟩
      obtain ⟨R3, S3⟩ := put_ok R2 o8 e6 (dpsSet n al8 (dpMono S2.gg dv))
      exact k σ G2 _ R3 ((S1.trans S2).trans S3)
    · rw [if_neg hsome] at q
      cases q
def rGetL : V → V → Hp → VK → Prop := fun o i H Q => ∃ p xs k v, o = .ref p ∧ i = .int k ∧ H p = some (.lst xs) ∧ 0 ≤ k ∧ xs[k.toNat]? = some v ∧ Q v H
theorem get_list : PGet X rGetL := by
  intro pins s σ H o i ov iv Q I ro ri h
  obtain ⟨p, xs, k, v, rfl, rfl, hp, h0, hv, q⟩ := h
  cases ro
  obtain ⟨t, rfl⟩ := ri
  obtain ⟨its, n, r, ho, hz⟩ := I.lst hp
  obtain ⟨u, hu, ru⟩ := r.get hv
  have hl := r.length
  have hn := line63
  have hk : k.toNat < xs.length := (List.getElem?_eq_some_iff.mp hv).1
  exact wpAny_getItem_list ⟨_, ho, rfl, n, rfl⟩ h0 (by omega) (by rw [List.getElem?_toArray]; exact hu) ⟨v, H, I, ru, q⟩
/-- list[j] += e, of ints, j from 0 on -/
def fAugIx (i : Nat) (fi fe : Fn RR) : FS := fun ρ => if (items ρ i).isSome = true then (fV fi ρ).bind fun x => (asInt x.1 x.2).bind fun j => (items x.2 i).bind fun ds => (fV fe x.2).bind fun y => (asInt y.1 y.2).bind fun m => (items y.2 i).bind fun es =>
  match ds[j.toNat]? with
  | some (.int n) => if 0 ≤ j then (ixN es.length j).map fun q => (.nx, putItems y.2 i (es.set q (.int (n + m)))) else none
  | _ => none else none
theorem s_augIx {i : Nat} {x : Str} {xp sp : Pos} {fi fe : Fn RR} (hN : X.N[i]? = some x) (hv : Vis X.env.scope x) (hd : (x == ("__debug__" : Str)) = false) (hcd : (x == ("__classdict__" : Str)) = false) (hi : PE X a (tD X.K fi)) (he : PE X e (tD X.K fe))
    (ha : ∀ ov iv new, augStore a ov iv new = (do holding [new, ov, iv] (setItem ov iv new); release [new, ov, iv] []; pure .next)) : PS X (.AugAssign (.Subscript (.Name x xp) a sp) .Add e pos) (tS X.K (fAugIx i fi fe)) :=
  weakS (ps_augS (pe_var hN hv hd hcd) (to_V hi) get_list (to_V he) ip_add set_list ha) fun D σ H ⟨G, ρ, o, ρ', R, q, k⟩ => by
    unfold fAugIx at q
    by_cases hsome : (items ρ i).isSome = true
    · rw [if_pos hsome] at q
      obtain ⟨z, e2, q⟩ := bindS q
      obtain ⟨j, e3, q⟩ := bindS q
      obtain ⟨ds, e4, q⟩ := bindS q
      obtain ⟨y, e5, q⟩ := bindS q
      obtain ⟨m, e6, q⟩ := bindS q
      obtain ⟨es, e7, q⟩ := bindS q
      split at q
      · rename_i n hn
        by_cases h0 : 0 ≤ j
        · rw [if_pos h0] at q
          obtain ⟨qq, e8, q⟩ := mapS q
          cases q
          obtain ⟨ds0, e0⟩ := Option.isSome_iff_exists.mp hsome
          obtain ⟨p, xs, e9, g9, e10, al10, ow10, o10⟩ := items_ok R e0
          refine ⟨.ref p, e9, G, ρ, z.1, z.2, R, e2, fun w G2 H2 R2 S2 dw => ?_⟩
          obtain ⟨p', xs2, ep, e11, al11, o11⟩ := own_stays (v := .ref p) R2 e9 e4
          cases ep
          obtain ⟨v, hv1, hv2⟩ := dpsGet al11 hn
          cases hv2
          refine ⟨p, xs2, j, _, rfl, asInt_ok R2 dw e3, e11, h0, hv1, G2, z.2, y.1, y.2, R2, e5, fun u G3 H3 R3 S3 du => ?_⟩
          obtain ⟨p', xs3, ep, e12, al12, o12⟩ := own_stays (v := .ref p) R3 e9 e7
          cases ep
          refine ⟨n, m, rfl, asInt_ok R3 du e6, p, xs3, j, qq, rfl, asInt_ok R2 dw e3, e12, by rw [dpsLen al12]; exact e8, ?_⟩
          obtain ⟨R4, S4⟩ := put_ok R3 o12 e9 (dpsSet qq al12 (.int (n + m)))
          exact k σ G3 _ R4 ((S2.trans S3).trans S4)
        · rw [if_neg h0] at q
          cases q
      · cases q
    · rw [if_neg hsome] at q
      cases q
/-- name += e, of ints -/
def fAug (i : Nat) (g : Int → Int → Int) (fe : Fn RR) : FS := fun ρ => match ρ[i]? with
  | some (.va (.int n)) => (fV fe ρ).bind fun y => (asInt y.1 y.2).bind fun m => if notBg y.2 i = true then some (.nx, y.2.set i (.va (.int (g n m)))) else none
  | _ => none
theorem s_aug {i : Nat} {x : Str} {xp : Pos} {op : Operator} {g : Int → Int → Int} {fe : Fn RR} (hN : X.N.Nodup) (hi : X.N[i]? = some x) (hx : Loc X.env.scope x) (he : PE X e (tD X.K fe)) (ho : PIp X op (ipI g)) (hf : X.fn x = true ∨ X.env.scope.names.lookup x = some .local) :
    PS X (.AugAssign (.Name x xp) op e pos) (tS X.K (fAug i g fe)) :=
  weakS (ps_aug hN hi hx (to_V he) ho hf) fun D σ H ⟨G, ρ, o, ρ', R, q, k⟩ => by
    unfold fAug at q
    split at q
    · rename_i n hn
      obtain ⟨y, e5, q⟩ := bindS q
      obtain ⟨m, e6, q⟩ := bindS q
      obtain ⟨hb, q⟩ := iteS q
      cases q
      obtain ⟨v, e1, dv⟩ := R.sl i _ hn
      cases dv
      refine ⟨_, e1, G, ρ, y.1, y.2, R, e5, fun u G3 H3 R3 S3 du => ⟨n, m, rfl, asInt_ok R3 du e6, ?_⟩⟩
      exact k _ G3 H3 (rel_set (r := .va (.int (g n m))) R3 (.int _) (by intro j; simp)) (stp_set (r := .va (.int (g n m))) S3 hb trivial)
    · cases q

/-! ### sorted -/
def alikes (ds : List D) : Bool := ds.all fun d => ds.all fun e => PySem.W.alike d e
def netup : D → Bool
  | .tuple (_ :: _) => true
  | _ => false
def plainKey : D → Bool
  | .tuple _ => false
  | .none => false
  | _ => true
def sortD (ds : List D) : List D := ds.mergeSort (PySem.W.dataLe false fun d => d)
def φSorted : List D → Option RR
  | [.list ds] => if alikes ds = true ∧ (ds.all netup = true ∨ ds.all plainKey = true) ∧ ds.length ≤ lim ∧ (ds.all fun d => decide (d.depth ≤ 50)) = true then some (.ls (sortD ds)) else none
  | [.tuple ds] => if alikes ds = true ∧ (ds.all netup = true ∨ ds.all plainKey = true) ∧ ds.length ≤ lim ∧ (ds.all fun d => decide (d.depth ≤ 50)) = true then some (.ls (sortD ds)) else none
  | _ => none
theorem each_of {K : PySem.W.Frag} {G : Hp} : ∀ {xs : List V} {us : List Value} {ds : List D}, Vals xs us → DpAll K G xs ds → PySem.W.EachIs (fun u d => ∃ x : V, RelV x u ∧ Dp K G x d) us ds
  | _, _, _, .nil, .nil => .nil
  | _, _, _, .cons r t, .cons h a => .cons ⟨_, r, h⟩ (each_of t a)
theorem of_each {K : PySem.W.Frag} {G : Hp} : ∀ {us : List Value} {ds : List D}, PySem.W.EachIs (fun u d => ∃ x : V, RelV x u ∧ Dp K G x d) us ds → ∃ xs : List V, Vals xs us ∧ DpAll K G xs ds
  | _, _, .nil => ⟨[], .nil, .nil⟩
  | _, _, .cons ⟨x, r, h⟩ t => by
    obtain ⟨xs, a, b⟩ := of_each t
    exact ⟨x :: xs, .cons r a, .cons h b⟩
theorem sortD_len (ds : List D) : (sortD ds).length = ds.length := List.length_mergeSort ..
theorem keys_ok {ds : List D} (h1 : alikes ds = true) (h2 : ds.all netup = true ∨ ds.all plainKey = true) : PySem.W.AllAlike (ds.map fun d => d) ∧ PySem.W.Sortable (ds.map fun d => d) := by
  rw [List.map_id']
  constructor
  · intro d hd e he
    unfold alikes at h1
    rw [List.all_eq_true] at h1
    have q := h1 d hd
    rw [List.all_eq_true] at q
    exact q e he
  · rcases h2 with h2 | h2
    · refine .inl fun d hd => ?_
      have q := List.all_eq_true.mp h2 d hd
      unfold netup at q
      split at q
      · exact ⟨_, _, rfl⟩
      · cases q
    · refine .inr fun d hd => ?_
      have q := List.all_eq_true.mp h2 d hd
      constructor
      · rintro rfl
        cases q
      · rintro xs rfl
        cases q
theorem c_sorted (hu : X.A.units + 66 < cLine) : CallR X (.builtin "sorted") (rL X.K φSorted) := by
  intro pins s σ H vs us Q I rs h
  obtain ⟨G, ds, r, sg, hv, hφ, k⟩ := h
  unfold φSorted at hφ
  split at hφ
  · rename_i _ es
    obtain ⟨⟨h1, h2, h3, h4⟩, rfl⟩ := iteS hφ
    obtain ⟨hal, hso⟩ := keys_ok h1 h2
    obtain ⟨v, rfl, hx⟩ := views1 hv
    obtain ⟨b, xs, rfl, ha, al⟩ := view_list sg hx
    obtain ⟨u, rfl, ru⟩ := vals1 rs
    cases ru
    obtain ⟨its, rv, pl, hz⟩ := I.list ha
    have e1 := each_of rv al
    have e2 : PySem.W.EachIs (fun v d => ∃ as, Reads s.heap v d as) its es := e1.mono fun u d ⟨x, r, h⟩ => Dp.reads I d x u (dpMono sg h) r
    refine PySem.W.sorted_data (R := fun u d => ∃ x : V, RelV x u ∧ Dp X.K G x d) (enc := fun d => d) pl.isList e1 e2 hal hso (lim_le h3) (fun d hd => ?_) fun out ho eo => ?_
    · have q := of_decide_eq_true (List.all_eq_true.mp h4 d hd)
      omega
    · obtain ⟨ys, ry, ay⟩ := of_each eo
      obtain ⟨ep, hat⟩ := PyProof.Rows.sortedAll_at s.heap its out.toArray
      have hnew : s.heap.objs.size ≤ s.heap.objs.size + 1 := Nat.le_succ _
      have hp : H (s.heap.objs.size + 1) = none := I.hok.fresh hnew
      have I2 := I.laid (a := s.heap.objs.size + 1) (o := .lst ys) (t' := s.toks) (h' := PyProof.Rows.sortedAll s.heap its out.toArray) (fun b o e => PyProof.Rows.sortedAll_old e) hnew
        ⟨by rw [ry.length, ho]; exact lim_le h3, out, ep, ry, hat⟩
      exact ⟨.ref _, _, I2, rfl, k _ _ _ (.ls sg hp ay)⟩
  · rename_i _ es
    obtain ⟨⟨h1, h2, h3, h4⟩, rfl⟩ := iteS hφ
    obtain ⟨hal, hso⟩ := keys_ok h1 h2
    obtain ⟨v, rfl, hx⟩ := views1 hv
    obtain ⟨b, xs, rfl, ha, al⟩ := view_tup sg hx
    obtain ⟨u, rfl, ru⟩ := vals1 rs
    cases ru
    obtain ⟨its, rv, ⟨ob, hob, hcl, n, hda⟩, hz⟩ := I.tuple ha
    have e1 := each_of rv al
    have e2 : PySem.W.EachIs (fun v d => ∃ as, Reads s.heap v d as) its es := e1.mono fun u d ⟨x, r, h⟩ => Dp.reads I d x u (dpMono sg h) r
    refine tup_sorted (R := fun u d => ∃ x : V, RelV x u ∧ Dp X.K G x d) (enc := fun d => d) hob hcl hda e1 e2 hal hso (lim_le h3) (fun d hd => ?_) fun h1 out k1 ho eo => ?_
    · have q := of_decide_eq_true (List.all_eq_true.mp h4 d hd)
      omega
    · obtain ⟨ys, ry, ay⟩ := of_each eo
      have hn : (h1.push (PyProof.Rows.seqObj "list" its.toArray 0)).get? h1.objs.size = some (PyProof.Rows.seqObj "list" its.toArray 0) := Heap.get?_push_size _ rfl
      obtain ⟨ep, hat⟩ := PyProof.Rows.sortedHeap_at (out := out.toArray) hn
      have I2 : Inv X pins σ H { s with heap := h1 } := I.kept (t' := s.toks) k1
      have hp : H h1.objs.size = none := I2.hok.fresh (Nat.le_refl _)
      have I3 := I2.laid (a := h1.objs.size) (o := .lst ys) (t' := s.toks) (h' := PyProof.Rows.sortedHeap (h1.push (PyProof.Rows.seqObj "list" its.toArray 0)) h1.objs.size its out.toArray) (fun b o e => by
        have hlt : b < h1.objs.size := Heap.lt_size e
        have e3 : (h1.push (PyProof.Rows.seqObj "list" its.toArray 0)).get? b = some o := Heap.get?_push_of_some _ e
        rw [PyProof.Rows.sortedHeap_old (Nat.ne_of_lt hlt) (Heap.lt_size e3)]
        exact e3) (Nat.le_refl _) ⟨by rw [ry.length, ho]; exact lim_le h3, out, ep, ry, hat⟩
      exact ⟨.ref _, _, I3, rfl, k _ _ _ (.ls sg hp ay)⟩
  · cases hφ

/-! ### list(range(..)) -/
def fLr (fs : Fn (List RR)) : Fn RR := fun ρ => (fR1 fs ρ).map fun x => (.ls x.1, x.2)
theorem rg_dps {K : PySem.W.Frag} {G : Hp} (a b : Int) : DpAll K G (rgV a b) (rng a b) := by
  unfold rgV rng
  generalize List.range (b - a).toNat = l
  induction l with
  | nil => exact .nil
  | cons x l ih => exact .cons (.int _) ih
theorem e_lr1 {p rp rpos : Pos} {fa : Fn RR} (hc : X.calm = true) (hg : Gl X "list") (hm : X.mg "list" = none) (hg2 : Gl X "range") (hm2 : X.mg "range" = none) (ha : PE X a (tD X.K fa)) (na : starEach [a] X.env = (false, eval a X.env) :: starEach [] X.env) :
    PE X (.Call (.Name "list" p) [.Call (.Name "range" rp) [a] [] rpos] [] pos) (tD X.K (fLr (fsCons (fV fa) fsNil))) :=
  weakE (pe_listRg hc hg hm (prg_1 hg2 hm2 (to_V ha) na) rfl) fun σ H Q ⟨G, ρ, r, ρ', R, q, k⟩ => by
    obtain ⟨x, e1, q⟩ := mapS q
    cases q
    obtain ⟨y, e2, q⟩ := bindS e1
    obtain ⟨ds, e3, q⟩ := bindS q
    obtain ⟨z, e4, q4⟩ := bindS e2
    obtain ⟨w, e5, rfl⟩ := mapS q4
    cases e5
    obtain ⟨d, e6, e3⟩ := bindS e3
    obtain ⟨ds', e7, rfl⟩ := mapS e3
    cases e7
    refine ⟨G, ρ, z.1, z.2, R, e4, fun v G1 H1 R1 S1 dv => ?_⟩
    have hv := vw_view R1 dv e6
    split at q
    · rename_i j hj
      cases hj
      obtain ⟨hcc, q⟩ := iteS q
      cases q
      exact ⟨j, view_int hv, ⟨by omega, by omega, by omega, by omega, by omega⟩, fun p hp => k _ _ _ (pst_trans S1 ((Made.ls R1.sub hp (rg_dps 0 j)).pst R1))⟩
    · rename_i hj
      cases hj
    · cases q
end
end Den

set_option autoImplicit false
/-! Data-level denotations: starred displays, isinstance, chains, zip, ranges down, extend, tuple(range(..)). -/
namespace Den
open PySem PySem.Spec L2
section
variable {X : Cx} {a b c e l : Expr} {es : List Expr} {f g h : Fn RR} {fs : Fn (List D)} {pos p p2 : Pos}
/-! ### displays with stars -/
def fsStar (f : Fn D) (fs : Fn (List D)) : Fn (List D) := fun ρ => (f ρ).bind fun x => (its x.1).bind fun ds => (fs x.2).map fun y => (ds ++ y.1, y.2)
theorem fs_star {f : Fn D} (he : PE X e (tF X.K f)) (hr : PA X es (tFs X.K fs)) (hs : starEach (.Starred e p :: es) X.env = (true, eval e X.env) :: starEach es X.env) : PA X (.Starred e p :: es) (tFs X.K (fsStar f fs)) :=
  weakA (StX.pa_star he hr hs) fun σ H Q ⟨G, ρ, ds, ρ', R, q, k⟩ => by
    obtain ⟨x, e1, q⟩ := bindS q
    obtain ⟨es1, e2, q⟩ := bindS q
    obtain ⟨y, e3, q⟩ := mapS q
    cases q
    refine ⟨G, ρ, x.1, x.2, R, e1, fun v G1 H1 R1 S1 dp => ?_⟩
    cases hx : x.1 with
    | list ds1 =>
      rw [hx] at e2 dp
      cases e2
      cases dp with
      | lst hs al => exact ⟨_, _, rfl, .inr (R1.sub.seq hs), G1, x.2, y.1, y.2, R1, e3, fun vs G2 H2 R2 S2 al2 => k _ G2 H2 R2 (S1.trans S2) (dpsApp (dpsMono S2.gg al) al2)⟩
    | tuple ds1 =>
      rw [hx] at e2 dp
      cases e2
      cases dp with
      | tup hs al => exact ⟨_, _, rfl, .inl (same_tup R1.sub hs), G1, x.2, y.1, y.2, R1, e3, fun vs G2 H2 R2 S2 al2 => k _ G2 H2 R2 (S1.trans S2) (dpsApp (dpsMono S2.gg al) al2)⟩
    | _ => rw [hx] at e2; cases e2
/-! ### isinstance of one built-in type -/
inductive Ty where
  | int | bool | str | tuple | list | dict
def tyn : Ty → String
  | .int => "int" | .bool => "bool" | .str => "str" | .tuple => "tuple" | .list => "list" | .dict => "dict"
def tyS : Ty → Str
  | .int => "int" | .bool => "bool" | .str => "str" | .tuple => "tuple" | .list => "list" | .dict => "dict"
/-- the type of a datum -/
def tyOf : D → String
  | .none => "NoneType" | .bool _ => "bool" | .int _ => "int" | .str _ => "str" | .tuple _ => "tuple" | .list _ => "list" | .dict _ => "dict"
def isTy : Ty → D → Bool
  | .int, .int _ => true
  | .int, .bool _ => true
  | .bool, .bool _ => true
  | .str, .str _ => true
  | .tuple, .tuple _ => true
  | .list, .list _ => true
  | .dict, .dict _ => true
  | _, _ => false
def φIsi (t : Ty) : D → Option RR
  | .dict _ => none
  | d => some (.va (.bool (isTy t d)))
theorem kit_is (t : Ty) (d : D) (hd : ∀ x, d ≠ .dict x) : kitB (tyOf d) (tyn t) = some (isTy t d) := by
  cases d <;> first | exact absurd rfl (hd _) | (cases t <;> (simp only [tyOf, tyn, isTy]; decide +kernel))
theorem tyx_of {K : PySem.W.Frag} {G H : Hp} {v : V} {d : D} (s : Same G H) (hv : ViewR K G H v d) : TyX K H v (.type (tyOf d)) := by
  rcases hv with hv | ⟨p, xs, ds, rfl, e, rfl, al⟩
  · have hv := dpMono s hv
    cases hv with
    | non => exact .base .non
    | bl b => exact .base (.bl b)
    | int i => exact .base (.int i)
    | str x => exact .base (.str x)
    | lst hs al =>
      rcases hs with (h | ⟨o, h⟩) | ⟨o, it, n, h, hc, _⟩
      · exact .base (.lst h)
      · exact .base (.frz h)
      · exact .kList h hc
    | tup hs al =>
      rcases hs with (h | ⟨o, h⟩) | ⟨o, it, n, h, hc, _⟩
      · exact .base (.tup h)
      · exact .fTuple h
      · exact .kTuple h hc
  · exact .base (.lst e)
theorem c_isi (t : Ty) : CallR X (.builtin "isinstance") (fun vs H Q => ∃ (x : V) (G : Hp) (d : D) (r : RR), vs = [x, .ty (tyn t)] ∧ Same G H ∧ ViewR X.K G H x d ∧ φIsi t d = some r ∧ ∀ v G' H', Made X.K G H v r G' H' → Q v H') := by
  intro pins s σ H xs us Q I r h
  obtain ⟨x, G, d, r', rfl, sg, hv, hφ, k⟩ := h
  have nd : ∀ x, d ≠ .dict x := fun x z => by rw [z] at hφ; cases hφ
  have er : r' = .va (.bool (isTy t d)) := by
    cases d <;> first | (cases hφ; rfl) | exact absurd rfl (nd _)
  subst er
  exact call_isi pins s σ H _ us Q I r ⟨x, .ty (tyn t), _, _, _, rfl, .ty _, tyx_of sg hv, kit_ty (kit_is t d nd), k _ G H (made_bool sg _)⟩
theorem e_isi {t : Ty} {x y : Str} {f : Fn RR} (hx : x = ("isinstance" : Str)) (hg : Gl X x) (hm : X.mg x = none) (hg2 : Gl X y) (hm2 : X.mg y = none) (hy : tyS t = y) (ha : PE X a (tD X.K f))
    (he : starEach [a, .Name y p2] X.env = (false, eval a X.env) :: starEach [.Name y p2] X.env) : PE X (.Call (.Name x p) [a, .Name y p2] [] pos) (tD X.K (f1 (φIsi t) f)) := by
  subst hx hy
  have hb : PE X (.Name (tyS t) p2) (tC (.ty (tyn t))) := by
    cases t <;> exact pe_bltn hg2 hm2 (by decide +kernel) rfl
  refine weakE (pe_callB (c_isi t) hg hm (by decide +kernel) (pa_cons (to_V ha) (pa_cons hb pa_nil rfl) he) (by decide) (by decide) he rfl) fun σ H Q h => ?_
  obtain ⟨G, ρ, r, ρ', R, e1, k⟩ := w1 h
  exact ⟨G, ρ, r, ρ', R, e1, fun v G1 H1 R1 S1 d1 => let ⟨G2, d, r2, s, hv, hφ, kk⟩ := k v G1 H1 R1 S1 d1; ⟨v, G2, d, r2, rfl, s, hv, hφ, kk⟩⟩
/-! ### chains of two comparisons -/
def fCh (φ ψ : D → D → Option RR) (f g h : Fn RR) : Fn RR := fun ρ => (fV f ρ).bind fun x => (fV g x.2).bind fun y => (vw x.1 y.2).bind fun d => (vw y.1 y.2).bind fun e => (φ d e).bind fun r => match r with
  | .va (.bool true) => (fV h y.2).bind fun z => (vw y.1 z.2).bind fun e' => (vw z.1 z.2).bind fun w => (ψ e' w).map fun r => (r, z.2)
  | .va (.bool false) => some (.va (.bool false), y.2)
  | _ => none
theorem ch_ok {φ ψ : D → D → Option RR} {σ : St} {H : Hp} {Q : VK} (hh : tD X.K (fCh φ ψ f g h) σ H Q) : tChain (rD X.K φ) (rD X.K ψ) (tV X.K (fV f)) (tV X.K (fV g)) (tV X.K (fV h)) σ H Q := by
  obtain ⟨G, ρ, r, ρ', R, q, k⟩ := hh
  obtain ⟨x, e1, q⟩ := bindS q
  obtain ⟨y, e2, q⟩ := bindS q
  obtain ⟨d, e3, q⟩ := bindS q
  obtain ⟨e0, e4, q⟩ := bindS q
  obtain ⟨r1, e5, q⟩ := bindS q
  refine ⟨G, ρ, x.1, x.2, R, e1, fun v G1 H1 R1 S1 d1 => ⟨G1, x.2, y.1, y.2, R1, e2, fun u G2 H2 R2 S2 d2 => ⟨G2, d, e0, r1, R2.sub, vw_view R2 (resV_mono S2.gg d1) e3, vw_view R2 d2 e4, e5, fun z G3 H3 m => ?_⟩⟩⟩
  have P := m.pst R2
  split at q
  · have hz : Dp X.K G3 z (.bool true) := P.res
    cases hz
    refine ⟨true, rfl, ?_⟩
    rw [if_pos rfl]
    obtain ⟨z1, e6, q⟩ := bindS q
    obtain ⟨e', e7, q⟩ := bindS q
    obtain ⟨w, e8, q⟩ := bindS q
    obtain ⟨r2, e9, q⟩ := mapS q
    cases q
    exact ⟨G3, y.2, z1.1, z1.2, P.rel, e6, fun w' G4 H4 R4 S4 d4 => ⟨G4, e', w, r, R4.sub, vw_view R4 (resV_mono (P.stp.trans S4).gg d2) e7, vw_view R4 d4 e8, e9, fun v' G' H' m' => k v' G' H' (pst_trans (((S1.trans S2).trans P.stp).trans S4) (m'.pst R4))⟩⟩
  · have hz : Dp X.K G3 z (.bool false) := P.res
    cases hz
    cases q
    refine ⟨false, rfl, ?_⟩
    rw [if_neg (by simp)]
    exact k _ G3 H3 (pst_trans ((S1.trans S2).trans P.stp) (.same P.rel (.bl false)))
  · cases q
theorem e_chn {op op' : CmpOp} {φ ψ : D → D → Option RR} (ho : OpR X (compareOp op) (rD X.K φ)) (ho' : OpR X (compareOp op') (rD X.K ψ)) (ha : PE X a (tD X.K f)) (hb : PE X b (tD X.K g)) (hc : PE X c (tD X.K h)) (hm : lastMarks [op, op'] [b, c] = false) :
    PE X (.Compare a [op, op'] [b, c] pos) (tD X.K (fCh φ ψ f g h)) :=
  weakE (pe_chain ho ho' (to_V ha) (to_V hb) (to_V hc) hm) fun σ H Q hh => ch_ok hh
theorem bool_test {f : Fn RR} (hb : ∀ ρ r ρ', f ρ = some (r, ρ') → ∃ b, r = .va (.bool b)) {K : PySem.W.Frag} {σ : St} {H : Hp} {Q : Bool → Hp → Prop} (hh : tT K (fT f) σ H Q) : tD K f σ H fun x H' => ∃ k, x = .bl k ∧ Q k H' := by
  obtain ⟨G, ρ, c, ρ', R, q, k⟩ := hh
  obtain ⟨x, e1, q⟩ := bindS q
  obtain ⟨y, e0, ey⟩ := mapS e1
  obtain ⟨d, e2, q⟩ := bindS q
  obtain ⟨b', e3, q⟩ := mapS q
  obtain ⟨y1, y2⟩ := y
  obtain ⟨bb, hbb⟩ := hb ρ y1 y2 e0
  subst hbb ey
  refine ⟨G, ρ, _, y2, R, e0, fun v G' H' P => ?_⟩
  have res : Dp K G' v (.bool bb) := P.res
  cases res
  cases e2
  cases e3
  cases q
  exact ⟨_, rfl, k G' H' P.rel P.stp⟩
theorem ch_bool {φ ψ : D → D → Option RR} (hψ : ∀ d e r, ψ d e = some r → ∃ b, r = .va (.bool b)) : ∀ ρ r ρ', fCh φ ψ f g h ρ = some (r, ρ') → ∃ b, r = .va (.bool b) := fun ρ r ρ' q => by
  obtain ⟨x, e1, q⟩ := bindS q
  obtain ⟨y, e2, q⟩ := bindS q
  obtain ⟨d, e3, q⟩ := bindS q
  obtain ⟨e0, e4, q⟩ := bindS q
  obtain ⟨r1, e5, q⟩ := bindS q
  split at q
  · obtain ⟨z1, e6, q⟩ := bindS q
    obtain ⟨e', e7, q⟩ := bindS q
    obtain ⟨w, e8, q⟩ := bindS q
    obtain ⟨r2, e9, q⟩ := mapS q
    cases q
    exact hψ _ _ _ e9
  · cases q
    exact ⟨_, rfl⟩
  · cases q
theorem t_chn {op op' : CmpOp} {φ ψ : D → D → Option RR} (ho : OpR X (compareOp op) (rD X.K φ)) (ho' : OpR X (compareOp op') (rD X.K ψ)) (ha : PE X a (tD X.K f)) (hb : PE X b (tD X.K g)) (hc : PE X c (tD X.K h)) (hm : lastMarks [op, op'] [b, c] = false)
    (hψ : ∀ d e r, ψ d e = some r → ∃ b, r = .va (.bool b)) : PT X (.Compare a [op, op'] [b, c] pos) (tT X.K (fT (fCh φ ψ f g h))) :=
  weakT (pt_chain ho ho' (to_V ha) (to_V hb) (to_V hc) hm) fun σ H Q hh => ch_ok (bool_test (ch_bool hψ) hh)
/-! ### zip of two lists, of two tuples -/
def zipD : List D → List D → List D
  | x :: xs, y :: ys => .tuple [x, y] :: zipD xs ys
  | _, _ => []
theorem zipD_len : ∀ (xs ys : List D), (zipD xs ys).length = min xs.length ys.length
  | [], _ => by simp [zipD]
  | _ :: _, [] => by simp [zipD]
  | x :: xs, y :: ys => by
    rw [zipD, List.length_cons, List.length_cons, List.length_cons, zipD_len xs ys]
    omega
theorem zipD_get : ∀ {xs ys : List D} {i : Nat} {d : D}, (zipD xs ys)[i]? = some d → ∃ a b, xs[i]? = some a ∧ ys[i]? = some b ∧ d = .tuple [a, b]
  | [], _, _, _, e => by simp [zipD] at e
  | _ :: _, [], _, _, e => by simp [zipD] at e
  | x :: xs, y :: ys, 0, d, e => by
    simp [zipD] at e
    exact ⟨x, y, rfl, rfl, e.symm⟩
  | x :: xs, y :: ys, i + 1, d, e => by
    obtain ⟨a, b, h1, h2, h3⟩ := zipD_get (xs := xs) (ys := ys) (i := i) (d := d) (by simpa [zipD] using e)
    exact ⟨a, b, by simpa using h1, by simpa using h2, h3⟩
theorem yl_zipL {K : PySem.W.Frag} {G : Hp} {a b : Addr} {xs ys : List V} {ds es : List D} (ha : SqL K G a xs) (al : DpAll K G xs ds) (hb : SqL K G b ys) (bl : DpAll K G ys es) : Yl K G (Itz K a b) (zipD ds es) where
  go := fun i d H s e => by
    obtain ⟨d1, d2, h1, h2, _⟩ := zipD_get e
    obtain ⟨v, e1, _⟩ := dpsGet al h1
    obtain ⟨u, e2, _⟩ := dpsGet bl h2
    exact ⟨xs, ys, v, u, s.seq ha, s.seq hb, e1, e2⟩
  yl := fun i d G' H x H2 s s2 e y => by
    obtain ⟨d1, d2, h1, h2, rfl⟩ := zipD_get e
    obtain ⟨v, e1, v1⟩ := dpsGet al h1
    obtain ⟨u, e2, u1⟩ := dpsGet bl h2
    obtain ⟨T, x', y', rfl, n, rfl, f1, f2⟩ := y
    have q1 := f1 xs ((s.trans s2).seq ha)
    have q2 := f2 ys ((s.trans s2).seq hb)
    rw [e1] at q1
    rw [e2] at q2
    cases q1
    cases q2
    exact ⟨_, .tup s2 n (.cons (dpMono s v1) (.cons (dpMono s u1) .nil))⟩
  st := fun i H s e => ⟨xs, ys, s.seq ha, s.seq hb, by
    rw [zipD_len, ← dpsLen al, ← dpsLen bl] at e
    omega⟩
theorem yl_zipT {K : PySem.W.Frag} {G : Hp} {a b : Addr} {xs ys : List V} {ds es : List D} (ha : SqT K G a xs) (al : DpAll K G xs ds) (hb : SqT K G b ys) (bl : DpAll K G ys es) : Yl K G (RZ.ItzT K a b) (zipD ds es) where
  go := fun i d H s e => by
    obtain ⟨d1, d2, h1, h2, _⟩ := zipD_get e
    obtain ⟨v, e1, _⟩ := dpsGet al h1
    obtain ⟨u, e2, _⟩ := dpsGet bl h2
    exact ⟨xs, ys, v, u, same_tup s ha, same_tup s hb, e1, e2⟩
  yl := fun i d G' H x H2 s s2 e y => by
    obtain ⟨d1, d2, h1, h2, rfl⟩ := zipD_get e
    obtain ⟨v, e1, v1⟩ := dpsGet al h1
    obtain ⟨u, e2, u1⟩ := dpsGet bl h2
    obtain ⟨T, x', y', rfl, n, rfl, f1, f2⟩ := y
    have q1 := f1 xs (same_tup (s.trans s2) ha)
    have q2 := f2 ys (same_tup (s.trans s2) hb)
    rw [e1] at q1
    rw [e2] at q2
    cases q1
    cases q2
    exact ⟨_, .tup s2 n (.cons (dpMono s v1) (.cons (dpMono s u1) .nil))⟩
  st := fun i H s e => ⟨xs, ys, same_tup s ha, same_tup s hb, by
    rw [zipD_len, ← dpsLen al, ← dpsLen bl] at e
    omega⟩
def fZip (f g : Fn RR) : Fn (List D) := fun ρ => (fF f ρ).bind fun x => (fF g x.2).bind fun y => match x.1, y.1 with
  | .list xs, .list ys => some (zipD xs ys, y.2)
  | .tuple xs, .tuple ys => some (zipD xs ys, y.2)
  | _, _ => none
theorem i_zip {elts : List Expr} {kk : Nat} {tpos : Pos} (hg : Gl X "zip") (hm : X.mg "zip" = none) (ha : PE X a (tD X.K f)) (hb : PE X b (tD X.K g)) (hs : starEach [a, b] X.env = (false, eval a X.env) :: starEach [b] X.env) (hs2 : starEach [b] X.env = (false, eval b X.env) :: starEach [] X.env)
    (hpl : (backTo pos (starEach [b] X.env)).any (·.1) = false) : PI X (.Tuple elts kk tpos) (.Call (.Name "zip" p) [a, b] [] pos) (tItr X.K (fZip f g)) :=
  weakI (RZ.pi_zipA hg hm (fs_cons (to_F ha) (fs_cons (to_F hb) fs_nil hs2) hs) hs hpl) fun σ H R ⟨G, ρ, ds, ρ', Rl, q, k⟩ => by
    obtain ⟨x, e1, q⟩ := bindS q
    obtain ⟨y, e2, q⟩ := bindS q
    have ef : fsCons (fF f) (fsCons (fF g) fsNil) ρ = some ([x.1, y.1], y.2) := by simp [fsCons, fsNil, e1, e2]
    refine ⟨G, ρ, [x.1, y.1], y.2, Rl, ef, fun vs G1 H1 R1 S1 al => ?_⟩
    split at q
    · rename_i xs ys hx hy
      cases q
      rw [hx, hy] at al
      cases al with
      | cons d1 t =>
        cases t with
        | cons d2 t =>
          cases t
          cases d1 with
          | lst hs1 al1 =>
            cases d2 with
            | lst hs2 al2 => exact ⟨_, _, _, _, rfl, .inl ⟨R1.sub.seq hs1, R1.sub.seq hs2, k G1 H1 _ R1 S1 (yl_zipL hs1 al1 hs2 al2)⟩⟩
    · rename_i xs ys hx hy
      cases q
      rw [hx, hy] at al
      cases al with
      | cons d1 t =>
        cases t with
        | cons d2 t =>
          cases t
          cases d1 with
          | tup hs1 al1 =>
            cases d2 with
            | tup hs2 al2 => exact ⟨_, _, _, _, rfl, .inr ⟨same_tup R1.sub hs1, same_tup R1.sub hs2, k G1 H1 _ R1 S1 (yl_zipT hs1 al1 hs2 al2)⟩⟩
    · cases q
/-! ### range(lo, hi, step) -/
def rngD (lo hi : Int) : List D := (List.range (lo - hi).toNat).map fun (i : Nat) => .int (lo + (i : Int) * (-1))
theorem rngD_len (lo hi : Int) : (rngD lo hi).length = (lo - hi).toNat := by unfold rngD; rw [List.length_map, List.length_range]
def rngN (lo c : Int) (n : Nat) : List D := (List.range n).map fun (i : Nat) => .int (lo + (i : Int) * c)
theorem rngN_len {lo c : Int} {n : Nat} : (rngN lo c n).length = n := by unfold rngN; rw [List.length_map, List.length_range]
theorem yl_rngN {K : PySem.W.Frag} {G : Hp} {lo c : Int} {n : Nat} : Yl K G (Itc lo c n) (rngN lo c n) where
  go := fun i d H s e => by
    have := (List.getElem?_eq_some_iff.mp e).1
    rw [rngN_len] at this
    exact this
  yl := fun i d G' H x H2 s s2 e y => by
    obtain ⟨rfl, rfl⟩ := y
    refine ⟨G', ?_⟩
    unfold rngN at e
    rw [List.getElem?_map] at e
    obtain ⟨j, e1, rfl⟩ := mapS e
    obtain ⟨h1, h2⟩ := List.getElem?_eq_some_iff.mp e1
    rw [List.getElem_range] at h2
    subst h2
    exact .va s2 (.int _)
  st := fun i H s e => by rw [rngN_len] at e; exact e
/-- how many steps upwards -/
def stepsUp (lo hi c : Int) : Nat := if lo < hi then ((hi - lo - 1) / c + 1).toNat else 0
theorem RgC.up {i j c : Int} (h0 : 0 < c) (h1 : c ≤ 1000000) (hi : -1000000 ≤ i ∧ i ≤ 1000000) (hj : -1000000 ≤ j ∧ j ≤ 1000000) : RgC i j c (stepsUp i j c) := by
  refine ⟨by omega, by omega, ?_, ?_⟩
  · have hs : 0 ≤ Builtin.Range.rangeSize i j c ∧ Builtin.Range.rangeSize i j c ≤ 2000001 := by
      unfold Builtin.Range.rangeSize
      rw [if_pos (show c > 0 from h0)]
      by_cases h : i < j
      · rw [if_pos h]
        have h1 := Int.ediv_nonneg (show 0 ≤ j - i - 1 by omega) (show 0 ≤ c by omega)
        have h2 := Int.ediv_le_self (a := j - i - 1) c (by omega)
        omega
      · rw [if_neg h]
        omega
    unfold Builtin.Range.small
    simp only [Builtin.Range.rangeFitsLong, Bool.and_eq_true, Bool.or_eq_true, decide_eq_true_eq, beq_iff_eq, if_pos (show c > 0 from h0)]
    omega
  · unfold Builtin.Range.rangeSize stepsUp
    rw [if_pos (show c > 0 from h0)]
    by_cases h : i < j
    · rw [if_pos h, if_pos h]
      have := Int.ediv_nonneg (show 0 ≤ j - i - 1 by omega) (show 0 ≤ c by omega)
      omega
    · rw [if_neg h, if_neg h]
      rfl
def fR3 (fs : Fn (List RR)) : Fn (List D) := fun ρ => (fs ρ).bind fun x => (vws x.1 x.2).bind fun ds => match ds with
  | [.int i, .int j, .int c] => if c = -1 ∧ -1000000 ≤ i ∧ i ≤ 1000000 ∧ -1000000 ≤ j ∧ j ≤ 1000000 then some (rngD i j, x.2) else if (0 < c ∧ c ≤ 1000000) ∧ -1000000 ≤ i ∧ i ≤ 1000000 ∧ -1000000 ≤ j ∧ j ≤ 1000000 then some (rngN i c (stepsUp i j c), x.2) else none
  | _ => none
theorem iteS' {α : Type} {c : Prop} [Decidable c] {x : Option α} {y : α} (h : (if c then x else none) = some y) : c ∧ x = some y := by
  by_cases hc : c
  · rw [if_pos hc] at h
    exact ⟨hc, h⟩
  · rw [if_neg hc] at h
    cases h
theorem i_rngD {tg : Expr} {fs : Fn (List RR)} (hg : Gl X "range") (hm : X.mg "range" = none) (ha : PA X [a, b, c] (tVs X.K fs)) (hs : starEach [a, b, c] X.env = (false, eval a X.env) :: starEach [b, c] X.env) (hpl : (backTo pos (starEach [b, c] X.env)).any (·.1) = false) :
    PI X tg (.Call (.Name "range" p) [a, b, c] [] pos) (tItr X.K (fR3 fs)) :=
  weakI (pi_range3 hg hm ha hs hpl) fun σ H R ⟨G, ρ, ds, ρ', Rl, q, k⟩ => by
    obtain ⟨x, e1, q⟩ := bindS q
    obtain ⟨es, e2, q⟩ := bindS q
    refine ⟨G, ρ, x.1, x.2, Rl, e1, fun vs G1 H1 R1 S1 dv => ?_⟩
    have dv2 := views_of R1 dv e2
    split at q
    · rename_i i j c
      by_cases hc : c = -1 ∧ -1000000 ≤ i ∧ i ≤ 1000000 ∧ -1000000 ≤ j ∧ j ≤ 1000000
      · rw [if_pos hc] at q
        cases q
        obtain ⟨hm1, hc⟩ := hc
        subst hm1
        obtain ⟨v, u, w, rfl, hv, hu, hw⟩ := views3 dv2
        cases view_int hv
        cases view_int hu
        cases view_int hw
        exact ⟨_, _, -1, _, rfl, RgC.neg (by omega) (by omega) (by omega) (by omega), k G1 H1 _ R1 S1 yl_rngN⟩
      · rw [if_neg hc] at q
        obtain ⟨hcc, q3⟩ := iteS q
        cases q3
        obtain ⟨v, u, w, rfl, hv, hu, hw⟩ := views3 dv2
        cases view_int hv
        cases view_int hu
        cases view_int hw
        exact ⟨_, _, c, _, rfl, RgC.up hcc.1.1 hcc.1.2 ⟨hcc.2.1, hcc.2.2.1⟩ ⟨hcc.2.2.2.1, hcc.2.2.2.2⟩, k G1 H1 _ R1 S1 yl_rngN⟩
    · cases q
/-! ### extend by a new list -/
def fExt (i : Nat) (f : Fn RR) : Fn RR := fun ρ => if (items ρ i).isSome = true then (f ρ).bind fun x => match x.1 with
  | .ls es => (items x.2 i).bind fun ds => if ds.length + es.length ≤ lim then some (.va .none, putItems x.2 i (ds ++ es)) else none
  | _ => none else none
theorem ext_ok {i : Nat} {σ : St} {H : Hp} {Q : VK} (hh : tD X.K (fExt i f) σ H Q) : tBM X.K "list" rExtend (tVar i) (tCons (tD X.K f) tNil) σ H Q := by
  obtain ⟨G, ρ, r, ρ', R, q, k⟩ := hh
  unfold fExt at q
  by_cases hi : (items ρ i).isSome = true
  · rw [if_pos hi] at q
    obtain ⟨x, e1, q⟩ := bindS q
    obtain ⟨x1, x2⟩ := x
    cases x1 with
    | va d => cases q
    | br j => cases q
    | ls es =>
      obtain ⟨ds, e2, q⟩ := bindS q
      obtain ⟨hl, q⟩ := iteS q
      cases q
      obtain ⟨ds0, e0⟩ := Option.isSome_iff_exists.mp hi
      obtain ⟨p, xs, e4, g4, e5, al, ow, o⟩ := items_ok R e0
      refine ⟨.ref p, e4, .inl ⟨rfl, xs, SqL.of e5⟩, G, ρ, _, x2, R, e1, fun v G1 H1 P => ?_⟩
      obtain ⟨b, zs, rfl, gb, hb, alb, nb⟩ := P.res
      obtain ⟨p', xs1, ep, e6, al1, o1⟩ := own_stays (v := .ref p) P.rel e4 e2
      cases ep
      refine ⟨p, b, xs1, zs, rfl, rfl, e6, hb, by rw [dpsLen al1, dpsLen alb]; exact lim_le hl, ?_⟩
      obtain ⟨R2, S2⟩ := put_ok P.rel o1 e4 (dpsApp al1 alb)
      exact k .non G1 _ ⟨R2, P.stp.trans S2, .non, trivial⟩
  · rw [if_neg hi] at q
    cases q
theorem e_ext {i : Nat} {x : Str} {npos apos : Pos} (hN : X.N[i]? = some x) (hv : Vis X.env.scope x) (hd : (x == ("__debug__" : Str)) = false) (hcd : (x == ("__classdict__" : Str)) = false) (ha : PE X a (tD X.K f)) (hs : starEach [a] X.env = (false, eval a X.env) :: starEach [] X.env)
    (hfew : ((backTo pos (starEach [a] X.env)).all (fun x => !x.1) && (backToKw pos (keywordEach [] X.env)).all (fun x => x.1.isSome)
      && decide (([a] : List Expr).length + ([] : List Keyword).length + (if ([] : List Keyword).isEmpty then 0 else 1) < 30)) = true) (hline : (apos.endLine == pos.line) = true) :
    PE X (.Call (.Attribute (.Name x npos) "extend" apos) [a] [] pos) (tD X.K (fExt i f)) :=
  weakE (pe_bm PySem.F.plainAttrs_list PySem.F.slot_list_extend PySem.F.type_list_extend mt_extend (pe_var hN hv hd hcd) (pa_cons ha pa_nil hs) rfl hfew hline hs rfl) fun σ H Q hh => ext_ok hh
/-! ### tuple(range(..)) -/
def fTr (fs : Fn (List RR)) : Fn RR := fun ρ => (fR1 fs ρ).map fun x => (.va (.tuple x.1), x.2)
theorem e_tr1 {rp rpos : Pos} {fa : Fn RR} (hc : X.calm = true) (hg : Gl X "tuple") (hm : X.mg "tuple" = none) (hg2 : Gl X "range") (hm2 : X.mg "range" = none) (ha : PE X a (tD X.K fa)) (na : starEach [a] X.env = (false, eval a X.env) :: starEach [] X.env) :
    PE X (.Call (.Name "tuple" p) [.Call (.Name "range" rp) [a] [] rpos] [] pos) (tD X.K (fTr (fsCons (fV fa) fsNil))) :=
  weakE (pe_tupRg hc hg hm (prg_1 hg2 hm2 (to_V ha) na) rfl) fun σ H Q ⟨G, ρ, r, ρ', R, q, k⟩ => by
    obtain ⟨x, e1, q⟩ := mapS q
    cases q
    obtain ⟨y, e2, q⟩ := bindS e1
    obtain ⟨ds, e3, q⟩ := bindS q
    obtain ⟨z, e4, q4⟩ := bindS e2
    obtain ⟨w, e5, rfl⟩ := mapS q4
    cases e5
    obtain ⟨d, e6, e3⟩ := bindS e3
    obtain ⟨ds', e7, rfl⟩ := mapS e3
    cases e7
    refine ⟨G, ρ, z.1, z.2, R, e4, fun v G1 H1 R1 S1 dv => ?_⟩
    have hv := vw_view R1 dv e6
    split at q
    · rename_i j hj
      cases hj
      obtain ⟨hcc, q⟩ := iteS q
      cases q
      exact ⟨j, view_int hv, ⟨by omega, by omega, by omega, by omega, by omega⟩, fun p hp => k _ _ _ (pst_trans S1 ((Made.tup R1.sub hp (rg_dps 0 j)).pst R1))⟩
    · rename_i hj
      cases hj
    · cases q
/-! ### a new list times an int -/
theorem rep_dps {K : PySem.W.Frag} {G : Hp} {xs : List V} {ds : List D} (h : DpAll K G xs ds) : ∀ n : Nat, DpAll K G (List.replicate n xs).flatten (List.replicate n ds).flatten
  | 0 => .nil
  | n + 1 => by
    rw [List.replicate_succ, List.replicate_succ, List.flatten_cons, List.flatten_cons]
    exact dpsApp h (rep_dps h n)
def fRep (f g : Fn RR) : Fn RR := fun ρ => (f ρ).bind fun x => match x.1 with
  | .ls ds => (fV g x.2).bind fun y => (asInt y.1 y.2).bind fun m => if -1000000 ≤ m ∧ m ≤ 1000000 ∧ ds.length * m.toNat ≤ lim then some (.ls (List.replicate m.toNat ds).flatten, y.2) else none
  | _ => none
theorem e_rep (ha : PE X a (tD X.K f)) (hb : PE X b (tD X.K g)) : PE X (.BinOp a .Mult b pos) (tD X.K (fRep f g)) :=
  weakE (pe_op op_rep ha (to_V hb)) fun σ H Q ⟨G, ρ, r, ρ', R, q, k⟩ => by
    obtain ⟨x, e1, q⟩ := bindS q
    obtain ⟨x1, x2⟩ := x
    cases x1 with
    | va d => cases q
    | br j => cases q
    | ls ds =>
      obtain ⟨y, e2, q⟩ := bindS q
      obtain ⟨m, e3, q⟩ := bindS q
      obtain ⟨hc, q⟩ := iteS q
      cases q
      refine ⟨G, ρ, _, x2, R, e1, fun v G1 H1 P => ⟨G1, x2, y.1, y.2, P.rel, e2, fun u G2 H2 R2 S2 d2 => ?_⟩⟩
      obtain ⟨p, xs, rfl, gp, hp, al, nb⟩ := P.res
      have hp2 := S2.keep p _ hp nb
      refine ⟨p, m, xs, rfl, asInt_ok R2 d2 e3, hp2, by omega, by omega, by rw [dpsLen al]; exact lim_le hc.2.2, fun q hq => k _ _ _ (pst_trans (P.stp.trans S2) ((Made.ls R2.sub hq (rep_dps (dpsMono S2.gg al) _)).pst R2))⟩
end
end Den

set_option autoImplicit false
/-! Data-level denotations: the core language, what it means, and which syntax it stands for. -/
namespace Den
open PySem PySem.Spec L2

inductive Cm where
  | eq | ne | lt | le | gt | ge | isin | notin | is | isnot
inductive Bo where
  | add | sub | mul | div | mod | pow
inductive Bi where
  | len | abs | int | max | min | sum | any | all | tuple | list | sorted | repr
inductive Mu where
  | append | insert
inductive Tg where
  | nm (i : Nat)
  | tp (ts : List Tg)
mutual
inductive C where
  | var (i : Nat)
  | int (i : Int) | str (x : Str) | bool (b : Bool) | non
  | glo (j : Nat)
  | tup (es : Cs) | lst (es : Cs)
  | bin (o : Bo) (a b : C) | neg (a : C) | not (a : C)
  | and (es : Cs) | or (es : Cs)
  | cmp (o : Cm) (a b : C)
  | ite (c a b : C)
  | call (j : Nat) (es : Cs)
  | callM (j i : Nat) (es : Cs)
  | blt (b : Bi) (es : Cs)
  | mut (m : Mu) (i : Nat) (es : Cs)
  | ix (a b : C)
  | sl (a : C) (lo hi : Co)
  | lc (own : List (Str × Nat)) (elt : C) (tg : Tg) (it : Ci) (ifs : Co)
  | lr (a : C)
  | tupD (ds : Cd) | lstD (ds : Cd)
  | isi (a : C) (t : Ty)
  | chn (o1 o2 : Cm) (a b c : C)
  | ext (i : Nat) (a : C)
  | tr (a : C)
  | rep (a b : C)
  | lc2 (own : List (Str × Nat)) (elt : C) (tg : Tg) (it : Ci) (ifs : Co) (tg1 : Tg) (it1 : Ci) (ifs1 : Co)
  | pop (i : Nat)
  | bits (a : C)
inductive Cd where
  | nil
  | one (c : C) (ds : Cd)
  | star (c : C) (ds : Cd)
inductive Cs where
  | nil
  | cons (c : C) (cs : Cs)
inductive Co where
  | no
  | so (c : C)
inductive Ci where
  | seq (a : C) | rng1 (a : C) | rng2 (a b : C) | enum (a : C)
  | zip (a b : C) | rngD (a b c : C)
end
mutual
inductive S where
  | set (i : Nat) (c : C)
  | asg (t : Tg) (c : C)
  | par (i j : Nat) (a b : C)
  | par3 (i j l : Nat) (a b c : C)
  | setIx (i : Nat) (x c : C)
  | augIx (i : Nat) (x c : C)
  | aug (i : Nat) (sub : Bool) (c : C)
  | exp (c : C)
  | ife (c : C) (a b : Ss)
  | fors (t : Tg) (it : Ci) (b : Ss)
  | whl (c : C) (b : Ss)
  | ret (c : C) | retN | bk | ct | pass
inductive Ss where
  | nil
  | cons (s : S) (ss : Ss)
end
structure Gam where
  fns : List (Str × FD)
  cs : List (Str × D)
  nob : List Str

/-! ### what it means -/
def opB : Bo → D → D → Option RR
  | .add => φAdd | .sub => φSub | .mul => φMul | .div => φDiv | .mod => φMod | .pow => φPow
def opC : Cm → D → D → Option RR
  | .eq => φEq | .ne => φNe | .lt => φCmp fun i j => decide (i < j) | .le => φCmp fun i j => decide (i ≤ j) | .gt => φCmp fun i j => decide (j < i) | .ge => φCmp fun i j => decide (j ≤ i)
  | .isin => φIn | .notin => φNotIn | .is => φIs | .isnot => φIsNot
def opI : Bi → List D → Option RR
  | .len => φLen | .abs => φAbs | .int => φInt | .max => φMax | .min => φMin | .sum => φSum | .any => φAny | .all => φAll | .tuple => φTuple | .list => φList | .sorted => φSorted | .repr => φRepr
def opM : Mu → List D → List D → Option (List D × RR)
  | .append => φApp | .insert => φIns
mutual
def Tg.den : Tg → D → Lo → Option Lo
  | .nm i => gNm i
  | .tp ts => gTp ts.length (Tg.dens ts)
def Tg.dens : List Tg → List D → Lo → Option Lo
  | [] => gsNil
  | t :: ts => gsCons t.den (Tg.dens ts)
def Tg.slots : Tg → List Nat
  | .nm i => [i]
  | .tp ts => Tg.slotsL ts
def Tg.slotsL : List Tg → List Nat
  | [] => []
  | t :: ts => t.slots ++ Tg.slotsL ts
end
mutual
def C.den (Γ : Gam) : C → Fn RR
  | .var i => fVar i
  | .int i => fC (.int i)
  | .str x => fC (.str x)
  | .bool b => fC (.bool b)
  | .non => fC .none
  | .glo j => match Γ.cs[j]? with
    | some p => fC p.2
    | none => fun _ => none
  | .tup es => fTup (es.denF Γ)
  | .lst es => fLst (es.denF Γ)
  | .bin o a b => f2 (opB o) (a.den Γ) (b.den Γ)
  | .neg a => f1 φNeg (a.den Γ)
  | .not a => fNotV (a.den Γ)
  | .and es => es.denA Γ
  | .or es => es.denO Γ
  | .cmp o a b => f2 (opC o) (a.den Γ) (b.den Γ)
  | .ite c a b => fIf (c.denT Γ) (a.den Γ) (b.den Γ)
  | .call j es => match Γ.fns[j]? with
    | some p => fCall p.2 (es.denF Γ)
    | none => fun _ => none
  | .callM j i es => match Γ.fns[j]? with
    | some p => fCallM p.2 i (es.denF Γ)
    | none => fun _ => none
  | .blt b es => fL (opI b) (es.denV Γ)
  | .mut m i es => fMut i (opM m) (es.denF Γ)
  | .ix a b => f2 φIx (a.den Γ) (b.den Γ)
  | .sl a lo hi => fSl (a.den Γ) (lo.den Γ) (hi.den Γ)
  | .lc own elt tg it ifs => fLc (own.map (·.2)) (it.den Γ) tg.den (ifs.denT Γ) (elt.den Γ)
  | .lr a => fLr (fsCons (fV (a.den Γ)) fsNil)
  | .tupD ds => fTup (ds.denD Γ)
  | .lstD ds => fLst (ds.denD Γ)
  | .isi a t => f1 (φIsi t) (a.den Γ)
  | .chn o1 o2 a b c => fCh (opC o1) (opC o2) (a.den Γ) (b.den Γ) (c.den Γ)
  | .ext i a => fExt i (a.den Γ)
  | .tr a => fTr (fsCons (fV (a.den Γ)) fsNil)
  | .rep a b => fRep (a.den Γ) (b.den Γ)
  | .lc2 own elt tg it ifs tg1 it1 ifs1 => fLc2 (own.map (·.2)) tg1.slots (it.den Γ) tg.den (ifs.denT Γ) (it1.den Γ) tg1.den (ifs1.denT Γ) (elt.den Γ)
  | .pop i => fPop i
  | .bits a => f1 φBits (a.den Γ)
def C.denT (Γ : Gam) : C → FT
  | .and es => es.denAT Γ
  | .or es => es.denOT Γ
  | .not a => fNot (a.denT Γ)
  | .var i => fT (fVar i)
  | .cmp o a b => fT (f2 (opC o) (a.den Γ) (b.den Γ))
  | .call j es => fT (match Γ.fns[j]? with
    | some p => fCall p.2 (es.denF Γ)
    | none => fun _ => none)
  | .callM j i es => fT (match Γ.fns[j]? with
    | some p => fCallM p.2 i (es.denF Γ)
    | none => fun _ => none)
  | .blt b es => fT (fL (opI b) (es.denV Γ))
  | .ix a b => fT (f2 φIx (a.den Γ) (b.den Γ))
  | .lc own elt tg it ifs => fT (fLc (own.map (·.2)) (it.den Γ) tg.den (ifs.denT Γ) (elt.den Γ))
  | .isi a t => fT (f1 (φIsi t) (a.den Γ))
  | .chn o1 o2 a b c => fT (fCh (opC o1) (opC o2) (a.den Γ) (b.den Γ) (c.den Γ))
  | _ => fun _ => none
def Cd.denD (Γ : Gam) : Cd → Fn (List D)
  | .nil => fsNil
  | .one c ds => fsCons (fF (c.den Γ)) (ds.denD Γ)
  | .star c ds => fsStar (fF (c.den Γ)) (ds.denD Γ)
def Cs.denF (Γ : Gam) : Cs → Fn (List D)
  | .nil => fsNil
  | .cons c cs => fsCons (fF (c.den Γ)) (cs.denF Γ)
def Cs.denV (Γ : Gam) : Cs → Fn (List RR)
  | .nil => fsNil
  | .cons c cs => fsCons (fV (c.den Γ)) (cs.denV Γ)
def Cs.denA (Γ : Gam) : Cs → Fn RR
  | .nil => fun _ => none
  | .cons c .nil => c.den Γ
  | .cons c cs => fAndV (c.den Γ) (cs.denA Γ)
def Cs.denO (Γ : Gam) : Cs → Fn RR
  | .nil => fun _ => none
  | .cons c .nil => c.den Γ
  | .cons c cs => fOrV (c.den Γ) (cs.denO Γ)
def Cs.denAT (Γ : Gam) : Cs → FT
  | .nil => fun _ => none
  | .cons c .nil => c.denT Γ
  | .cons c cs => fAnd (c.denT Γ) (cs.denAT Γ)
def Cs.denOT (Γ : Gam) : Cs → FT
  | .nil => fun _ => none
  | .cons c .nil => c.denT Γ
  | .cons c cs => fOr (c.denT Γ) (cs.denOT Γ)
def Co.den (Γ : Gam) : Co → Option (Fn RR)
  | .no => none
  | .so c => some (c.den Γ)
def Co.denT (Γ : Gam) : Co → FT
  | .no => fYes
  | .so c => c.denT Γ
def Ci.den (Γ : Gam) : Ci → Fn (List D)
  | .seq a => fIt (a.den Γ)
  | .rng1 a => fR1 (fsCons (fV (a.den Γ)) fsNil)
  | .rng2 a b => fR1 (fsCons (fV (a.den Γ)) (fsCons (fV (b.den Γ)) fsNil))
  | .enum a => fEn (a.den Γ)
  | .zip a b => fZip (a.den Γ) (b.den Γ)
  | .rngD a b c => fR3 (fsCons (fV (a.den Γ)) (fsCons (fV (b.den Γ)) (fsCons (fV (c.den Γ)) fsNil)))
end
mutual
def S.den (Γ : Gam) : S → FS
  | .set i c => fSet i (c.den Γ)
  | .asg t c => fAsg (c.den Γ) t.den
  | .par i j a b => fPar i j (a.den Γ) (b.den Γ)
  | .par3 i j l a b c => fPar3 i j l (a.den Γ) (b.den Γ) (c.den Γ)
  | .setIx i x c => fSetIx i (x.den Γ) (c.den Γ)
  | .augIx i x c => fAugIx i (x.den Γ) (c.den Γ)
  | .aug i sub c => fAug i (fun n m => if sub then n - m else n + m) (c.den Γ)
  | .exp c => fDrop (c.den Γ)
  | .ife c a b => fIfS (c.denT Γ) (a.den Γ) (b.den Γ)
  | .fors t it b => fFor (it.den Γ) t.den (b.den Γ)
  | .whl c b => fWh (c.denT Γ) (b.den Γ)
  | .ret c => fRet (c.den Γ)
  | .retN => fRetN
  | .bk => fBk
  | .ct => fCt
  | .pass => fNop
def Ss.den (Γ : Gam) : Ss → FS
  | .nil => fNop
  | .cons s ss => fSeq (s.den Γ) (ss.den Γ)
end
end Den

set_option autoImplicit false
/-! Data-level denotations: which syntax a core term stands for. -/
namespace Den
open PySem PySem.Spec L2

structure Ct where
  N : List Str
  sc : Scope
  fnc : Str → Bool
def gl (ct : Ct) (x : Str) : Bool := decide (ct.sc.names.lookup x = some .globalImplicit)
def visB (ct : Ct) (x : Str) : Bool := match ct.sc.names.lookup x with
  | some .local => true
  | some .cell => true
  | some .free => true
  | _ => false
def okName (x : Str) : Bool := !(x == ("__debug__" : Str)) && !(x == ("__classdict__" : Str)) && !(x == ("__name__" : Str))
def sto (ct : Ct) (x : Str) : Bool := match ct.sc.names.lookup x with
  | some .local => true
  | some .cell => ct.fnc x
  | _ => false
def isVar (ct : Ct) (i : Nat) (x : Str) : Bool := decide (ct.N[i]? = some x) && visB ct x && okName x
def isBlt (Γ : Gam) (ct : Ct) (x : Str) : Bool := gl ct x && decide (x ∈ Γ.nob) && okName x
def isFn (Γ : Gam) (ct : Ct) (j : Nat) (x : Str) : Bool := gl ct x && okName x && (match Γ.fns[j]? with
  | some p => decide (p.1 = x)
  | none => false)
def bos : Bo → Operator
  | .add => .Add | .sub => .Sub | .mul => .Mult | .div => .FloorDiv | .mod => .Mod | .pow => .Pow
def cms : Cm → CmpOp
  | .eq => .Eq | .ne => .NotEq | .lt => .Lt | .le => .LtE | .gt => .Gt | .ge => .GtE | .isin => .In | .notin => .NotIn | .is => .Is | .isnot => .IsNot
def bin : Bi → Str
  | .len => "len" | .abs => "abs" | .int => "int" | .max => "max" | .min => "min" | .sum => "sum" | .any => "any" | .all => "all" | .tuple => "tuple" | .list => "list" | .sorted => "sorted" | .repr => "repr"
def mun : Mu → Str
  | .append => "append" | .insert => "insert"
def notStar : Expr → Bool
  | .Starred .. => false
  | _ => true
def noSet : Expr → Bool
  | .Set .. => false
  | _ => true
def noComp : Expr → Bool
  | .ListComp .. => false
  | .SetComp .. => false
  | .DictComp .. => false
  | _ => true
def notTup : Expr → Bool
  | .Tuple .. => false
  | .List .. => false
  | _ => true
def plainT : Expr → Bool
  | .Name .. => true
  | .Call .. => true
  | .Subscript .. => true
  | .ListComp .. => true
  | _ => false
def pix : Expr → Bool
  | .Name .. => true
  | .Constant .. => true
  | .BinOp .. => true
  | .UnaryOp .. => true
  | .Call .. => true
  | .Subscript .. => true
  | _ => false
def isTupE : Expr → Bool
  | .Tuple .. => true
  | _ => false
mutual
def Tg.chk (ct : Ct) : Tg → Expr → Bool
  | .nm i, .Name x _ => decide (ct.N[i]? = some x) && sto ct x
  | .tp ts, .Tuple es _ _ => Tg.chks ct ts es && decide (ts.length = es.length)
  | _, _ => false
def Tg.chks (ct : Ct) : List Tg → List Expr → Bool
  | [], [] => true
  | t :: ts, e :: es => notStar e && t.chk ct e && Tg.chks ct ts es
  | _, _ => false
end
def blkCt (ct : Ct) (scope : Scope) : Ct := ⟨ct.N, relS scope ct.sc, fun x => scope.names.lookup x == some .cell⟩
mutual
def C.chk (Γ : Gam) (ct : Ct) (t : Bool) : C → Expr → Bool
  | .var i, .Name x _ => isVar ct i x
  | .int i, .Constant (.int j) _ _ => decide (i = j) && !t
  | .str i, .Constant (.str j) _ _ => decide (i = j) && !t
  | .bool i, .Constant (.bool j) _ _ => decide (i = j) && !t
  | .non, .Constant .none _ _ => !t
  | .glo j, .Name x _ => gl ct x && okName x && !t && (match Γ.cs[j]? with
    | some p => decide (p.1 = x)
    | none => false)
  | .tup es, .Tuple l _ _ => es.chkF Γ ct l && !t
  | .lst es, .List l _ => es.chkF Γ ct l && !t
  | .bin o a b, .BinOp x op y _ => decide (bos o = op) && a.chk Γ ct false x && b.chk Γ ct false y && !t
  | .neg a, .UnaryOp .USub x _ => a.chk Γ ct false x && !t
  | .not a, .UnaryOp .Not x _ => a.chk Γ ct t x
  | .and es, .BoolOp .And l _ => es.chkB Γ ct t l
  | .or es, .BoolOp .Or l _ => es.chkB Γ ct t l
  | .cmp o a b, .Compare x [op] [y] _ => decide (cms o = op) && a.chk Γ ct false x && b.chk Γ ct false y && !(behindInMarks op y)
  | .ite c a b, .IfExp c' a' b' _ => c.chk Γ ct true c' && a.chk Γ ct false a' && b.chk Γ ct false b' && !t
  | .call j es, .Call (.Name x _) l [] _ => isFn Γ ct j x && !l.isEmpty && es.chkF Γ ct l
  | .callM j i es, .Call (.Name x _) (.Name y _ :: l) [] _ => isFn Γ ct j x && isVar ct i y && es.chkF Γ ct l
  | .blt b es, .Call (.Name x _) l [] _ => isBlt Γ ct x && decide (bin b = x) && !l.isEmpty && es.chkF Γ ct l
  | .mut m i es, .Call (.Attribute (.Name x _) nm apos) l [] pos => isVar ct i x && decide (mun m = nm) && !l.isEmpty && decide (l.length < 25) && (apos.endLine == pos.line) && es.chkF Γ ct l && !t
  | .ix a b, .Subscript x y _ => a.chk Γ ct false x && b.chk Γ ct false y && pix y
  | .sl a lo hi, .Subscript x (.Slice l h none _) _ => a.chk Γ ct false x && lo.chkP Γ ct l && hi.chkP Γ ct h && !t
  | .lc own elt tg it ifs, .ListComp e [⟨t', i, fs, as⟩] scope _ => decide (as = 0) && blkC ct.N ct.sc scope own && it.chk Γ ct t' i && noSet i && tg.chk (blkCt ct scope) t' && tg.slots.all (fun j => decide (j ∈ own.map (·.2))) && elt.chk Γ (blkCt ct scope) false e && ifs.chkI Γ (blkCt ct scope) fs
  | .lr a, .Call (.Name x _) [.Call (.Name y _) [e] [] _] [] _ => isBlt Γ ct x && decide (x = ("list" : Str)) && isBlt Γ ct y && decide (y = ("range" : Str)) && notStar e && a.chk Γ ct false e && !t
  | .rep a b, .BinOp x .Mult y _ => a.chk Γ ct false x && b.chk Γ ct false y && !t
  | .tupD ds, .Tuple l _ _ => ds.chkD Γ ct l && !t
  | .lstD ds, .List l _ => ds.chkD Γ ct l && !t
  | .isi a ty, .Call (.Name x _) [e, .Name y _] [] _ => isBlt Γ ct x && decide (x = ("isinstance" : Str)) && notStar e && isBlt Γ ct y && decide (tyS ty = y) && a.chk Γ ct false e
  | .chn o1 o2 a b c, .Compare x [op1, op2] [y, z] _ => decide (cms o1 = op1) && decide (cms o2 = op2) && a.chk Γ ct false x && b.chk Γ ct false y && c.chk Γ ct false z && !(lastMarks [op1, op2] [y, z])
  | .ext i a, .Call (.Attribute (.Name x _) nm apos) [e] [] pos => isVar ct i x && decide (("extend" : Str) = nm) && notStar e && (apos.endLine == pos.line) && a.chk Γ ct false e && !t
  | .tr a, .Call (.Name x _) [.Call (.Name y _) [e] [] _] [] _ => isBlt Γ ct x && decide (x = ("tuple" : Str)) && isBlt Γ ct y && decide (y = ("range" : Str)) && notStar e && a.chk Γ ct false e && !t
  | .lc2 own elt tg it ifs tg1 it1 ifs1, .ListComp e [⟨t', i, fs, as⟩, ⟨t1', i1, fs1, as1⟩] scope _ => (decide (as = 0) && decide (as1 = 0)) && blkC ct.N ct.sc scope own && (it.chk Γ ct t' i && noSet i && noSet i1) && (tg.chk (blkCt ct scope) t' && tg1.chk (blkCt ct scope) t1') && (tg.slots.all (fun j => decide (j ∈ own.map (·.2))) && tg1.slots.all (fun j => decide (j ∈ own.map (·.2)))) && elt.chk Γ (blkCt ct scope) false e && (ifs.chkI Γ (blkCt ct scope) fs && ifs1.chkI Γ (blkCt ct scope) fs1) && it1.chk Γ (blkCt ct scope) t1' i1 && !t
  | .bits a, .Call (.Attribute (.BinOp x op y p) nm apos) [] [] pos => decide (("bit_length" : Str) = nm) && (apos.endLine == pos.line) && a.chk Γ ct false (.BinOp x op y p) && !t
  | .pop i, .Call (.Attribute (.Name x _) nm apos) [] [] pos => isVar ct i x && decide (("pop" : Str) = nm) && (apos.endLine == pos.line) && !t
  | _, _ => false
def Cd.chkD (Γ : Gam) (ct : Ct) : Cd → List Expr → Bool
  | .nil, [] => true
  | .one c ds, e :: es => notStar e && c.chk Γ ct false e && ds.chkD Γ ct es
  | .star c ds, .Starred e _ :: es => c.chk Γ ct false e && ds.chkD Γ ct es
  | _, _ => false
def Cs.chkF (Γ : Gam) (ct : Ct) : Cs → List Expr → Bool
  | .nil, [] => true
  | .cons c cs, e :: es => notStar e && c.chk Γ ct false e && cs.chkF Γ ct es
  | _, _ => false
def Cs.chkB (Γ : Gam) (ct : Ct) (t : Bool) : Cs → List Expr → Bool
  | .cons c .nil, [e] => c.chk Γ ct t e
  | .cons c (.cons c2 cs), e :: e2 :: es => c.chk Γ ct t e && (Cs.cons c2 cs).chkB Γ ct t (e2 :: es)
  | _, _ => false
def Co.chkP (Γ : Gam) (ct : Ct) : Co → Option Expr → Bool
  | .no, none => true
  | .so c, some e => c.chk Γ ct false e
  | _, _ => false
def Co.chkI (Γ : Gam) (ct : Ct) : Co → List Expr → Bool
  | .no, [] => true
  | .so c, [e] => c.chk Γ ct true e
  | _, _ => false
def Ci.chk (Γ : Gam) (ct : Ct) : Ci → Expr → Expr → Bool
  | .seq a, _, e => a.chk Γ ct false e
  | .rng1 a, _, .Call (.Name x _) [e] [] _ => isBlt Γ ct x && decide (x = ("range" : Str)) && notStar e && a.chk Γ ct false e
  | .rng2 a b, _, .Call (.Name x _) [e, e2] [] _ => isBlt Γ ct x && decide (x = ("range" : Str)) && notStar e && notStar e2 && a.chk Γ ct false e && b.chk Γ ct false e2
  | .enum a, tg, .Call (.Name x _) [e] [] _ => isBlt Γ ct x && decide (x = ("enumerate" : Str)) && notStar e && a.chk Γ ct false e && isTupE tg
  | .zip a b, tg, .Call (.Name x _) [e, e2] [] _ => isBlt Γ ct x && decide (x = ("zip" : Str)) && notStar e && notStar e2 && a.chk Γ ct false e && b.chk Γ ct false e2 && isTupE tg
  | .rngD a b c, _, .Call (.Name x _) [e, e2, e3] [] _ => isBlt Γ ct x && decide (x = ("range" : Str)) && (notStar e && notStar e2 && notStar e3) && a.chk Γ ct false e && b.chk Γ ct false e2 && c.chk Γ ct false e3
  | _, _, _ => false
end
/-- a comprehension given to a local name of its own line -/
def swapB (ct : Ct) (y : Str) (py : Pos) : Expr → Bool
  | .ListComp _ _ scope pos => decide (ct.sc.names.lookup y = some .local) && (py.line == pos.line) && !(scope.names.any fun (n, k) => n == y && (k == .local || k == .cell))
  | _ => false
def sw2B (ct : Ct) (x y : Str) (px py : Pos) (vs : List Expr) : Bool := decide (ct.sc.names.lookup x = some .local) && decide (ct.sc.names.lookup y = some .local) && (px.line == py.line) && decide (x ≠ y) && vs.all notStar && !(vs.all (foldedForSure 8)) && !(vs.all (constantsAlone 8))
def sw3B (ct : Ct) (x y z : Str) (px py pz : Pos) (vs : List Expr) : Bool := (decide (ct.sc.names.lookup x = some .local) && decide (ct.sc.names.lookup y = some .local) && decide (ct.sc.names.lookup z = some .local)) && ((px.line == py.line) && (px.line == pz.line)) && (decide (x ≠ y) && decide (x ≠ z) && decide (y ≠ z)) && vs.all notStar && !(vs.all (foldedForSure 8)) && !(vs.all (constantsAlone 8))
def locName (ct : Ct) : Expr → Bool
  | .Name x _ => decide (ct.sc.names.lookup x = some .local)
  | _ => false
/-- a tuple stored as one: other than two or three names, or not all local -/
def asOne (ct : Ct) (tg e : Expr) : Bool := notTup e || match tg, e with
  | .Tuple ts _ _, .Tuple _ _ _ => !(ts.length == 2 || ts.length == 3) || ts.any fun t => !(locName ct t)
  | _, _ => false
mutual
def S.chk (Γ : Gam) (ct : Ct) : S → Stmt → Bool
  | .set i c, .Assign [.Name x px] e _ => decide (ct.N[i]? = some x) && sto ct x && c.chk Γ ct false e && (noComp e || match e with
    | .ListComp .. => true
    | _ => false)
  | .asg t c, .Assign [tg] e _ => t.chk ct tg && c.chk Γ ct false e && noComp e && asOne ct tg e && isTupE tg
  | .par i j a b, .Assign [.Tuple [.Name x px, .Name y py] _ _] (.Tuple [e1, e2] _ _) _ => decide (ct.N[i]? = some x) && decide (ct.N[j]? = some y) && decide (i ≠ j) && sw2B ct x y px py [e1, e2] && a.chk Γ ct false e1 && b.chk Γ ct false e2 && notStar e1 && notStar e2
  | .par3 i j l a b c, .Assign [.Tuple [.Name x px, .Name y py, .Name z pz] _ _] (.Tuple [e1, e2, e3] _ _) _ => (decide (ct.N[i]? = some x) && decide (ct.N[j]? = some y) && decide (ct.N[l]? = some z)) && (decide (i ≠ j) && decide (i ≠ l) && decide (j ≠ l)) && sw3B ct x y z px py pz [e1, e2, e3] &&
      (a.chk Γ ct false e1 && b.chk Γ ct false e2 && c.chk Γ ct false e3) && (notStar e1 && notStar e2 && notStar e3)
  | .setIx i x c, .Assign [.Subscript (.Name y _) ix _] e _ => isVar ct i y && pix ix && x.chk Γ ct false ix && c.chk Γ ct false e && noComp e
  | .augIx i x c, .AugAssign (.Subscript (.Name y _) ix _) .Add e _ => isVar ct i y && pix ix && x.chk Γ ct false ix && c.chk Γ ct false e
  | .aug i false c, .AugAssign (.Name y _) .Add e _ => decide (ct.N[i]? = some y) && sto ct y && c.chk Γ ct false e
  | .aug i true c, .AugAssign (.Name y _) .Sub e _ => decide (ct.N[i]? = some y) && sto ct y && c.chk Γ ct false e
  | .exp c, .Expr e _ => c.chk Γ ct false e && noComp e
  | .ife c a b, .If e x y _ => c.chk Γ ct true e && a.chk Γ ct x && b.chk Γ ct y
  | .fors t it b, .For tg i body [] _ => t.chk ct tg && it.chk Γ ct tg i && noSet i && b.chk Γ ct body
  | .whl c b, .While e body [] _ => c.chk Γ ct true e && b.chk Γ ct body
  | .ret c, .Return (some e) _ => c.chk Γ ct false e
  | .retN, .Return none _ => true
  | .bk, .Break _ => true
  | .ct, .Continue _ => true
  | .pass, .Pass _ => true
  | _, _ => false
def Ss.chk (Γ : Gam) (ct : Ct) : Ss → List Stmt → Bool
  | .nil, [] => true
  | .cons s ss, x :: xs => s.chk Γ ct x && ss.chk Γ ct xs
  | _, _ => false
end

/-! ### small facts of the syntax -/
theorem star_cons {e : Expr} {es : List Expr} {env : Env} (h : notStar e = true) : starEach (e :: es) env = (false, eval e env) :: starEach es env := by
  cases e <;> first | rfl | cases h
theorem set_iter {e : Expr} {env : Env} (h : noSet e = true) (x : Value) : foldedSetIterable e env x = pure x := by
  cases e <;> first | rfl | cases h
theorem swaps_no {e : Expr} {t : Option Expr} {l : Nat} {env : Env} (h : noComp e = true) : swapsWith e t l env = pure false := by
  cases e <;> first | rfl | cases h
theorem plain_test {e : Expr} {env : Env} (h : plainT e = true) (whole : Sem Value) : isTrue e env whole = (do let v ← whole; standAt e.pos; holding [v] (truthy v)) := by
  cases e <;> first | rfl | cases h
theorem pix_ok {e : Expr} (h : pix e = true) : PlainIx e := by
  intro o i
  cases e <;> first | rfl | cases h
theorem aug_ok {e : Expr} (h : pix e = true) (ov iv new : Value) : augStore e ov iv new = (do holding [new, ov, iv] (setItem ov iv new); release [new, ov, iv] []; pure .next) := by
  cases e <;> first | rfl | cases h
theorem sto_ix {e o : Expr} {env : Env} {sp : Pos} (h : pix e = true) (v : Value) : assign (.Subscript o e sp) env v = (do
      let ov ← holding [v] (eval o env)
      let iv ← holding [v, ov] (eval e env)
      standAt sp
      holding [v, ov, iv] (setItem ov iv v)
      release [v, ov, iv] []) := by
  cases e <;> first | rfl | cases h
theorem asg_cons {e : Expr} {es : List Expr} {env : Env} (h : notStar e = true) : (assignEach (e :: es) env).map (·.2) = assign e env :: (assignEach es env).map (·.2) := by
  cases e <;> first | rfl | cases h
theorem swap_none {t e : Expr} {env : Env} (h : notTup e = true) : swappedStores [t] e env = pure none := by
  cases e <;> first | (cases t <;> rfl) | cases h
theorem swap_none2 {o i e : Expr} {p : Pos} {env : Env} : swappedStores [.Subscript o i p] e env = pure none := by
  cases e <;> rfl
theorem asg_len {ct : Ct} {env : Env} : ∀ {ts : List Tg} {es : List Expr}, Tg.chks ct ts es = true → (assignEach es env).length = es.length ∧ (assignEach es env).findIdx? (·.1) = none
  | [], [], _ => ⟨rfl, rfl⟩
  | t :: ts, e :: es, h => by
    unfold Tg.chks at h
    simp only [Bool.and_eq_true] at h
    obtain ⟨⟨h1, _⟩, h3⟩ := h
    obtain ⟨q1, q2⟩ := asg_len (env := env) h3
    have e0 : assignEach (e :: es) env = (false, assign e env) :: assignEach es env := by
      cases e <;> first | rfl | cases h1
    rw [e0]
    exact ⟨by simp [q1], by simp [List.findIdx?_cons, q2]⟩
  | [], _ :: _, h => by cases h
  | _ :: _, [], h => by cases h
theorem noStars {Γ : Gam} {ct : Ct} : ∀ {cs : Cs} {es : List Expr}, cs.chkF Γ ct es = true → ∀ e ∈ es, notStar e = true
  | .nil, [], _ => fun _ z => by cases z
  | .cons c cs, e :: es, h => by
    unfold Cs.chkF at h
    simp only [Bool.and_eq_true] at h
    intro x hx
    rcases List.mem_cons.mp hx with z | z
    · rw [z]; exact h.1.1
    · exact noStars h.2 x z
  | .nil, _ :: _, h => by cases h
  | .cons _ _, [], h => by cases h
theorem star_any {env : Env} {pos : Pos} : ∀ {es : List Expr}, (∀ e ∈ es, notStar e = true) → (starEach es env).all (fun x => !x.1) = true ∧ (starEach es env).length = es.length
  | [], _ => ⟨rfl, rfl⟩
  | e :: es, h => by
    obtain ⟨q1, q2⟩ := star_any (env := env) (pos := pos) (es := es) fun x hx => h x (List.mem_cons_of_mem _ hx)
    rw [star_cons (h e List.mem_cons_self)]
    exact ⟨by simpa using q1, by simp [q2]⟩
end Den

set_option autoImplicit false
/-! Data-level denotations: the core language means what the machine does. -/
namespace Den
open PySem PySem.Spec L2

structure OkX (Γ : Gam) (ct : Ct) (X : Cx) : Prop where
  N : X.N = ct.N
  sc : X.env.scope = ct.sc
  kd : ct.sc.kind = .function
  fnc : ∀ x, ct.fnc x = true → X.fn x = true
  nd : X.N.Nodup
  calm : X.calm = true
  xe : X.xe = fun _ _ => False
  gd : X.A.guards = some []
  un : X.A.units + 70 < cLine
  nob : ∀ x ∈ Γ.nob, X.mg x = none
  cs : ∀ p ∈ Γ.cs, ∃ v u, X.mg p.1 = some u ∧ RelV v u ∧ Lit X.K v p.2
  fns : ∀ p ∈ Γ.fns, ∃ k f fd ps, FnG X.prog X.w X.K X.mg X.base k f fd ps (spD X.K p.2) ∧ Room k X.A ∧ X.mg p.1 = some (.ref f) ∧ PySem.W.keepIn X.K (.ref f) = true ∧ Binds X.K fd ps []
section
variable {Γ : Gam} {ct : Ct} {X : Cx}
theorem OkX.gl (ok : OkX Γ ct X) {x : Str} (h : gl ct x = true) : Gl X x := by
  have q : ct.sc.names.lookup x = some .globalImplicit := of_decide_eq_true h
  show X.env.scope.names.lookup x = _
  rw [ok.sc]
  exact q
theorem OkX.vis (ok : OkX Γ ct X) {x : Str} (h : visB ct x = true) : Vis X.env.scope x := by
  unfold visB at h
  unfold Vis
  rw [ok.sc]
  split at h
  · rename_i q; exact .inl q
  · rename_i q; exact .inr (.inl q)
  · rename_i q; exact .inr (.inr q)
  · cases h
theorem OkX.sto (ok : OkX Γ ct X) {x : Str} (h : sto ct x = true) : L2.Loc X.env.scope x ∧ (X.fn x = true ∨ X.env.scope.names.lookup x = some .local) := by
  unfold Den.sto at h
  unfold L2.Loc
  rw [ok.sc]
  split at h
  · rename_i q; exact ⟨.inl q, .inr q⟩
  · rename_i q; exact ⟨.inr q, .inl (ok.fnc x h)⟩
  · cases h
theorem okName_ok {x : Str} (h : okName x = true) : (x == ("__debug__" : Str)) = false ∧ (x == ("__classdict__" : Str)) = false ∧ x ≠ "__name__" := by
  unfold okName at h
  simp only [Bool.and_eq_true, Bool.not_eq_true'] at h
  exact ⟨h.1.1, h.1.2, fun z => by
    have q := h.2
    rw [z] at q
    simp at q⟩
theorem OkX.isVar (ok : OkX Γ ct X) {i : Nat} {x : Str} (h : isVar ct i x = true) : X.N[i]? = some x ∧ Vis X.env.scope x ∧ (x == ("__debug__" : Str)) = false ∧ (x == ("__classdict__" : Str)) = false := by
  unfold Den.isVar at h
  simp only [Bool.and_eq_true, decide_eq_true_eq] at h
  obtain ⟨⟨h1, h2⟩, h3⟩ := h
  obtain ⟨h4, h5, _⟩ := okName_ok h3
  exact ⟨by rw [ok.N]; exact h1, ok.vis h2, h4, h5⟩
theorem OkX.isBlt (ok : OkX Γ ct X) {x : Str} (h : isBlt Γ ct x = true) : Gl X x ∧ X.mg x = none ∧ (x == ("__debug__" : Str)) = false ∧ x ≠ "__name__" := by
  unfold Den.isBlt at h
  simp only [Bool.and_eq_true, decide_eq_true_eq] at h
  obtain ⟨⟨h1, h2⟩, h3⟩ := h
  obtain ⟨h4, _, h6⟩ := okName_ok h3
  exact ⟨ok.gl h1, ok.nob x h2, h4, h6⟩
theorem OkX.isFn (ok : OkX Γ ct X) {j : Nat} {x : Str} (h : isFn Γ ct j x = true) : Gl X x ∧ (x == ("__debug__" : Str)) = false ∧ ∃ d, Γ.fns[j]? = some (x, d) := by
  unfold Den.isFn at h
  simp only [Bool.and_eq_true] at h
  obtain ⟨⟨h1, h2⟩, h3⟩ := h
  obtain ⟨h4, _, _⟩ := okName_ok h2
  refine ⟨ok.gl h1, h4, ?_⟩
  split at h3
  · rename_i p q
    have e : p.1 = x := of_decide_eq_true h3
    exact ⟨p.2, by rw [q, ← e]⟩
  · cases h3
theorem OkX.blk (ok : OkX Γ ct X) {scope : Scope} {own : List (Str × Nat)} (b : blkC ct.N ct.sc scope own = true) (s : Shared) (H : Hp) (Cc : Addr) (cl : List (Str × Addr)) (fp : List Addr) :
    OkX Γ (blkCt ct scope) (X.blk s H scope (compEnvC scope cl Cc X.env) fp) := by
  have kd := (blkOk_by b).kind
  refine ⟨ok.N, ?_, kd, fun x h => h, ok.nd, ok.calm, rfl, ok.gd, ok.un, ok.nob, ok.cs, ok.fns⟩
  show relS scope X.env.scope = relS scope ct.sc
  rw [ok.sc]
theorem OkX.blkOk (ok : OkX Γ ct X) {scope : Scope} {own : List (Str × Nat)} (b : blkC ct.N ct.sc scope own = true) : BlkOk X.N X.env.scope scope own := by
  rw [ok.N, ok.sc]
  exact blkOk_by b
theorem vL {l : Cs} {Γ : Gam} {X : Cx} {es : List Expr} (h : PA X es (tVs X.K (l.denV Γ))) : PA X es (tVs X.K (l.denV Γ)) := h
theorem none_E {e : Expr} : PE X e (tD X.K fun _ => none) := ⟨fun _ _ _ _ _ _ h => by obtain ⟨_, _, _, _, _, q, _⟩ := h; cases q⟩
theorem none_T {e : Expr} : PT X e (tT X.K fun _ => none) := ⟨fun _ _ _ _ _ _ h => by obtain ⟨_, _, _, _, _, q, _⟩ := h; cases q⟩
theorem none_W {e : Expr} : PW X e (tT X.K fun _ => none) := ⟨fun _ _ _ _ _ _ _ h => by obtain ⟨_, _, _, _, _, q, _⟩ := h; cases q⟩
theorem opB_ok (ok : OkX Γ ct X) : ∀ o : Bo, OpR X (binaryOp (bos o)) (rD X.K (opB o))
  | .add => o_add
  | .sub => o_sub
  | .mul => o_mul
  | .div => o_div
  | .mod => o_mod
  | .pow => o_pow
theorem opC_ok (ok : OkX Γ ct X) : ∀ o : Cm, OpR X (compareOp (cms o)) (rD X.K (opC o))
  | .eq => o_eq (by have := ok.un; omega)
  | .ne => o_ne (by have := ok.un; omega)
  | .lt => o_cmp op_lt
  | .le => o_cmp op_le
  | .gt => o_cmp op_gt
  | .ge => o_cmp op_ge
  | .isin => o_in (by have := ok.un; omega)
  | .notin => o_notIn (by have := ok.un; omega)
  | .is => o_is
  | .isnot => o_isNot
theorem opC_bool : ∀ (o : Cm) (d e : D) (r : RR), opC o d e = some r → ∃ b, r = .va (.bool b) := by
  intro o d e r h
  cases o <;> simp only [opC, φEq, φNe, φCmp, φIn, φNotIn, φIs, φIsNot] at h <;> (repeat' (split at h)) <;> first | cases h | skip
  all_goals first | exact ⟨_, rfl⟩ | (cases h; exact ⟨_, rfl⟩)
/-- a built-in's call -/
theorem e_blt {b : Bi} {x : Str} {p pos : Pos} {e : Expr} {es : List Expr} {fs : Fn (List RR)} (ok : OkX Γ ct X) (h : isBlt Γ ct x = true) (hb : bin b = x) (ha : PA X (e :: es) (tVs X.K fs))
    (he : starEach (e :: es) X.env = (false, eval e X.env) :: starEach es X.env) (hpl : (backTo pos (starEach es X.env)).any (·.1) = false) : PE X (.Call (.Name x p) (e :: es) [] pos) (tD X.K (fL (opI b) fs)) := by
  obtain ⟨g, m, db, nm⟩ := ok.isBlt h
  have un := ok.un
  have go : ∀ {id : String}, CallR X (.builtin id) (rL X.K (opI b)) → bootBuiltins x = some (.builtin id) → PE X (.Call (.Name x p) (e :: es) [] pos) (tD X.K (fL (opI b) fs)) :=
    fun c hv => weakE (pe_callB c g m hv ha nm db he hpl) fun _ _ _ q => wL q
  have goT : ∀ {T : String}, CallR X (.type T) (rL X.K (opI b)) → bootBuiltins x = some (.type T) → PE X (.Call (.Name x p) (e :: es) [] pos) (tD X.K (fL (opI b) fs)) :=
    fun c hv => weakE (pe_callTy c g m hv ha nm db he hpl) fun _ _ _ q => wL q
  subst hb
  cases b with
  | len => exact go c_len (by decide +kernel)
  | abs => exact go c_abs (by decide +kernel)
  | int => exact goT c_int (by decide +kernel)
  | max => exact go (c_max ok.calm) (by decide +kernel)
  | min => exact go (c_min ok.calm) (by decide +kernel)
  | sum => exact go (c_sum ok.calm) (by decide +kernel)
  | any => exact go (c_any ok.calm) (by decide +kernel)
  | all => exact go (c_all ok.calm) (by decide +kernel)
  | tuple => exact goT c_tuple (by decide +kernel)
  | list => exact goT c_list (by decide +kernel)
  | sorted => exact go (c_sorted (by omega)) (by decide +kernel)
  | repr => exact go (c_repr ok.gd (by omega)) (by decide +kernel)
theorem plainArgs {l : List Expr} {env : Env} {pos : Pos} (h : ∀ e ∈ l, notStar e = true) : (backTo pos (starEach l env)).any (·.1) = false := by
  have q := (star_any (env := env) (pos := pos) h).1
  unfold backTo
  rw [List.any_map]
  rw [List.any_eq_false]
  intro x hx
  have q2 := List.all_eq_true.mp q x hx
  simp only [Bool.not_eq_true'] at q2
  simp [q2]
theorem fewArgs {l : List Expr} {env : Env} {pos : Pos} (h : ∀ e ∈ l, notStar e = true) (hl : l.length < 25) : ((backTo pos (starEach l env)).all (fun x => !x.1) && (backToKw pos (keywordEach [] env)).all (fun x => x.1.isSome)
      && decide (l.length + ([] : List Keyword).length + (if ([] : List Keyword).isEmpty then 0 else 1) < 30)) = true := by
  have q := (star_any (env := env) (pos := pos) h).1
  have e1 : (backTo pos (starEach l env)).all (fun x => !x.1) = true := by
    unfold backTo
    rw [List.all_map]
    rw [List.all_eq_true]
    intro x hx
    have q2 := List.all_eq_true.mp q x hx
    simpa using q2
  rw [e1]
  have e2 : decide (l.length + ([] : List Keyword).length + (if ([] : List Keyword).isEmpty then 0 else 1) < 30) = true := by
    apply decide_eq_true
    simp
    omega
  rw [e2]
  rfl
mutual
theorem tg_ok (ok : OkX Γ ct X) : ∀ (t : Tg) (e : Expr), t.chk ct e = true → PG X e (tTg X.K t.den t.slots)
  | .nm i, e, h => by
    cases e with
    | Name x pos =>
      have q : (decide (ct.N[i]? = some x) && Den.sto ct x) = true := by simpa only [Tg.chk] using h
      simp only [Bool.and_eq_true, decide_eq_true_eq] at q
      obtain ⟨a, b⟩ := ok.sto q.2
      exact g_name ok.nd (by rw [ok.N]; exact q.1) a b
    | _ => simp only [Tg.chk] at h; cases h
  | .tp ts, e, h => by
    cases e with
    | Tuple es k pos =>
      have q : (Tg.chks ct ts es && decide (ts.length = es.length)) = true := by simpa only [Tg.chk] using h
      simp only [Bool.and_eq_true, decide_eq_true_eq] at q
      obtain ⟨a, b⟩ := asg_len (env := X.env) q.1
      exact g_tup ok.calm (tgs_ok ok ts es q.1) (by rw [a]; exact q.2.symm) b
    | _ => simp only [Tg.chk] at h; cases h
theorem tgs_ok (ok : OkX Γ ct X) : ∀ (ts : List Tg) (es : List Expr), Tg.chks ct ts es = true → PGs X es (tTgs X.K (Tg.dens ts) (Tg.slotsL ts))
  | [], [], _ => gs_nil
  | t :: ts, e :: es, h => by
    simp only [Tg.chks, Bool.and_eq_true] at h
    exact gs_cons (tg_ok ok t e h.1.2) (tgs_ok ok ts es h.2) (asg_cons h.1.1)
  | [], _ :: _, h => by simp [Tg.chks] at h
  | _ :: _, [], h => by simp [Tg.chks] at h
end
end
end Den

set_option autoImplicit false
set_option maxHeartbeats 4000000
/-! Data-level denotations: soundness of the core language. -/
namespace Den
open PySem PySem.Spec L2
section
variable {Γ : Gam}
theorem t_none_of {c : C} {e : Expr} {X : Cx} (h : c.denT Γ = fun _ => none) : PT X e (tT X.K (c.denT Γ)) := by rw [h]; exact none_T
theorem pw_last {op : BoolOp} {e : Expr} {X : Cx} {f : FT} {pos : Pos} (h : PT X e (tT X.K f)) : PW X (.BoolOp op [e] pos) (tT X.K f) := by
  cases op with
  | And => exact pw_and1 h
  | Or => exact pw_or1 h
theorem notStar_of_pos {Γ : Gam} {ct : Ct} {es : Cs} {l : List Expr} (h : es.chkF Γ ct l = true) (hl : (!l.isEmpty) = true) : ∃ e r, l = e :: r ∧ notStar e = true ∧ ∀ x ∈ r, notStar x = true := by
  have q := noStars h
  cases l with
  | nil => cases hl
  | cons e r => exact ⟨e, r, rfl, q e List.mem_cons_self, fun x hx => q x (List.mem_cons_of_mem _ hx)⟩
theorem densV_len {Γ : Gam} : ∀ (ρ : Lo) {c : C} (x : List RR × Lo), (fsCons (fV (c.den Γ)) fsNil) ρ = some x → x.1.length = 1 := fun ρ c x h => fsCons_len fsNil_len ρ x h
theorem inv_rng1 {Γ : Gam} {ct : Ct} {a : C} {tg e : Expr} (h : (Ci.rng1 a).chk Γ ct tg e = true) : ∃ x p e1 pos, e = .Call (.Name x p) [e1] [] pos ∧ isBlt Γ ct x = true ∧ x = ("range" : Str) ∧ notStar e1 = true ∧ a.chk Γ ct false e1 = true := by
  cases e with
  | Call fe l kw pos =>
    cases fe with
    | Name x p =>
      match l, kw with
      | [e1], [] =>
        simp only [Ci.chk, Bool.and_eq_true, decide_eq_true_eq] at h
        exact ⟨x, p, e1, pos, rfl, h.1.1.1, h.1.1.2, h.1.2, h.2⟩
      | [], _ => simp [Ci.chk] at h
      | _ :: _ :: _, _ => simp [Ci.chk] at h
      | [_], _ :: _ => simp [Ci.chk] at h
    | _ => simp [Ci.chk] at h
  | _ => simp [Ci.chk] at h
theorem inv_rng2 {Γ : Gam} {ct : Ct} {a b : C} {tg e : Expr} (h : (Ci.rng2 a b).chk Γ ct tg e = true) : ∃ x p e1 e2 pos, e = .Call (.Name x p) [e1, e2] [] pos ∧ isBlt Γ ct x = true ∧ x = ("range" : Str) ∧ notStar e1 = true ∧ notStar e2 = true ∧ a.chk Γ ct false e1 = true ∧ b.chk Γ ct false e2 = true := by
  cases e with
  | Call fe l kw pos =>
    cases fe with
    | Name x p =>
      match l, kw with
      | [e1, e2], [] =>
        simp only [Ci.chk, Bool.and_eq_true, decide_eq_true_eq] at h
        exact ⟨x, p, e1, e2, pos, rfl, h.1.1.1.1.1, h.1.1.1.1.2, h.1.1.1.2, h.1.1.2, h.1.2, h.2⟩
      | [], _ => simp [Ci.chk] at h
      | [_], _ => simp [Ci.chk] at h
      | _ :: _ :: _ :: _, _ => simp [Ci.chk] at h
      | [_, _], _ :: _ => simp [Ci.chk] at h
    | _ => simp [Ci.chk] at h
  | _ => simp [Ci.chk] at h
theorem inv_enum {Γ : Gam} {ct : Ct} {a : C} {tg e : Expr} (h : (Ci.enum a).chk Γ ct tg e = true) : ∃ x p e1 pos es k tp, e = .Call (.Name x p) [e1] [] pos ∧ isBlt Γ ct x = true ∧ x = ("enumerate" : Str) ∧ notStar e1 = true ∧ a.chk Γ ct false e1 = true ∧ tg = .Tuple es k tp := by
  cases e with
  | Call fe l kw pos =>
    cases fe with
    | Name x p =>
      match l, kw with
      | [e1], [] =>
        simp only [Ci.chk, Bool.and_eq_true, decide_eq_true_eq] at h
        have ht : ∃ es k tp, tg = .Tuple es k tp := by
          cases tg with
          | Tuple es k tp => exact ⟨es, k, tp, rfl⟩
          | _ => cases h.2
        obtain ⟨es, k, tp, ht⟩ := ht
        exact ⟨x, p, e1, pos, es, k, tp, rfl, h.1.1.1.1, h.1.1.1.2, h.1.1.2, h.1.2, ht⟩
      | [], _ => simp [Ci.chk] at h
      | _ :: _ :: _, _ => simp [Ci.chk] at h
      | [_], _ :: _ => simp [Ci.chk] at h
    | _ => simp [Ci.chk] at h
  | _ => simp [Ci.chk] at h
theorem inv_lr {Γ : Gam} {ct : Ct} {t : Bool} {a : C} {e : Expr} (h : (C.lr a).chk Γ ct t e = true) : ∃ x p y p2 e2 pos2 pos, e = .Call (.Name x p) [.Call (.Name y p2) [e2] [] pos2] [] pos ∧ isBlt Γ ct x = true ∧ x = ("list" : Str) ∧ isBlt Γ ct y = true ∧ y = ("range" : Str) ∧ notStar e2 = true ∧ a.chk Γ ct false e2 = true := by
  unfold C.chk at h
  split at h <;> first
    | (cases h; done)
    | (simp only [Bool.and_eq_true, decide_eq_true_eq, Bool.not_eq_true'] at h; rename_i a2 x p y p2 e2 pos2 pos q; cases q; exact ⟨x, p, y, p2, e2, pos2, pos, rfl, h.1.1.1.1.1.1, h.1.1.1.1.1.2, h.1.1.1.1.2, h.1.1.1.2, h.1.1.2, h.1.2⟩)
    | (rename_i q _; cases q; done)
    | (rename_i q; cases q; done)
    | (simp_all; done)
theorem inv_tr {Γ : Gam} {ct : Ct} {t : Bool} {a : C} {e : Expr} (h : (C.tr a).chk Γ ct t e = true) : ∃ x p y p2 e2 pos2 pos, e = .Call (.Name x p) [.Call (.Name y p2) [e2] [] pos2] [] pos ∧ isBlt Γ ct x = true ∧ x = ("tuple" : Str) ∧ isBlt Γ ct y = true ∧ y = ("range" : Str) ∧ notStar e2 = true ∧ a.chk Γ ct false e2 = true := by
  unfold C.chk at h
  split at h <;> first
    | (cases h; done)
    | (simp only [Bool.and_eq_true, decide_eq_true_eq, Bool.not_eq_true'] at h; rename_i a2 x p y p2 e2 pos2 pos q; cases q; exact ⟨x, p, y, p2, e2, pos2, pos, rfl, h.1.1.1.1.1.1, h.1.1.1.1.1.2, h.1.1.1.1.2, h.1.1.1.2, h.1.1.2, h.1.2⟩)
    | (rename_i q _; cases q; done)
    | (rename_i q; cases q; done)
    | (simp_all; done)
theorem inv_isi {Γ : Gam} {ct : Ct} {t : Bool} {a : C} {ty : Ty} {e : Expr} (h : (C.isi a ty).chk Γ ct t e = true) : ∃ x p y p2 e2 pos, e = .Call (.Name x p) [e2, .Name y p2] [] pos ∧ isBlt Γ ct x = true ∧ x = ("isinstance" : Str) ∧ notStar e2 = true ∧ isBlt Γ ct y = true ∧ tyS ty = y ∧ a.chk Γ ct false e2 = true := by
  unfold C.chk at h
  split at h <;> first
    | (cases h; done)
    | (simp only [Bool.and_eq_true, decide_eq_true_eq, Bool.not_eq_true'] at h; rename_i a2 ty2 x p e2 y p2 pos q; cases q; exact ⟨x, p, y, p2, e2, pos, rfl, h.1.1.1.1.1, h.1.1.1.1.2, h.1.1.1.2, h.1.1.2, h.1.2, h.2⟩)
    | (rename_i q _; cases q; done)
    | (rename_i q; cases q; done)
    | (simp_all; done)
theorem inv_ext {Γ : Gam} {ct : Ct} {t : Bool} {a : C} {i : Nat} {e : Expr} (h : (C.ext i a).chk Γ ct t e = true) : ∃ x p nm apos e2 pos, e = .Call (.Attribute (.Name x p) nm apos) [e2] [] pos ∧ isVar ct i x = true ∧ ("extend" : Str) = nm ∧ notStar e2 = true ∧ (apos.endLine == pos.line) = true ∧ a.chk Γ ct false e2 = true := by
  unfold C.chk at h
  split at h <;> first
    | (cases h; done)
    | (simp only [Bool.and_eq_true, decide_eq_true_eq, Bool.not_eq_true'] at h; rename_i i2 a2 x p nm apos e2 pos q; cases q; exact ⟨x, p, nm, apos, e2, pos, rfl, h.1.1.1.1.1, h.1.1.1.1.2, h.1.1.1.2, h.1.1.2, h.1.2⟩)
    | (rename_i q _; cases q; done)
    | (rename_i q; cases q; done)
    | (simp_all; done)
theorem inv_pop {Γ : Gam} {ct : Ct} {t : Bool} {i : Nat} {e : Expr} (h : (C.pop i).chk Γ ct t e = true) : ∃ x p apos pos, e = .Call (.Attribute (.Name x p) "pop" apos) [] [] pos ∧ isVar ct i x = true ∧ (apos.endLine == pos.line) = true := by
  unfold C.chk at h
  split at h <;> first
    | (cases h; done)
    | (simp only [Bool.and_eq_true, decide_eq_true_eq, Bool.not_eq_true'] at h; rename_i i2 x p nm apos pos q; cases q; obtain ⟨⟨⟨h1, h2⟩, h3⟩, _⟩ := h; subst h2; exact ⟨x, p, apos, pos, rfl, h1, h3⟩)
    | (rename_i q _; cases q; done)
    | (rename_i q; cases q; done)
    | (simp_all; done)
theorem inv_bits {Γ : Gam} {ct : Ct} {t : Bool} {a : C} {e : Expr} (h : (C.bits a).chk Γ ct t e = true) : ∃ x op y p apos pos, e = .Call (.Attribute (.BinOp x op y p) "bit_length" apos) [] [] pos ∧ (apos.endLine == pos.line) = true ∧ a.chk Γ ct false (.BinOp x op y p) = true := by
  unfold C.chk at h
  split at h <;> first
    | (cases h; done)
    | (simp only [Bool.and_eq_true, decide_eq_true_eq, Bool.not_eq_true'] at h; rename_i a2 x op y p nm apos pos q; cases q; obtain ⟨⟨⟨h1, h2⟩, h3⟩, _⟩ := h; subst h1; exact ⟨x, op, y, p, apos, pos, rfl, h2, h3⟩)
    | (rename_i q _; cases q; done)
    | (rename_i q; cases q; done)
    | (simp_all; done)
theorem inv_lc2 {Γ : Gam} {ct : Ct} {t : Bool} {own : List (Str × Nat)} {elt : C} {tg : Tg} {it : Ci} {ifs : Co} {tg1 : Tg} {it1 : Ci} {ifs1 : Co} {e : Expr} (h : (C.lc2 own elt tg it ifs tg1 it1 ifs1).chk Γ ct t e = true) :
    ∃ el t' i fs t1' i1 fs1 scope pos, e = .ListComp el [⟨t', i, fs, 0⟩, ⟨t1', i1, fs1, 0⟩] scope pos ∧ blkC ct.N ct.sc scope own = true ∧ it.chk Γ ct t' i = true ∧ noSet i = true ∧ noSet i1 = true ∧ tg.chk (blkCt ct scope) t' = true ∧ tg1.chk (blkCt ct scope) t1' = true ∧
    (∀ j ∈ tg.slots, j ∈ own.map (·.2)) ∧ (∀ j ∈ tg1.slots, j ∈ own.map (·.2)) ∧ elt.chk Γ (blkCt ct scope) false el = true ∧ ifs.chkI Γ (blkCt ct scope) fs = true ∧ ifs1.chkI Γ (blkCt ct scope) fs1 = true ∧ it1.chk Γ (blkCt ct scope) t1' i1 = true := by
  unfold C.chk at h
  split at h <;> first
    | (cases h; done)
    | (simp only [Bool.and_eq_true, decide_eq_true_eq, Bool.not_eq_true'] at h
       rename_i own2 elt2 tg2 it2 ifs2 tg12 it12 ifs12 el t' i fs as t1' i1 fs1 as1 scope pos q
       cases q
       obtain ⟨⟨⟨⟨⟨⟨⟨⟨⟨a0, a1⟩, h1⟩, ⟨h2, h3⟩, h3'⟩, h4, h4'⟩, h5, h5'⟩, h6⟩, h7, h7'⟩, h8⟩, _⟩ := h
       subst a0
       subst a1
       exact ⟨el, t', i, fs, t1', i1, fs1, scope, pos, rfl, h1, h2, h3, h3', h4, h4', fun j hj => of_decide_eq_true (List.all_eq_true.mp h5 j hj), fun j hj => of_decide_eq_true (List.all_eq_true.mp h5' j hj), h6, h7, h7', h8⟩)
    | (rename_i q _; cases q; done)
    | (rename_i q; cases q; done)
    | (simp_all; done)
theorem inv_chn {Γ : Gam} {ct : Ct} {t : Bool} {o1 o2 : Cm} {a b c : C} {e : Expr} (h : (C.chn o1 o2 a b c).chk Γ ct t e = true) : ∃ x op1 op2 y z pos, e = .Compare x [op1, op2] [y, z] pos ∧ cms o1 = op1 ∧ cms o2 = op2 ∧ a.chk Γ ct false x = true ∧ b.chk Γ ct false y = true ∧ c.chk Γ ct false z = true ∧ lastMarks [op1, op2] [y, z] = false := by
  unfold C.chk at h
  split at h <;> first
    | (cases h; done)
    | (simp only [Bool.and_eq_true, decide_eq_true_eq, Bool.not_eq_true'] at h; rename_i o3 o4 a2 b2 c2 x op1 op2 y z pos q; cases q; exact ⟨x, op1, op2, y, z, pos, rfl, h.1.1.1.1.1, h.1.1.1.1.2, h.1.1.1.2, h.1.1.2, h.1.2, h.2⟩)
    | (rename_i q _; cases q; done)
    | (rename_i q; cases q; done)
    | (simp_all; done)
theorem inv_zip {Γ : Gam} {ct : Ct} {a b : C} {tg e : Expr} (h : (Ci.zip a b).chk Γ ct tg e = true) : ∃ x p e1 e2 pos es k tp, e = .Call (.Name x p) [e1, e2] [] pos ∧ isBlt Γ ct x = true ∧ x = ("zip" : Str) ∧ notStar e1 = true ∧ notStar e2 = true ∧ a.chk Γ ct false e1 = true ∧ b.chk Γ ct false e2 = true ∧ tg = .Tuple es k tp := by
  cases e with
  | Call fe l kw pos =>
    cases fe with
    | Name x p =>
      match l, kw with
      | [e1, e2], [] =>
        simp only [Ci.chk, Bool.and_eq_true, decide_eq_true_eq] at h
        have ht : ∃ es k tp, tg = .Tuple es k tp := by
          cases tg with
          | Tuple es k tp => exact ⟨es, k, tp, rfl⟩
          | _ => cases h.2
        obtain ⟨es, k, tp, ht⟩ := ht
        exact ⟨x, p, e1, e2, pos, es, k, tp, rfl, h.1.1.1.1.1.1, h.1.1.1.1.1.2, h.1.1.1.1.2, h.1.1.1.2, h.1.1.2, h.1.2, ht⟩
      | [], _ => simp [Ci.chk] at h
      | [_], _ => simp [Ci.chk] at h
      | _ :: _ :: _ :: _, _ => simp [Ci.chk] at h
      | [_, _], _ :: _ => simp [Ci.chk] at h
    | _ => simp [Ci.chk] at h
  | _ => simp [Ci.chk] at h
theorem inv_rngD {Γ : Gam} {ct : Ct} {a b c : C} {tg e : Expr} (h : (Ci.rngD a b c).chk Γ ct tg e = true) : ∃ x p e1 e2 e3 pos, e = .Call (.Name x p) [e1, e2, e3] [] pos ∧ isBlt Γ ct x = true ∧ x = ("range" : Str) ∧ notStar e1 = true ∧ notStar e2 = true ∧ notStar e3 = true ∧ a.chk Γ ct false e1 = true ∧ b.chk Γ ct false e2 = true ∧ c.chk Γ ct false e3 = true := by
  cases e with
  | Call fe l kw pos =>
    cases fe with
    | Name x p =>
      match l, kw with
      | [e1, e2, e3], [] =>
        simp only [Ci.chk, Bool.and_eq_true, decide_eq_true_eq] at h
        exact ⟨x, p, e1, e2, e3, pos, rfl, h.1.1.1.1.1, h.1.1.1.1.2, h.1.1.1.2.1.1, h.1.1.1.2.1.2, h.1.1.1.2.2, h.1.1.2, h.1.2, h.2⟩
      | [], _ => simp [Ci.chk] at h
      | [_], _ => simp [Ci.chk] at h
      | [_, _], _ => simp [Ci.chk] at h
      | _ :: _ :: _ :: _ :: _, _ => simp [Ci.chk] at h
      | [_, _, _], _ :: _ => simp [Ci.chk] at h
    | _ => simp [Ci.chk] at h
  | _ => simp [Ci.chk] at h
mutual
theorem snd : ∀ (c : C) (ct : Ct) (X : Cx) (e : Expr), OkX Γ ct X → (c.chk Γ ct false e = true → PE X e (tD X.K (c.den Γ))) ∧ (c.chk Γ ct true e = true → PT X e (tT X.K (c.denT Γ)))
  | .var i, ct, X, e, ok => by
    cases e with
    | Name x pos =>
      have go : isVar ct i x = true → PE X (.Name x pos) (tD X.K (fVar i)) := fun q => by
        obtain ⟨a, b, c, d⟩ := ok.isVar q
        exact e_var a b c d
      exact ⟨fun h => go (by simpa only [C.chk] using h), fun h => t_val (go (by simpa only [C.chk] using h)) (plain_test rfl)⟩
    | _ => exact ⟨fun h => (by simp [C.chk] at h), fun h => (by simp [C.chk] at h)⟩
  | .int i, ct, X, e, ok => by
    refine ⟨fun h => ?_, fun h => none_T⟩
    cases e with
    | Constant v k pos =>
      cases v with
      | int j =>
        simp only [C.chk, Bool.and_eq_true, decide_eq_true_eq] at h
        rw [← h.1]
        exact e_lit pe_int (.int i)
      | _ => simp [C.chk] at h
    | _ => simp [C.chk] at h
  | .str i, ct, X, e, ok => by
    refine ⟨fun h => ?_, fun h => none_T⟩
    cases e with
    | Constant v k pos =>
      cases v with
      | str j =>
        simp only [C.chk, Bool.and_eq_true, decide_eq_true_eq] at h
        rw [← h.1]
        exact e_lit pe_str (.str i)
      | _ => simp [C.chk] at h
    | _ => simp [C.chk] at h
  | .bool i, ct, X, e, ok => by
    refine ⟨fun h => ?_, fun h => none_T⟩
    cases e with
    | Constant v k pos =>
      cases v with
      | bool j =>
        simp only [C.chk, Bool.and_eq_true, decide_eq_true_eq] at h
        rw [← h.1]
        exact e_lit pe_bl (.bl i)
      | _ => simp [C.chk] at h
    | _ => simp [C.chk] at h
  | .non, ct, X, e, ok => by
    refine ⟨fun h => ?_, fun h => none_T⟩
    cases e with
    | Constant v k pos =>
      cases v with
      | none => exact e_lit pe_non .non
      | _ => simp [C.chk] at h
    | _ => simp [C.chk] at h
  | .glo j, ct, X, e, ok => by
    refine ⟨fun h => ?_, fun h => none_T⟩
    cases e with
    | Name x pos =>
      simp only [C.chk, Bool.and_eq_true] at h
      obtain ⟨⟨⟨h1, h2⟩, _⟩, h3⟩ := h
      split at h3
      · rename_i p q
        have e1 : p.1 = x := of_decide_eq_true h3
        obtain ⟨v, u, a, b, c⟩ := ok.cs p (List.mem_of_getElem? q)
        rw [e1] at a
        have q2 : C.den Γ (.glo j) = fC p.2 := by simp only [C.den, q]
        rw [q2]
        exact e_lit (pe_glob (ok.gl h1) a b (okName_ok h2).1) c
      · cases h3
    | _ => simp [C.chk] at h
  | .tup es, ct, X, e, ok => by
    refine ⟨fun h => ?_, fun h => none_T⟩
    cases e with
    | Tuple l k pos =>
      simp only [C.chk, Bool.and_eq_true] at h
      exact e_tup (sndF es ct X l ok h.1)
    | _ => simp [C.chk] at h
  | .lst es, ct, X, e, ok => by
    refine ⟨fun h => ?_, fun h => none_T⟩
    cases e with
    | List l pos =>
      simp only [C.chk, Bool.and_eq_true] at h
      exact e_lst (sndF es ct X l ok h.1)
    | _ => simp [C.chk] at h
  | .bin o a b, ct, X, e, ok => by
    refine ⟨fun h => ?_, fun h => none_T⟩
    cases e with
    | BinOp x op y pos =>
      simp only [C.chk, Bool.and_eq_true, decide_eq_true_eq] at h
      obtain ⟨⟨⟨h1, h2⟩, h3⟩, _⟩ := h
      rw [← h1]
      exact e_bin (opB_ok ok o) ((snd a ct X x ok).1 h2) ((snd b ct X y ok).1 h3)
    | _ => simp [C.chk] at h
  | .neg a, ct, X, e, ok => by
    refine ⟨fun h => ?_, fun h => none_T⟩
    cases e with
    | UnaryOp op x pos =>
      cases op with
      | USub =>
        simp only [C.chk, Bool.and_eq_true] at h
        exact e_un o_neg ((snd a ct X x ok).1 h.1)
      | _ => simp [C.chk] at h
    | _ => simp [C.chk] at h
  | .not a, ct, X, e, ok => by
    cases e with
    | UnaryOp op x pos =>
      cases op with
      | Not => exact ⟨fun h => e_not ((snd a ct X x ok).1 (by simpa only [C.chk] using h)), fun h => t_not ((snd a ct X x ok).2 (by simpa only [C.chk] using h))⟩
      | _ => exact ⟨fun h => (by simp [C.chk] at h), fun h => (by simp [C.chk] at h)⟩
    | _ => exact ⟨fun h => (by simp [C.chk] at h), fun h => (by simp [C.chk] at h)⟩
  | .and es, ct, X, e, ok => by
    cases e with
    | BoolOp op l pos =>
      cases op with
      | And => exact ⟨fun h => (sndA es ct X l pos ok).1 (by simpa only [C.chk] using h), fun h => ((sndA es ct X l pos ok).2 (by simpa only [C.chk] using h)).pt⟩
      | _ => exact ⟨fun h => (by simp [C.chk] at h), fun h => (by simp [C.chk] at h)⟩
    | _ => exact ⟨fun h => (by simp [C.chk] at h), fun h => (by simp [C.chk] at h)⟩
  | .or es, ct, X, e, ok => by
    cases e with
    | BoolOp op l pos =>
      cases op with
      | Or => exact ⟨fun h => (sndOr es ct X l pos ok).1 (by simpa only [C.chk] using h), fun h => ((sndOr es ct X l pos ok).2 (by simpa only [C.chk] using h)).pt⟩
      | _ => exact ⟨fun h => (by simp [C.chk] at h), fun h => (by simp [C.chk] at h)⟩
    | _ => exact ⟨fun h => (by simp [C.chk] at h), fun h => (by simp [C.chk] at h)⟩
  | .cmp o a b, ct, X, e, ok => by
    cases e with
    | Compare x ops ys pos =>
      match ops, ys with
      | [op], [y] =>
        have go : ∀ t, C.chk Γ ct t (.cmp o a b) (.Compare x [op] [y] pos) = true → cms o = op ∧ PE X x (tD X.K (a.den Γ)) ∧ PE X y (tD X.K (b.den Γ)) ∧ behindInMarks op y = false := fun t h => by
          simp only [C.chk, Bool.and_eq_true, decide_eq_true_eq, Bool.not_eq_true'] at h
          obtain ⟨⟨⟨h1, h2⟩, h3⟩, h4⟩ := h
          exact ⟨h1, (snd a ct X x ok).1 h2, (snd b ct X y ok).1 h3, h4⟩
        refine ⟨fun h => ?_, fun h => ?_⟩
        · obtain ⟨h1, h2, h3, h4⟩ := go _ h
          subst h1
          exact e_cmp (opC_ok ok o) h2 h3 h4
        · obtain ⟨h1, h2, h3, h4⟩ := go _ h
          subst h1
          exact t_cmp (opC_ok ok o) h2 h3 h4 (opC_bool o)
      | [], _ => exact ⟨fun h => (by simp [C.chk] at h), fun h => (by simp [C.chk] at h)⟩
      | [_], [] => exact ⟨fun h => (by simp [C.chk] at h), fun h => (by simp [C.chk] at h)⟩
      | [_], _ :: _ :: _ => exact ⟨fun h => (by simp [C.chk] at h), fun h => (by simp [C.chk] at h)⟩
      | _ :: _ :: _, _ => exact ⟨fun h => (by simp [C.chk] at h), fun h => (by simp [C.chk] at h)⟩
    | _ => exact ⟨fun h => (by simp [C.chk] at h), fun h => (by simp [C.chk] at h)⟩
  | .ite c a b, ct, X, e, ok => by
    refine ⟨fun h => ?_, fun h => none_T⟩
    cases e with
    | IfExp x y z pos =>
      simp only [C.chk, Bool.and_eq_true] at h
      obtain ⟨⟨⟨h1, h2⟩, h3⟩, _⟩ := h
      exact e_if ((snd c ct X x ok).2 h1) ((snd a ct X y ok).1 h2) ((snd b ct X z ok).1 h3)
    | _ => simp [C.chk] at h
  | .call j es, ct, X, e, ok => by
    have go : ∀ t, C.chk Γ ct t (.call j es) e = true → PE X e (tD X.K (C.den Γ (.call j es))) ∧ plainT e = true := fun t h => by
      cases e with
      | Call fe l kw pos =>
        cases fe with
        | Name x p =>
          cases kw with
          | nil =>
            simp only [C.chk, Bool.and_eq_true] at h
            obtain ⟨⟨h1, h2⟩, h3⟩ := h
            obtain ⟨a, r, rfl, h4, h5⟩ := notStar_of_pos h3 h2
            obtain ⟨g, db, d, q⟩ := ok.isFn h1
            obtain ⟨k, f, fd, ps, F, hr, hm, hk, hb⟩ := ok.fns _ (List.mem_of_getElem? q)
            have q2 : C.den Γ (.call j es) = fCall d (es.denF Γ) := by simp only [C.den, q]
            rw [q2]
            exact ⟨e_call F hr ok.gd g hm hk hb (sndF es ct X _ ok h3) db (star_cons h4) (plainArgs h5), rfl⟩
          | cons _ _ => simp [C.chk] at h
        | _ => simp [C.chk] at h
      | _ => simp [C.chk] at h
    refine ⟨fun h => (go _ h).1, fun h => ?_⟩
    obtain ⟨h1, h2⟩ := go _ h
    have q : C.denT Γ (.call j es) = fT (C.den Γ (.call j es)) := by simp only [C.den, C.denT]
    rw [q]
    exact t_val h1 (plain_test h2)
  | .callM j i es, ct, X, e, ok => by
    have go : ∀ t, C.chk Γ ct t (.callM j i es) e = true → PE X e (tD X.K (C.den Γ (.callM j i es))) ∧ plainT e = true := fun t h => by
      cases e with
      | Call fe l kw pos =>
        cases fe with
        | Name x p =>
          cases kw with
          | nil =>
            cases l with
            | nil => simp [C.chk] at h
            | cons b l =>
              cases b with
              | Name y yp =>
                simp only [C.chk, Bool.and_eq_true] at h
                obtain ⟨⟨h1, h2⟩, h3⟩ := h
                obtain ⟨g, db, d, q⟩ := ok.isFn h1
                obtain ⟨k, f, fd, ps, F, hr, hm, hk, hb⟩ := ok.fns _ (List.mem_of_getElem? q)
                obtain ⟨v1, v2, v3, v4⟩ := ok.isVar h2
                have q2 : C.den Γ (.callM j i es) = fCallM d i (es.denF Γ) := by simp only [C.den, q]
                rw [q2]
                exact ⟨e_callM F hr ok.gd g hm hk hb v1 v2 v3 v4 (sndF es ct X _ ok h3) db (plainArgs (noStars h3)), rfl⟩
              | _ => simp [C.chk] at h
          | cons _ _ => simp [C.chk] at h
        | _ => simp [C.chk] at h
      | _ => simp [C.chk] at h
    refine ⟨fun h => (go _ h).1, fun h => ?_⟩
    obtain ⟨h1, h2⟩ := go _ h
    have q : C.denT Γ (.callM j i es) = fT (C.den Γ (.callM j i es)) := by simp only [C.den, C.denT]
    rw [q]
    exact t_val h1 (plain_test h2)
  | .blt b es, ct, X, e, ok => by
    have go : ∀ t, C.chk Γ ct t (.blt b es) e = true → PE X e (tD X.K (C.den Γ (.blt b es))) ∧ plainT e = true := fun t h => by
      cases e with
      | Call fe l kw pos =>
        cases fe with
        | Name x p =>
          cases kw with
          | nil =>
            simp only [C.chk, Bool.and_eq_true, decide_eq_true_eq] at h
            obtain ⟨⟨⟨h1, h2⟩, h3⟩, h4⟩ := h
            obtain ⟨a, r, rfl, h5, h6⟩ := notStar_of_pos h4 h3
            have q2 : C.den Γ (.blt b es) = fL (opI b) (es.denV Γ) := by simp only [C.den]
            rw [q2]
            exact ⟨e_blt ok h1 h2 (sndV es ct X _ ok h4) (star_cons h5) (plainArgs h6), rfl⟩
          | cons _ _ => simp [C.chk] at h
        | _ => simp [C.chk] at h
      | _ => simp [C.chk] at h
    refine ⟨fun h => (go _ h).1, fun h => ?_⟩
    obtain ⟨h1, h2⟩ := go _ h
    have q : C.denT Γ (.blt b es) = fT (C.den Γ (.blt b es)) := by simp only [C.den, C.denT]
    rw [q]
    exact t_val h1 (plain_test h2)
  | .mut m i es, ct, X, e, ok => by
    refine ⟨fun h => ?_, fun h => none_T⟩
    cases e with
    | Call fe l kw pos =>
      cases fe with
      | Attribute o nm apos =>
        cases o with
        | Name x p =>
          cases kw with
          | nil =>
            simp only [C.chk, Bool.and_eq_true, decide_eq_true_eq] at h
            obtain ⟨⟨⟨⟨⟨⟨h1, h2⟩, h3⟩, h4⟩, h5⟩, h6⟩, _⟩ := h
            obtain ⟨a, r, rfl, h7, h8⟩ := notStar_of_pos h6 h3
            obtain ⟨v1, v2, v3, v4⟩ := ok.isVar h1
            subst h2
            have hF := sndF es ct X _ ok h6
            have few := fewArgs (env := X.env) (pos := pos) (noStars h6) h4
            have q2 : C.den Γ (.mut m i es) = fMut i (opM m) (es.denF Γ) := by simp only [C.den]
            rw [q2]
            cases m with
            | append => exact e_mut PySem.F.slot_list_append PySem.F.type_list_append m_app v1 v2 v3 v4 hF few h5 (star_cons h7) (plainArgs h8)
            | insert => exact e_mut PySem.F.slot_list_insert PySem.F.type_list_insert m_ins v1 v2 v3 v4 hF few h5 (star_cons h7) (plainArgs h8)
          | cons _ _ => simp [C.chk] at h
        | _ => simp [C.chk] at h
      | _ => simp [C.chk] at h
    | _ => simp [C.chk] at h
  | .ix a b, ct, X, e, ok => by
    have go : ∀ t, C.chk Γ ct t (.ix a b) e = true → PE X e (tD X.K (C.den Γ (.ix a b))) ∧ plainT e = true := fun t h => by
      cases e with
      | Subscript x y pos =>
        simp only [C.chk, Bool.and_eq_true] at h
        obtain ⟨⟨h1, h2⟩, h3⟩ := h
        have q2 : C.den Γ (.ix a b) = f2 φIx (a.den Γ) (b.den Γ) := by simp only [C.den]
        rw [q2]
        exact ⟨e_ix o_ix ((snd a ct X x ok).1 h1) ((snd b ct X y ok).1 h2) (pix_ok h3), rfl⟩
      | _ => simp [C.chk] at h
    refine ⟨fun h => (go _ h).1, fun h => ?_⟩
    obtain ⟨h1, h2⟩ := go _ h
    have q : C.denT Γ (.ix a b) = fT (C.den Γ (.ix a b)) := by simp only [C.den, C.denT]
    rw [q]
    exact t_val h1 (plain_test h2)
  | .sl a lo hi, ct, X, e, ok => by
    refine ⟨fun h => ?_, fun h => none_T⟩
    cases e with
    | Subscript x y pos =>
      cases y with
      | Slice l u st p =>
        cases st with
        | none =>
          simp only [C.chk, Bool.and_eq_true] at h
          obtain ⟨⟨⟨h1, h2⟩, h3⟩, _⟩ := h
          exact e_sl ((snd a ct X x ok).1 h1) (sndP lo ct X l ok h2) (sndP hi ct X u ok h3)
        | some _ => simp [C.chk] at h
      | _ => simp [C.chk] at h
    | _ => simp [C.chk] at h
  | .lc own elt tg it ifs, ct, X, e, ok => by
    have go : ∀ t, C.chk Γ ct t (.lc own elt tg it ifs) e = true → PE X e (tD X.K (C.den Γ (.lc own elt tg it ifs))) ∧ plainT e = true := fun t h => by
      cases e with
      | ListComp el gs scope pos =>
        match gs with
        | [⟨t', i, fs, as⟩] =>
          simp only [C.chk, Bool.and_eq_true, decide_eq_true_eq] at h
          obtain ⟨⟨⟨⟨⟨⟨⟨has, h1⟩, h2⟩, h3⟩, h4⟩, h5⟩, h6⟩, h7⟩ := h
          subst has
          have q2 : C.den Γ (.lc own elt tg it ifs) = fLc (own.map (·.2)) (it.den Γ) tg.den (ifs.denT Γ) (elt.den Γ) := by simp only [C.den]
          rw [q2]
          refine ⟨e_lc (ws := tg.slots) ok.calm ok.nd (sndI it ct X t' i ok h2) (ok.blkOk h1) (fun j hj => of_decide_eq_true (List.all_eq_true.mp h5 j hj)) (fun s H Cc cl fp => ?_) (fun s H Cc cl fp => ?_) (fun s H Cc cl fp => ?_) (set_iter h3), rfl⟩
          · exact tg_ok (ok.blk h1 s H Cc cl fp) tg t' h4
          · exact sndQ ifs _ _ fs (ok.blk h1 s H Cc cl fp) h7
          · exact (snd elt _ _ el (ok.blk h1 s H Cc cl fp)).1 h6
        | [] => simp [C.chk] at h
        | _ :: _ :: _ => simp [C.chk] at h
      | _ => simp [C.chk] at h
    refine ⟨fun h => (go _ h).1, fun h => ?_⟩
    obtain ⟨h1, h2⟩ := go _ h
    have q : C.denT Γ (.lc own elt tg it ifs) = fT (C.den Γ (.lc own elt tg it ifs)) := by simp only [C.den, C.denT]
    rw [q]
    exact t_val h1 (plain_test h2)
  | .lr a, ct, X, e, ok => by
    refine ⟨fun h => ?_, fun h => none_T⟩
    obtain ⟨x, p, y, p2, e2, pos2, pos, rfl, h1, rfl, h3, rfl, h5, h6⟩ := inv_lr h
    obtain ⟨g, m, _, _⟩ := ok.isBlt h1
    obtain ⟨g2, m2, _, _⟩ := ok.isBlt h3
    exact e_lr1 ok.calm g m g2 m2 ((snd a ct X e2 ok).1 h6) (star_cons h5)
  | .tr a, ct, X, e, ok => by
    refine ⟨fun h => ?_, fun h => none_T⟩
    obtain ⟨x, p, y, p2, e2, pos2, pos, rfl, h1, rfl, h3, rfl, h5, h6⟩ := inv_tr h
    obtain ⟨g, m, _, _⟩ := ok.isBlt h1
    obtain ⟨g2, m2, _, _⟩ := ok.isBlt h3
    exact e_tr1 ok.calm g m g2 m2 ((snd a ct X e2 ok).1 h6) (star_cons h5)
  | .rep a b, ct, X, e, ok => by
    refine ⟨fun h => ?_, fun h => none_T⟩
    cases e with
    | BinOp x op y pos =>
      cases op with
      | Mult =>
        simp only [C.chk, Bool.and_eq_true] at h
        exact e_rep ((snd a ct X x ok).1 h.1.1) ((snd b ct X y ok).1 h.1.2)
      | _ => simp [C.chk] at h
    | _ => simp [C.chk] at h
  | .tupD ds, ct, X, e, ok => by
    refine ⟨fun h => ?_, fun h => none_T⟩
    cases e with
    | Tuple l k pos =>
      simp only [C.chk, Bool.and_eq_true] at h
      exact e_tup (sndD ds ct X l ok h.1)
    | _ => simp [C.chk] at h
  | .lstD ds, ct, X, e, ok => by
    refine ⟨fun h => ?_, fun h => none_T⟩
    cases e with
    | List l pos =>
      simp only [C.chk, Bool.and_eq_true] at h
      exact e_lst (sndD ds ct X l ok h.1)
    | _ => simp [C.chk] at h
  | .isi a t, ct, X, e, ok => by
    have go : ∀ tt, C.chk Γ ct tt (.isi a t) e = true → PE X e (tD X.K (f1 (φIsi t) (a.den Γ))) ∧ plainT e = true := fun tt h => by
      obtain ⟨x, p, y, p2, e2, pos, rfl, h1, h2, h3, h4, h5, h6⟩ := inv_isi h
      obtain ⟨g, m, _, _⟩ := ok.isBlt h1
      obtain ⟨g2, m2, _, _⟩ := ok.isBlt h4
      exact ⟨e_isi h2 g m g2 m2 h5 ((snd a ct X e2 ok).1 h6) (star_cons h3), rfl⟩
    exact ⟨fun h => (go _ h).1, fun h => t_val (go _ h).1 (plain_test (go _ h).2)⟩
  | .chn o1 o2 a b c, ct, X, e, ok => by
    refine ⟨fun h => ?_, fun h => ?_⟩
    · obtain ⟨x, op1, op2, y, z, pos, rfl, rfl, rfl, h3, h4, h5, h6⟩ := inv_chn h
      exact e_chn (opC_ok ok o1) (opC_ok ok o2) ((snd a ct X x ok).1 h3) ((snd b ct X y ok).1 h4) ((snd c ct X z ok).1 h5) h6
    · obtain ⟨x, op1, op2, y, z, pos, rfl, rfl, rfl, h3, h4, h5, h6⟩ := inv_chn h
      exact t_chn (opC_ok ok o1) (opC_ok ok o2) ((snd a ct X x ok).1 h3) ((snd b ct X y ok).1 h4) ((snd c ct X z ok).1 h5) h6 (opC_bool o2)
  | .ext i a, ct, X, e, ok => by
    refine ⟨fun h => ?_, fun h => none_T⟩
    obtain ⟨x, p, nm, apos, e2, pos, rfl, h1, rfl, h3, h4, h5⟩ := inv_ext h
    obtain ⟨v1, v2, v3, v4⟩ := ok.isVar h1
    exact e_ext v1 v2 v3 v4 ((snd a ct X e2 ok).1 h5) (star_cons h3) (fewArgs (l := [e2]) (env := X.env) (pos := pos) (fun y hy => by rw [List.mem_singleton.mp hy]; exact h3) (by simp)) h4
  | .lc2 own elt tg it ifs tg1 it1 ifs1, ct, X, e, ok => by
    refine ⟨fun h => ?_, fun h => none_T⟩
    obtain ⟨el, t', i, fs, t1', i1, fs1, scope, pos, rfl, h1, h2, h3, h3', h4, h4', h5, h5', h6, h7, h7', h8⟩ := inv_lc2 h
    have q2 : C.den Γ (.lc2 own elt tg it ifs tg1 it1 ifs1) = fLc2 (own.map (·.2)) tg1.slots (it.den Γ) tg.den (ifs.denT Γ) (it1.den Γ) tg1.den (ifs1.denT Γ) (elt.den Γ) := by simp only [C.den]
    rw [q2]
    refine e_lc2 (ws := tg.slots) ok.calm ok.nd (sndI it ct X t' i ok h2) (ok.blkOk h1) h5 h5' (fun s H Cc cl fp => ?_) (fun s H Cc cl fp => ?_) (fun s H Cc cl fp => ?_) (fun s H Cc cl fp => ?_) (fun s H Cc cl fp => ?_) (fun s H Cc cl fp => ?_) (set_iter h3) (fun _ => set_iter h3')
    · exact tg_ok (ok.blk h1 s H Cc cl fp) tg t' h4
    · exact sndQ ifs _ _ fs (ok.blk h1 s H Cc cl fp) h7
    · exact sndI it1 _ _ t1' i1 (ok.blk h1 s H Cc cl fp) h8
    · exact tg_ok (ok.blk h1 s H Cc cl fp) tg1 t1' h4'
    · exact sndQ ifs1 _ _ fs1 (ok.blk h1 s H Cc cl fp) h7'
    · exact (snd elt _ _ el (ok.blk h1 s H Cc cl fp)).1 h6
  | .pop i, ct, X, e, ok => by
    refine ⟨fun h => ?_, fun h => none_T⟩
    obtain ⟨x, p, apos, pos, rfl, h1, h4⟩ := inv_pop h
    obtain ⟨v1, v2, v3, v4⟩ := ok.isVar h1
    exact e_pop v1 v2 v3 v4 h4
  | .bits a, ct, X, e, ok => by
    refine ⟨fun h => ?_, fun h => none_T⟩
    obtain ⟨x, op, y, p, apos, pos, rfl, h1, h2⟩ := inv_bits h
    exact e_bits ((snd a ct X _ ok).1 h2) rfl h1
termination_by structural c => c
theorem sndD : ∀ (ds : Cd) (ct : Ct) (X : Cx) (es : List Expr), OkX Γ ct X → ds.chkD Γ ct es = true → PA X es (tFs X.K (ds.denD Γ))
  | .nil, ct, X, [], ok, _ => fs_nil
  | .one c ds, ct, X, e :: es, ok, h => by
    simp only [Cd.chkD, Bool.and_eq_true] at h
    exact fs_cons (to_F ((snd c ct X e ok).1 h.1.2)) (sndD ds ct X es ok h.2) (star_cons h.1.1)
  | .star c ds, ct, X, e :: es, ok, h => by
    cases e with
    | Starred e2 p =>
      simp only [Cd.chkD, Bool.and_eq_true] at h
      exact fs_star (to_F ((snd c ct X e2 ok).1 h.1)) (sndD ds ct X es ok h.2) rfl
    | _ => simp [Cd.chkD] at h
  | .nil, _, _, _ :: _, _, h => (by simp [Cd.chkD] at h)
  | .one _ _, _, _, [], _, h => (by simp [Cd.chkD] at h)
  | .star _ _, _, _, [], _, h => (by simp [Cd.chkD] at h)
termination_by structural c => c
theorem sndF : ∀ (cs : Cs) (ct : Ct) (X : Cx) (es : List Expr), OkX Γ ct X → cs.chkF Γ ct es = true → PA X es (tFs X.K (cs.denF Γ))
  | .nil, ct, X, [], ok, _ => fs_nil
  | .cons c cs, ct, X, e :: es, ok, h => by
    simp only [Cs.chkF, Bool.and_eq_true] at h
    exact fs_cons (to_F ((snd c ct X e ok).1 h.1.2)) (sndF cs ct X es ok h.2) (star_cons h.1.1)
  | .nil, _, _, _ :: _, _, h => (by simp [Cs.chkF] at h)
  | .cons _ _, _, _, [], _, h => (by simp [Cs.chkF] at h)
termination_by structural c => c
theorem sndV : ∀ (cs : Cs) (ct : Ct) (X : Cx) (es : List Expr), OkX Γ ct X → cs.chkF Γ ct es = true → PA X es (tVs X.K (cs.denV Γ))
  | .nil, ct, X, [], ok, _ => vs_nil
  | .cons c cs, ct, X, e :: es, ok, h => by
    simp only [Cs.chkF, Bool.and_eq_true] at h
    exact vs_cons (to_V ((snd c ct X e ok).1 h.1.2)) (sndV cs ct X es ok h.2) (star_cons h.1.1)
  | .nil, _, _, _ :: _, _, h => (by simp [Cs.chkF] at h)
  | .cons _ _, _, _, [], _, h => (by simp [Cs.chkF] at h)
termination_by structural c => c
theorem sndA : ∀ (cs : Cs) (ct : Ct) (X : Cx) (es : List Expr) (pos : Pos), OkX Γ ct X → (cs.chkB Γ ct false es = true → PE X (.BoolOp .And es pos) (tD X.K (cs.denA Γ))) ∧ (cs.chkB Γ ct true es = true → PW X (.BoolOp .And es pos) (tT X.K (cs.denAT Γ)))
  | .nil, ct, X, es, pos, ok => ⟨fun h => (by simp [Cs.chkB] at h), fun h => (by simp [Cs.chkB] at h)⟩
  | .cons c .nil, ct, X, es, pos, ok => by
    match es with
    | [e] =>
      simp only [Cs.chkB, Cs.denA, Cs.denAT]
      exact ⟨fun h => pe_one ((snd c ct X e ok).1 h), fun h => pw_last ((snd c ct X e ok).2 h)⟩
    | [] => exact ⟨fun h => (by simp [Cs.chkB] at h), fun h => (by simp [Cs.chkB] at h)⟩
    | _ :: _ :: _ => exact ⟨fun h => (by simp [Cs.chkB] at h), fun h => (by simp [Cs.chkB] at h)⟩
  | .cons c (.cons c2 cs), ct, X, es, pos, ok => by
    match es with
    | e :: e2 :: es =>
      simp only [Cs.chkB, Bool.and_eq_true]
      have q := sndA (.cons c2 cs) ct X (e2 :: es) pos ok
      refine ⟨fun h => ?_, fun h => ?_⟩
      · exact e_and ((snd c ct X e ok).1 h.1) (q.1 h.2)
      · exact weakW (pw_and ((snd c ct X e ok).2 h.1) (q.2 h.2)) fun _ _ _ z => tt_and z
    | [] => exact ⟨fun h => (by simp [Cs.chkB] at h), fun h => (by simp [Cs.chkB] at h)⟩
    | [_] => exact ⟨fun h => (by simp [Cs.chkB] at h), fun h => (by simp [Cs.chkB] at h)⟩
termination_by structural c => c
theorem sndOr : ∀ (cs : Cs) (ct : Ct) (X : Cx) (es : List Expr) (pos : Pos), OkX Γ ct X → (cs.chkB Γ ct false es = true → PE X (.BoolOp .Or es pos) (tD X.K (cs.denO Γ))) ∧ (cs.chkB Γ ct true es = true → PW X (.BoolOp .Or es pos) (tT X.K (cs.denOT Γ)))
  | .nil, ct, X, es, pos, ok => ⟨fun h => (by simp [Cs.chkB] at h), fun h => (by simp [Cs.chkB] at h)⟩
  | .cons c .nil, ct, X, es, pos, ok => by
    match es with
    | [e] =>
      simp only [Cs.chkB, Cs.denO, Cs.denOT]
      exact ⟨fun h => pe_one ((snd c ct X e ok).1 h), fun h => pw_last ((snd c ct X e ok).2 h)⟩
    | [] => exact ⟨fun h => (by simp [Cs.chkB] at h), fun h => (by simp [Cs.chkB] at h)⟩
    | _ :: _ :: _ => exact ⟨fun h => (by simp [Cs.chkB] at h), fun h => (by simp [Cs.chkB] at h)⟩
  | .cons c (.cons c2 cs), ct, X, es, pos, ok => by
    match es with
    | e :: e2 :: es =>
      simp only [Cs.chkB, Bool.and_eq_true]
      have q := sndOr (.cons c2 cs) ct X (e2 :: es) pos ok
      refine ⟨fun h => ?_, fun h => ?_⟩
      · exact e_or ((snd c ct X e ok).1 h.1) (q.1 h.2)
      · exact weakW (pw_or ((snd c ct X e ok).2 h.1) (q.2 h.2)) fun _ _ _ z => tt_or z
    | [] => exact ⟨fun h => (by simp [Cs.chkB] at h), fun h => (by simp [Cs.chkB] at h)⟩
    | [_] => exact ⟨fun h => (by simp [Cs.chkB] at h), fun h => (by simp [Cs.chkB] at h)⟩
termination_by structural c => c
theorem sndP : ∀ (o : Co) (ct : Ct) (X : Cx) (e : Option Expr), OkX Γ ct X → o.chkP Γ ct e = true → PO X e (tPt X.K (fPt (o.den Γ)))
  | .no, ct, X, none, ok, _ => p_none
  | .so c, ct, X, some e, ok, h => p_some ((snd c ct X e ok).1 (by simpa only [Co.chkP] using h))
  | .no, _, _, some _, _, h => (by simp [Co.chkP] at h)
  | .so _, _, _, none, _, h => (by simp [Co.chkP] at h)
termination_by structural c => c
theorem sndQ : ∀ (o : Co) (ct : Ct) (X : Cx) (es : List Expr), OkX Γ ct X → o.chkI Γ ct es = true → PTs X es (tT X.K (o.denT Γ))
  | .no, ct, X, [], ok, _ => ⟨fun pins s σ H Q I ⟨G, ρ, b, ρ', R, q, k⟩ => pts_nil.run pins s σ H Q I (by
      cases q
      exact k G H R .refl)⟩
  | .so c, ct, X, [e], ok, h => pts_one ((snd c ct X e ok).2 (by simpa only [Co.chkI] using h))
  | .no, _, _, _ :: _, _, h => (by simp [Co.chkI] at h)
  | .so _, _, _, [], _, h => (by simp [Co.chkI] at h)
  | .so _, _, _, _ :: _ :: _, _, h => (by simp [Co.chkI] at h)
termination_by structural c => c
theorem sndI : ∀ (it : Ci) (ct : Ct) (X : Cx) (tg e : Expr), OkX Γ ct X → it.chk Γ ct tg e = true → PI X tg e (tItr X.K (it.den Γ))
  | .seq a, ct, X, tg, e, ok, h => i_seq ((snd a ct X e ok).1 (by simpa only [Ci.chk] using h))
  | .rng1 a, ct, X, tg, e, ok, h => by
    obtain ⟨x, p, e1, pos, rfl, h1, rfl, h3, h4⟩ := inv_rng1 h
    obtain ⟨g, m, _, _⟩ := ok.isBlt h1
    exact i_rng1 g m (vs_cons (to_V ((snd a ct X e1 ok).1 h4)) vs_nil (star_cons h3)) (star_cons h3) (fsCons_len fsNil_len)
  | .rng2 a b, ct, X, tg, e, ok, h => by
    obtain ⟨x, p, e1, e2, pos, rfl, h1, rfl, h3, h4, h5, h6⟩ := inv_rng2 h
    obtain ⟨g, m, _, _⟩ := ok.isBlt h1
    exact i_rng2 g m (vs_cons (to_V ((snd a ct X e1 ok).1 h5)) (vs_cons (to_V ((snd b ct X e2 ok).1 h6)) vs_nil (star_cons h4)) (star_cons h3)) ((star_cons h3).trans (by rw [star_cons h4]; rfl)) (star_cons h4) (fsCons_len (fsCons_len fsNil_len))
  | .enum a, ct, X, tg, e, ok, h => by
    obtain ⟨x, p, e1, pos, es, k, tp, rfl, h1, rfl, h3, h4, rfl⟩ := inv_enum h
    obtain ⟨g, m, _, _⟩ := ok.isBlt h1
    exact i_enum g m ((snd a ct X e1 ok).1 h4) (star_cons h3)
  | .zip a b, ct, X, tg, e, ok, h => by
    obtain ⟨x, p, e1, e2, pos, es, k, tp, rfl, h1, rfl, h3, h4, h5, h6, rfl⟩ := inv_zip h
    obtain ⟨g, m, _, _⟩ := ok.isBlt h1
    exact i_zip g m ((snd a ct X e1 ok).1 h5) ((snd b ct X e2 ok).1 h6) (star_cons h3) (star_cons h4) (plainArgs fun y hy => by rw [List.mem_singleton.mp hy]; exact h4)
  | .rngD a b c, ct, X, tg, e, ok, h => by
    obtain ⟨x, p, e1, e2, e3, pos, rfl, h1, rfl, h3, h4, h5, h6, h7, h8⟩ := inv_rngD h
    obtain ⟨g, m, _, _⟩ := ok.isBlt h1
    refine i_rngD g m (vs_cons (to_V ((snd a ct X e1 ok).1 h6)) (vs_cons (to_V ((snd b ct X e2 ok).1 h7)) (vs_cons (to_V ((snd c ct X e3 ok).1 h8)) vs_nil (star_cons h5)) (star_cons h4)) (star_cons h3)) (star_cons h3) (plainArgs fun y hy => ?_)
    rcases List.mem_cons.mp hy with z | z
    · rw [z]; exact h4
    · rw [List.mem_singleton.mp z]; exact h5
termination_by structural c => c
end
end
end Den

set_option autoImplicit false
set_option maxHeartbeats 4000000
/-! Data-level denotations: soundness of statements; a def from its core text. -/
namespace Den
open PySem PySem.Spec L2
section
variable {Γ : Gam} {ct : Ct} {X : Cx}
theorem block_fn {env : Env} (h : env.scope.kind = .function) : env.blockKind = .function := by
  unfold Env.blockKind
  rw [h]
  rfl
theorem swap_lc (ok : OkX Γ ct X) {elt : Expr} {gs : List Comprehension} {scope : Scope} {pos py : Pos} {y : Str} {l : Nat} :
    swapsWith (.ListComp elt gs scope pos) (some (.Name y py)) l X.env = pure (swapB ct y py (.ListComp elt gs scope pos)) := by
  have hb : X.env.blockKind = .function := block_fn (by rw [ok.sc]; exact ok.kd)
  have hk : X.env.kindOf y = ct.sc.names.lookup y := by
    show X.env.scope.names.lookup y = _
    rw [ok.sc]
  unfold swapsWith swapB
  simp only [hb, hk, Expr.pos]
  by_cases h : ct.sc.names.lookup y = some .local
  · simp [h]
  · have : (ct.sc.names.lookup y == some NameKind.local) = false := beq_eq_false_iff_ne.mpr h
    simp [h, this]
theorem sole_no {t e : Expr} {l : Nat} {env : Env} (h : noComp e = true) : swapsWithSole [t] e l env = pure false := by
  have q : swapsWith e (some t) l env = pure false := swaps_no h
  unfold swapsWithSole
  exact q
theorem sw2_ok (ok : OkX Γ ct X) {x y : Str} {px py pt pt2 : Pos} {kt k2 : Nat} {a b : Expr} (h : sw2B ct x y px py [a, b] = true) :
    swappedStores [.Tuple [.Name x px, .Name y py] kt pt] (.Tuple [a, b] k2 pt2) X.env = pure (some [x, y]) := by
  have hb : X.env.blockKind = .function := block_fn (by rw [ok.sc]; exact ok.kd)
  have hk : ∀ z, X.env.kindOf z = ct.sc.names.lookup z := fun z => by
    show X.env.scope.names.lookup z = _
    rw [ok.sc]
  unfold sw2B at h
  simp only [Bool.and_eq_true, decide_eq_true_eq, Bool.not_eq_true'] at h
  obtain ⟨⟨⟨⟨⟨⟨h1, h2⟩, h3⟩, h4⟩, h5⟩, h6⟩, h7⟩ := h
  have hst : ([a, b].any fun | .Starred .. => true | _ => false) = false := by
    rw [List.any_eq_false]
    intro e he
    have q := List.all_eq_true.mp h5 e he
    cases e <;> first | (cases q; done) | simp
  have h3' : (py.line == px.line) = true := by
    rw [beq_iff_eq] at h3 ⊢
    exact h3.symm
  have hne : (y == x) = false := beq_eq_false_iff_ne.mpr (Ne.symm h4)
  unfold swappedStores
  simp only [hb, hk, h1, h2, hst, h6, h7, List.length_cons, List.length_nil, List.head?_cons, Option.map_some, Option.getD_some, Expr.pos, List.filterMap_cons, List.filterMap_nil, h3', beq_self_eq_true, Bool.and_self, if_true]
  simp [List.eraseDups_cons, hne]
  have ha : notStar a = true := List.all_eq_true.mp h5 a (by simp)
  have hb2 : notStar b = true := List.all_eq_true.mp h5 b (by simp)
  intro z
  exfalso
  rcases z with z | z
  · cases a <;> first | (cases ha; done) | cases z
  · cases b <;> first | (cases hb2; done) | cases z
theorem sw3_ok (ok : OkX Γ ct X) {x y z : Str} {px py pz pt pt2 : Pos} {kt k2 : Nat} {a b c : Expr} (h : sw3B ct x y z px py pz [a, b, c] = true) :
    swappedStores [.Tuple [.Name x px, .Name y py, .Name z pz] kt pt] (.Tuple [a, b, c] k2 pt2) X.env = pure (some [x, y, z]) := by
  have hb : X.env.blockKind = .function := block_fn (by rw [ok.sc]; exact ok.kd)
  have hk : ∀ z, X.env.kindOf z = ct.sc.names.lookup z := fun z => by
    show X.env.scope.names.lookup z = _
    rw [ok.sc]
  unfold sw3B at h
  simp only [Bool.and_eq_true, decide_eq_true_eq, Bool.not_eq_true'] at h
  obtain ⟨⟨⟨⟨⟨⟨⟨h1, h2⟩, h1z⟩, h3, h3z⟩, ⟨h4, h4z⟩, h4y⟩, h5⟩, h6⟩, h7⟩ := h
  have hst : ([a, b, c].any fun | .Starred .. => true | _ => false) = false := by
    rw [List.any_eq_false]
    intro e he
    have q := List.all_eq_true.mp h5 e he
    cases e <;> first | (cases q; done) | simp
  have h3' : (py.line == px.line) = true := by
    rw [beq_iff_eq] at h3 ⊢
    exact h3.symm
  have h3'' : (pz.line == px.line) = true := by
    rw [beq_iff_eq] at h3z ⊢
    exact h3z.symm
  have hne : (y == x) = false := beq_eq_false_iff_ne.mpr (Ne.symm h4)
  have hne2 : (z == x) = false := beq_eq_false_iff_ne.mpr (Ne.symm h4z)
  have hne3 : (z == y) = false := beq_eq_false_iff_ne.mpr (Ne.symm h4y)
  unfold swappedStores
  simp only [hb, hk, h1, h2, h1z, hst, h6, h7, List.length_cons, List.length_nil, List.head?_cons, Option.map_some, Option.getD_some, Expr.pos, List.filterMap_cons, List.filterMap_nil, h3', h3'', beq_self_eq_true, Bool.and_self, if_true]
  simp [List.eraseDups_cons, hne, hne2, hne3]
  have ha : notStar a = true := List.all_eq_true.mp h5 a (by simp)
  have hb2 : notStar b = true := List.all_eq_true.mp h5 b (by simp)
  have hc2 : notStar c = true := List.all_eq_true.mp h5 c (by simp)
  intro z
  exfalso
  rcases z with z | z | z
  · cases a <;> first | (cases ha; done) | cases z
  · cases b <;> first | (cases hb2; done) | cases z
  · cases c <;> first | (cases hc2; done) | cases z
theorem one_ok (ok : OkX Γ ct X) {tg e : Expr} (h : asOne ct tg e = true) : swappedStores [tg] e X.env = pure none := by
  have hk : ∀ z, X.env.kindOf z = ct.sc.names.lookup z := fun z => by
    show X.env.scope.names.lookup z = _
    rw [ok.sc]
  unfold asOne at h
  rw [Bool.or_eq_true] at h
  rcases h with h | h
  · exact swap_none h
  · split at h
    · rename_i ts kt pt vs k2 pt2
      rw [Bool.or_eq_true] at h
      unfold swappedStores
      rcases h with h | h
      · simp only [Bool.not_eq_true'] at h
        simp [h]
      · rw [List.any_eq_true] at h
        obtain ⟨t, ht, hn⟩ := h
        simp
        intro _ _ _ _ hall
        refine absurd ?_ (hall t ht)
        cases t with
        | Name x p =>
          have hn2 : ct.sc.names.lookup x ≠ some .local := by
            intro z
            simp [locName, z] at hn
          exact if_neg fun z => hn2 (by rw [← hk]; exact z.1)
        | _ => rfl
    · cases h
theorem lc_parts {own : List (Str × Nat)} {elt : C} {tg : Tg} {it : Ci} {ifs : Co} {t : Bool} {el : Expr} {gs : List Comprehension} {scope : Scope} {pos : Pos} (h : C.chk Γ ct t (.lc own elt tg it ifs) (.ListComp el gs scope pos) = true) :
    ∃ t' i fs, gs = [⟨t', i, fs, 0⟩] ∧ blkC ct.N ct.sc scope own = true ∧ it.chk Γ ct t' i = true ∧ noSet i = true ∧ tg.chk (blkCt ct scope) t' = true ∧ (∀ j ∈ tg.slots, j ∈ own.map (·.2)) ∧ elt.chk Γ (blkCt ct scope) false el = true ∧ ifs.chkI Γ (blkCt ct scope) fs = true := by
  match gs with
  | [⟨t', i, fs, as⟩] =>
    simp only [C.chk, Bool.and_eq_true, decide_eq_true_eq] at h
    obtain ⟨⟨⟨⟨⟨⟨⟨has, h1⟩, h2⟩, h3⟩, h4⟩, h5⟩, h6⟩, h7⟩ := h
    subst has
    exact ⟨t', i, fs, rfl, h1, h2, h3, h4, fun j hj => of_decide_eq_true (List.all_eq_true.mp h5 j hj), h6, h7⟩
  | [] => simp [C.chk] at h
  | _ :: _ :: _ => simp [C.chk] at h
theorem set_snd (ok : OkX Γ ct X) {i : Nat} {c : C} {x : Str} {px pos : Pos} {e : Expr} (hi : ct.N[i]? = some x) (hs : sto ct x = true) (hc : c.chk Γ ct false e = true) (he : noComp e = true ∨ ∃ el gs scope p, e = .ListComp el gs scope p) :
    PS X (.Assign [.Name x px] e pos) (tS X.K (fSet i (c.den Γ))) := by
  have hi' : X.N[i]? = some x := by rw [ok.N]; exact hi
  obtain ⟨a, b⟩ := ok.sto hs
  have pe := (snd c ct X e ok).1 hc
  rcases he with he | ⟨el, gs, scope, p, rfl⟩
  · exact s_set ok.nd hi' a pe (swaps_no he) b
  · have sw := swap_lc (l := pos.line) ok (elt := el) (gs := gs) (scope := scope) (pos := p) (py := px) (y := x)
    cases hsw : swapB ct x px (.ListComp el gs scope p) with
    | false =>
      rw [hsw] at sw
      exact s_set ok.nd hi' a pe sw b
    | true =>
      rw [hsw] at sw
      cases c with
      | lc own elt tg it ifs =>
        obtain ⟨t', i2, fs, rfl, h1, h2, h3, h4, h5, h6, h7⟩ := lc_parts hc
        have hl : X.env.scope.names.lookup x = some .local := by
          unfold swapB at hsw
          simp only [Bool.and_eq_true, decide_eq_true_eq] at hsw
          rw [ok.sc]
          exact hsw.1.1
        have q2 : C.den Γ (.lc own elt tg it ifs) = fLc (own.map (·.2)) (it.den Γ) tg.den (ifs.denT Γ) (elt.den Γ) := by simp only [C.den]
        rw [q2]
        refine s_setLc (ws := tg.slots) ok.calm ok.nd hi' hl sw (sndI it ct X t' i2 ok h2) (ok.blkOk h1) h5 (fun s H Cc cl fp => ?_) (fun s H Cc cl fp => ?_) (fun s H Cc cl fp => ?_) (set_iter h3)
        · exact tg_ok (ok.blk h1 s H Cc cl fp) tg t' h4
        · exact sndQ ifs _ _ fs (ok.blk h1 s H Cc cl fp) h7
        · exact (snd elt _ _ el (ok.blk h1 s H Cc cl fp)).1 h6
      | lc2 own elt tg it ifs tg1 it1 ifs1 =>
        obtain ⟨el2, t', i2, fs, t1', i1, fs1, scope2, pos2, he, h1, h2, h3, h3', h4, h4', h5, h5', h6, h7, h7', h8⟩ := inv_lc2 hc
        cases he
        have hl : X.env.scope.names.lookup x = some .local := by
          unfold swapB at hsw
          simp only [Bool.and_eq_true, decide_eq_true_eq] at hsw
          rw [ok.sc]
          exact hsw.1.1
        have q2 : C.den Γ (.lc2 own elt tg it ifs tg1 it1 ifs1) = fLc2 (own.map (·.2)) tg1.slots (it.den Γ) tg.den (ifs.denT Γ) (it1.den Γ) tg1.den (ifs1.denT Γ) (elt.den Γ) := by simp only [C.den]
        rw [q2]
        refine s_setLc2 (ws := tg.slots) ok.calm ok.nd hi' hl sw (sndI it ct X t' i2 ok h2) (ok.blkOk h1) h5 h5' (fun s H Cc cl fp => ?_) (fun s H Cc cl fp => ?_) (fun s H Cc cl fp => ?_) (fun s H Cc cl fp => ?_) (fun s H Cc cl fp => ?_) (fun s H Cc cl fp => ?_) (set_iter h3) (fun _ => set_iter h3')
        · exact tg_ok (ok.blk h1 s H Cc cl fp) tg t' h4
        · exact sndQ ifs _ _ fs (ok.blk h1 s H Cc cl fp) h7
        · exact sndI it1 _ _ t1' i1 (ok.blk h1 s H Cc cl fp) h8
        · exact tg_ok (ok.blk h1 s H Cc cl fp) tg1 t1' h4'
        · exact sndQ ifs1 _ _ fs1 (ok.blk h1 s H Cc cl fp) h7'
        · exact (snd elt _ _ _ (ok.blk h1 s H Cc cl fp)).1 h6
      | _ => simp [C.chk] at hc
theorem inv_set {i : Nat} {c : C} {st : Stmt} (h : S.chk Γ ct (.set i c) st = true) : ∃ x px e pos, st = .Assign [.Name x px] e pos ∧ ct.N[i]? = some x ∧ sto ct x = true ∧ c.chk Γ ct false e = true ∧ (noComp e = true ∨ ∃ el gs scope p, e = .ListComp el gs scope p) := by
  unfold S.chk at h
  split at h <;> first
    | (cases h; done)
    | (simp only [Bool.and_eq_true, decide_eq_true_eq, Bool.or_eq_true] at h
       rename_i i2 c2 x px e pos q
       cases q
       refine ⟨x, px, e, pos, rfl, h.1.1.1, h.1.1.2, h.1.2, ?_⟩
       rcases h.2 with z | z
       · exact .inl z
       · right
         cases e <;> first | exact ⟨_, _, _, _, rfl⟩ | cases z)
    | (rename_i q _; cases q; done)
    | (rename_i q; cases q; done)
theorem inv_asg {t : Tg} {c : C} {st : Stmt} (h : S.chk Γ ct (.asg t c) st = true) : ∃ tg e pos, st = .Assign [tg] e pos ∧ t.chk ct tg = true ∧ c.chk Γ ct false e = true ∧ noComp e = true ∧ asOne ct tg e = true ∧ isTupE tg = true := by
  unfold S.chk at h
  split at h <;> first
    | (cases h; done)
    | (simp only [Bool.and_eq_true, decide_eq_true_eq] at h
       rename_i t2 c2 tg e pos q
       cases q
       exact ⟨tg, e, pos, rfl, h.1.1.1.1, h.1.1.1.2, h.1.1.2, h.1.2, h.2⟩)
    | (rename_i q _; cases q; done)
    | (rename_i q; cases q; done)
theorem inv_par {i j : Nat} {a b : C} {st : Stmt} (h : S.chk Γ ct (.par i j a b) st = true) : ∃ x px y py kt pt e1 e2 k2 pt2 pos, st = .Assign [.Tuple [.Name x px, .Name y py] kt pt] (.Tuple [e1, e2] k2 pt2) pos ∧ ct.N[i]? = some x ∧ ct.N[j]? = some y ∧ i ≠ j ∧ sw2B ct x y px py [e1, e2] = true ∧
    a.chk Γ ct false e1 = true ∧ b.chk Γ ct false e2 = true ∧ notStar e1 = true ∧ notStar e2 = true := by
  unfold S.chk at h
  split at h <;> first
    | (cases h; done)
    | (simp only [Bool.and_eq_true, decide_eq_true_eq] at h
       rename_i i2 j2 a2 b2 x px y py kt pt e1 e2 k2 pt2 pos q
       cases q
       exact ⟨x, px, y, py, kt, pt, e1, e2, k2, pt2, pos, rfl, h.1.1.1.1.1.1.1, h.1.1.1.1.1.1.2, h.1.1.1.1.1.2, h.1.1.1.1.2, h.1.1.1.2, h.1.1.2, h.1.2, h.2⟩)
    | (rename_i q _; cases q; done)
    | (rename_i q; cases q; done)
theorem inv_par3 {i j l : Nat} {a b c : C} {st : Stmt} (h : S.chk Γ ct (.par3 i j l a b c) st = true) : ∃ x px y py z pz kt pt e1 e2 e3 k2 pt2 pos, st = .Assign [.Tuple [.Name x px, .Name y py, .Name z pz] kt pt] (.Tuple [e1, e2, e3] k2 pt2) pos ∧
    (ct.N[i]? = some x ∧ ct.N[j]? = some y ∧ ct.N[l]? = some z) ∧ (i ≠ j ∧ i ≠ l ∧ j ≠ l) ∧ sw3B ct x y z px py pz [e1, e2, e3] = true ∧ (a.chk Γ ct false e1 = true ∧ b.chk Γ ct false e2 = true ∧ c.chk Γ ct false e3 = true) ∧ notStar e1 = true ∧ notStar e2 = true ∧ notStar e3 = true := by
  unfold S.chk at h
  split at h <;> first
    | (cases h; done)
    | (simp only [Bool.and_eq_true, decide_eq_true_eq] at h
       rename_i i2 j2 l2 a2 b2 c2 x px y py z pz kt pt e1 e2 e3 k2 pt2 pos q
       cases q
       obtain ⟨⟨⟨⟨⟨⟨n1, n2⟩, n3⟩, ⟨m1, m2⟩, m3⟩, w⟩, ⟨c1, c2⟩, c3⟩, ⟨s1, s2⟩, s3⟩ := h
       exact ⟨x, px, y, py, z, pz, kt, pt, e1, e2, e3, k2, pt2, pos, rfl, ⟨n1, n2, n3⟩, ⟨m1, m2, m3⟩, w, ⟨c1, c2, c3⟩, s1, s2, s3⟩)
    | (rename_i q _; cases q; done)
    | (rename_i q; cases q; done)
theorem inv_setIx {i : Nat} {x c : C} {st : Stmt} (h : S.chk Γ ct (.setIx i x c) st = true) : ∃ y yp ix sp e pos, st = .Assign [.Subscript (.Name y yp) ix sp] e pos ∧ isVar ct i y = true ∧ pix ix = true ∧ x.chk Γ ct false ix = true ∧ c.chk Γ ct false e = true ∧ noComp e = true := by
  unfold S.chk at h
  split at h <;> first
    | (cases h; done)
    | (simp only [Bool.and_eq_true, decide_eq_true_eq] at h
       rename_i i2 x2 c2 y yp ix sp e pos q
       cases q
       exact ⟨y, yp, ix, sp, e, pos, rfl, h.1.1.1.1, h.1.1.1.2, h.1.1.2, h.1.2, h.2⟩)
    | (rename_i q _; cases q; done)
    | (rename_i q; cases q; done)
theorem inv_augIx {i : Nat} {x c : C} {st : Stmt} (h : S.chk Γ ct (.augIx i x c) st = true) : ∃ y yp ix sp e pos, st = .AugAssign (.Subscript (.Name y yp) ix sp) .Add e pos ∧ isVar ct i y = true ∧ pix ix = true ∧ x.chk Γ ct false ix = true ∧ c.chk Γ ct false e = true := by
  unfold S.chk at h
  split at h <;> first
    | (cases h; done)
    | (simp only [Bool.and_eq_true, decide_eq_true_eq] at h
       rename_i i2 x2 c2 y yp ix sp e pos q
       cases q
       exact ⟨y, yp, ix, sp, e, pos, rfl, h.1.1.1, h.1.1.2, h.1.2, h.2⟩)
    | (rename_i q _; cases q; done)
    | (rename_i q; cases q; done)
theorem inv_aug {i : Nat} {b : Bool} {c : C} {st : Stmt} (h : S.chk Γ ct (.aug i b c) st = true) : ∃ y yp e pos, st = .AugAssign (.Name y yp) (if b then .Sub else .Add) e pos ∧ ct.N[i]? = some y ∧ sto ct y = true ∧ c.chk Γ ct false e = true := by
  unfold S.chk at h
  split at h <;> first
    | (cases h; done)
    | (simp only [Bool.and_eq_true, decide_eq_true_eq] at h
       rename_i i2 c2 y yp e pos q
       cases q
       exact ⟨y, yp, e, pos, rfl, h.1.1, h.1.2, h.2⟩)
    | (rename_i q _; cases q; done)
    | (rename_i q; cases q; done)
theorem inv_fors {t : Tg} {it : Ci} {b : Ss} {st : Stmt} (h : S.chk Γ ct (.fors t it b) st = true) : ∃ tg i body pos, st = .For tg i body [] pos ∧ t.chk ct tg = true ∧ it.chk Γ ct tg i = true ∧ noSet i = true ∧ b.chk Γ ct body = true := by
  unfold S.chk at h
  split at h <;> first
    | (cases h; done)
    | (simp only [Bool.and_eq_true, decide_eq_true_eq] at h
       rename_i t2 it2 b2 tg i body pos q
       cases q
       exact ⟨tg, i, body, pos, rfl, h.1.1.1, h.1.1.2, h.1.2, h.2⟩)
    | (rename_i q _; cases q; done)
    | (rename_i q; cases q; done)
theorem inv_whl {c : C} {b : Ss} {st : Stmt} (h : S.chk Γ ct (.whl c b) st = true) : ∃ e body pos, st = .While e body [] pos ∧ c.chk Γ ct true e = true ∧ b.chk Γ ct body = true := by
  unfold S.chk at h
  split at h <;> first
    | (cases h; done)
    | (simp only [Bool.and_eq_true, decide_eq_true_eq] at h
       rename_i c2 b2 e body pos q
       cases q
       exact ⟨e, body, pos, rfl, h.1, h.2⟩)
    | (rename_i q _; cases q; done)
    | (rename_i q; cases q; done)
mutual
theorem sndS : ∀ (s : S) (st : Stmt), OkX Γ ct X → s.chk Γ ct st = true → PS X st (tS X.K (s.den Γ))
  | .set i c, st, ok, h => by
    obtain ⟨x, px, e, pos, rfl, h1, h2, h3, h4⟩ := inv_set h
    exact set_snd ok h1 h2 h3 h4
  | .asg t c, st, ok, h => by
    obtain ⟨tg, e, pos, rfl, h1, h2, h3, h4, h5⟩ := inv_asg h
    refine s_asg ((snd c ct X e ok).1 h2) (tg_ok ok t tg h1) (swaps_no h3) (one_ok ok h4) ?_
    exact asg_cons (es := []) (by cases tg <;> first | rfl | cases h5)
  | .par i j a b, st, ok, h => by
    obtain ⟨x, px, y, py, kt, pt, e1, e2, k2, pt2, pos, rfl, h1, h2, h3, h4, h5, h6, h7, h8⟩ := inv_par h
    have q := h4
    unfold sw2B at q
    simp only [Bool.and_eq_true, decide_eq_true_eq] at q
    exact s_par ok.calm ok.nd (by rw [ok.N]; exact h1) (by rw [ok.N]; exact h2) h3 (by rw [ok.sc]; exact q.1.1.1.1.1.1) (by rw [ok.sc]; exact q.1.1.1.1.1.2) ((snd a ct X e1 ok).1 h5) ((snd b ct X e2 ok).1 h6) (star_cons h7) (star_cons h8) (sw2_ok ok h4)
  | .par3 i j l a b c, st, ok, h => by
    obtain ⟨x, px, y, py, z, pz, kt, pt, e1, e2, e3, k2, pt2, pos, rfl, ⟨n1, n2, n3⟩, ⟨m1, m2, m3⟩, w, ⟨c1, c2, c3⟩, s1, s2, s3⟩ := inv_par3 h
    have q := w
    unfold sw3B at q
    simp only [Bool.and_eq_true, decide_eq_true_eq] at q
    obtain ⟨⟨⟨⟨⟨⟨q1, q2⟩, q3⟩, _⟩, _⟩, _⟩, _⟩ := q
    exact s_par3 ok.calm ok.nd (by rw [ok.N]; exact n1) (by rw [ok.N]; exact n2) (by rw [ok.N]; exact n3) m1 m2 m3 (by rw [ok.sc]; exact q1.1) (by rw [ok.sc]; exact q1.2) (by rw [ok.sc]; exact q2) ((snd a ct X e1 ok).1 c1) ((snd b ct X e2 ok).1 c2) ((snd c ct X e3 ok).1 c3) (star_cons s1) (star_cons s2) (star_cons s3) (sw3_ok ok w)
  | .setIx i x c, st, ok, h => by
    obtain ⟨y, yp, ix, sp, e, pos, rfl, h1, h2, h3, h4, h5⟩ := inv_setIx h
    obtain ⟨a1, a2, a3, a4⟩ := ok.isVar h1
    exact s_setIx a1 a2 a3 a4 ((snd x ct X ix ok).1 h3) ((snd c ct X e ok).1 h4) (sto_ix h2) (sole_no h5) swap_none2 rfl
  | .augIx i x c, st, ok, h => by
    obtain ⟨y, yp, ix, sp, e, pos, rfl, h1, h2, h3, h4⟩ := inv_augIx h
    obtain ⟨a1, a2, a3, a4⟩ := ok.isVar h1
    exact s_augIx a1 a2 a3 a4 ((snd x ct X ix ok).1 h3) ((snd c ct X e ok).1 h4) (aug_ok h2)
  | .aug i b c, st, ok, h => by
    obtain ⟨y, yp, e, pos, rfl, h1, h2, h3⟩ := inv_aug h
    obtain ⟨a1, a2⟩ := ok.sto h2
    cases b with
    | false => exact s_aug ok.nd (by rw [ok.N]; exact h1) a1 ((snd c ct X e ok).1 h3) ip_add a2
    | true => exact s_aug ok.nd (by rw [ok.N]; exact h1) a1 ((snd c ct X e ok).1 h3) ip_sub a2
  | .exp c, st, ok, h => by
    cases st with
    | Expr e pos =>
      simp only [S.chk, Bool.and_eq_true] at h
      exact s_expr ((snd c ct X e ok).1 h.1) (swaps_no h.2)
    | _ => simp [S.chk] at h
  | .ife c a b, st, ok, h => by
    cases st with
    | If e x y pos =>
      simp only [S.chk, Bool.and_eq_true] at h
      exact s_if ((snd c ct X e ok).2 h.1.1) (sndSs a x ok h.1.2) (sndSs b y ok h.2)
    | _ => simp [S.chk] at h
  | .fors t it b, st, ok, h => by
    obtain ⟨tg, i, body, pos, rfl, h1, h2, h3, h4⟩ := inv_fors h
    exact s_for ok.xe ok.calm (sndI it ct X tg i ok h2) (tg_ok ok t tg h1) (sndSs b body ok h4) (set_iter h3)
  | .whl c b, st, ok, h => by
    obtain ⟨e, body, pos, rfl, h1, h2⟩ := inv_whl h
    exact s_while ok.xe ((snd c ct X e ok).2 h1) (sndSs b body ok h2)
  | .ret c, st, ok, h => by
    cases st with
    | Return v pos =>
      cases v with
      | none => simp [S.chk] at h
      | some e =>
        simp only [S.chk] at h
        exact s_ret ((snd c ct X e ok).1 h)
    | _ => simp [S.chk] at h
  | .retN, st, ok, h => by
    cases st with
    | Return v pos =>
      cases v with
      | none => exact s_retN
      | some e => simp [S.chk] at h
    | _ => simp [S.chk] at h
  | .bk, st, ok, h => by
    cases st with
    | Break pos => exact s_bk
    | _ => simp [S.chk] at h
  | .ct, st, ok, h => by
    cases st with
    | Continue pos => exact s_ct
    | _ => simp [S.chk] at h
  | .pass, st, ok, h => by
    cases st with
    | Pass pos => exact s_pass
    | _ => simp [S.chk] at h
termination_by structural s => s
theorem sndSs : ∀ (ss : Ss) (sts : List Stmt), OkX Γ ct X → ss.chk Γ ct sts = true → PSs X sts (tS X.K (ss.den Γ))
  | .nil, [], ok, h => ss_nil
  | .cons s ss, st :: sts, ok, h => by
    simp only [Ss.chk, Bool.and_eq_true] at h
    exact ss_cons (sndS s st ok h.1) (sndSs ss sts ok h.2)
  | .nil, _ :: _, _, h => by simp [Ss.chk] at h
  | .cons _ _, [], _, h => by simp [Ss.chk] at h
termination_by structural ss => ss
end
end
end Den

set_option autoImplicit false
/-! Data-level denotations: a def from its core text. -/
namespace Den
open PySem PySem.Spec L2
structure GamOk (P : Program) (w : World) (K : PySem.W.Frag) (mg : Str → Option Value) (base : Heap) (k : Nat) (Γ : Gam) : Prop where
  nob : ∀ x ∈ Γ.nob, mg x = none
  cs : ∀ p ∈ Γ.cs, ∃ v u, mg p.1 = some u ∧ RelV v u ∧ Lit K v p.2
  fns : ∀ p ∈ Γ.fns, ∃ f fd ps, FnG P w K mg base k f fd ps (spD K p.2) ∧ mg p.1 = some (.ref f) ∧ PySem.W.keepIn K (.ref f) = true ∧ Binds K fd ps []
/-- a def's promise, from its core text -/
def fdOf (Γ : Gam) (mt : Bool) (np more : Nat) (ss : Ss) : FD := ⟨mt, np, bodyRun mt more (ss.den Γ)⟩
section
variable {P : Program} {w : World} {K : PySem.W.Frag} {mg : Str → Option Value} {base : Heap} {k : Nat}
theorem okX_of {N ps : List Str} {qual : Str} {sc : Scope} {f : Addr} {cdv : Value} {A : Around} {outer : List Env} {s : Shared} {H : Hp} {Γ : Gam} (S : FnScope N ps sc) (g : GamOk P w K mg base k Γ)
    (hr : Room k (A.deeper (PyProof.Rows.envOfC qual sc s.heap.objs.size f cdv))) (hgd : A.guards = some []) :
    OkX Γ ⟨N, sc, fun _ => true⟩ (cxOf CX0 P w K mg base N qual sc f cdv A outer s H E0).nox := by
  refine ⟨rfl, rfl, S.kind, fun _ _ => rfl, S.nd, rfl, rfl, ?_, ?_, g.nob, g.cs, fun p hp => ?_⟩
  · show (A.deeper (PyProof.Rows.envOfC qual sc s.heap.objs.size f cdv)).guards = some []
    exact hgd
  · show (A.deeper (PyProof.Rows.envOfC qual sc s.heap.objs.size f cdv)).units + 70 < cLine
    have := hr.un
    omega
  · obtain ⟨f', fd', ps', F, m, kp, b⟩ := g.fns p hp
    exact ⟨k, f', fd', ps', F, hr, m, kp, b⟩
theorem def_of {x qual : Str} {st : Stmt} {f : Addr} {fd : FuncData} {N ps : List Str} {Γ : Gam} {mt : Bool} {ss : Ss} (F : Fun K x qual st f fd) (S : FnScope N ps (defScope st)) (g : GamOk P w K mg base k Γ)
    (hc : ss.chk Γ ⟨N, defScope st, fun _ => true⟩ (defBody st) = true) : FnG P w K mg base (k + 1) f fd ps (spD K (fdOf Γ mt ps.length (N.length - ps.length) ss)) :=
  fnG_of (fb := ss.den Γ) F S rfl (fun cdv A outer s H hr hgd => sndSs (X := (cxOf CX0 P w K mg base N qual (defScope st) f cdv A outer s H E0).nox) ss (defBody st) (okX_of S g hr hgd) hc) fun β ds z h => h
end
end Den
namespace Den
theorem all_nil {α : Type} {p : α → Prop} : ∀ x ∈ ([] : List α), p x := fun _ h => by cases h
theorem all_cons {α : Type} {p : α → Prop} {a : α} {l : List α} (h : p a) (t : ∀ x ∈ l, p x) : ∀ x ∈ a :: l, p x := fun x hx => by
  rcases List.mem_cons.mp hx with z | z
  · rw [z]; exact h
  · exact t x z
end Den

set_option autoImplicit false
/-! Data-level denotations: running them on symbolic data. -/
namespace Den
open PySem PySem.Spec L2
/-- keeps simp from taking a fact as a step of reckoning -/
theorem bits_int {i : Int} : φBits (.int i) = some (.va (.int (Builtin.Int.intBits i : Nat))) := rfl
/-- keeps simp from taking a fact as a step of reckoning -/
theorem nr {α : Type} {a b : α} (h : a = b) : a = b := by
  cases h
  rfl
theorem fdrun {Γ : Gam} {mt : Bool} {np more : Nat} {ss : Ss} {β ds : List D} : (fdOf Γ mt np more ss).run β ds = bodyRun mt more (ss.den Γ) β ds := rfl
theorem fdnp {Γ : Gam} {mt : Bool} {np more : Nat} {ss : Ss} : (fdOf Γ mt np more ss).np = np := rfl
theorem fdmt {Γ : Gam} {mt : Bool} {np more : Nat} {ss : Ss} : (fdOf Γ mt np more ss).mt = mt := rfl
/-! ### values that may be shown and compared -/
structure Fine (d : D) : Prop where
  sh : SeqAt.shaped d = true
  sw : d.showable = true
  nd : d.hasDict = false
  ln : d.shown.length ≤ lim
theorem Fine.dp {d : D} (h : Fine d) : d.depth ≤ 64 := SeqAt.depth_of_shaped h.sh
theorem Fine.eq {d : D} (h : Fine d) : PyData.eqv d d = true := PySem.SeqAt.eqv_refl d (SeqAt.canLay_of_shaped h.sh)
theorem eq_fine {d : D} (h : Fine d) : φEq d d = some (.va (.bool true)) := by
  unfold φEq
  rw [if_pos (.inl ⟨h.sh, h.sh⟩), h.eq]
theorem eq_str {x y : Str} : φEq (.str x) (.str y) = some (.va (.bool (x == y))) := by
  unfold φEq
  rw [if_pos (.inr ⟨rfl, rfl⟩)]
  rfl
theorem ne_str {x y : Str} : φNe (.str x) (.str y) = some (.va (.bool (!(x == y)))) := by
  unfold φNe
  rw [if_pos (.inr ⟨rfl, rfl⟩)]
  rfl
theorem sh_int {i : Int} : SeqAt.shaped (.int i) = true := rfl
theorem sh_bool {i : Bool} : SeqAt.shaped (.bool i) = true := rfl
theorem sh_none : SeqAt.shaped .none = true := rfl
theorem eq_int {i j : Int} : φEq (.int i) (.int j) = some (.va (.bool (i == j))) := rfl
theorem ne_int {i j : Int} : φNe (.int i) (.int j) = some (.va (.bool (!(i == j)))) := rfl
theorem repr_fine {d : D} (h : Fine d) : φRepr [d] = some (.va (.str d.shown)) := by
  unfold φRepr
  exact if_pos ⟨h.sw, h.nd, h.dp, h.ln⟩
theorem pop {i j : Int} (h : 0 ≤ j ∧ j ≤ 100 ∧ -1000 < i ∧ i < 1000) : φPow (.int i) (.int j) = some (.va (.int (i ^ j.toNat))) := if_pos h
theorem mod_pos {i j : Int} (h : 0 < j) : φMod (.int i) (.int j) = some (.va (.int (i % j))) := if_pos h
theorem div_pos {i j : Int} (h : 0 < j ∧ j < 1073741824) : φDiv (.int i) (.int j) = some (.va (.int (i / j))) := if_pos ⟨h.1, by omega⟩
theorem div_wide {i j : Int} (h : 0 < j ∧ j < 18446744073709551616) : φDiv (.int i) (.int j) = some (.va (.int (i / j))) := if_pos h
theorem mul_small {i j : Int} (h : (-(2 ^ 64) < i ∧ i < 2 ^ 64) ∨ (-(2 ^ 64) < j ∧ j < 2 ^ 64)) : φMul (.int i) (.int j) = some (.va (.int (i * j))) := if_pos h
theorem mul_mod {y k z : Int} (h : 0 < k ∧ k < 18446744073709551616) : φMul (.int (y % k)) (.int z) = some (.va (.int (y % k * z))) := mul_small (.inl ⟨by
  have := Int.emod_nonneg y (show k ≠ 0 by omega)
  omega, by
  have := Int.emod_lt_of_pos y h.1
  omega⟩)
theorem add_int {i j : Int} : φAdd (.int i) (.int j) = some (.va (.int (i + j))) := rfl
theorem sub_int {i j : Int} : φSub (.int i) (.int j) = some (.va (.int (i - j))) := rfl
theorem add_lst {xs ys : List D} (h : xs.length + ys.length ≤ lim) : φAdd (.list xs) (.list ys) = some (.ls (xs ++ ys)) := if_pos h
theorem ix_lst {xs : List D} {i : Int} : φIx (.list xs) (.int i) = (atI xs i).map .va := rfl
theorem ix_tup {xs : List D} {i : Int} : φIx (.tuple xs) (.int i) = (atI xs i).map .va := rfl
theorem at_nat {α : Type} {xs : List α} {j : Nat} {v : α} (h : xs[j]? = some v) : atI xs (j : Int) = some v := L2.atI_nat h
theorem at_zero {α : Type} {x : α} {xs : List α} : atI (x :: xs) 0 = some x := L2.atI_nat (j := 0) rfl
theorem at_one {α : Type} {x y : α} {xs : List α} : atI (x :: y :: xs) 1 = some y := L2.atI_nat (j := 1) rfl
theorem at_two {α : Type} {x y z : α} {xs : List α} : atI (x :: y :: z :: xs) 2 = some z := L2.atI_nat (j := 2) rfl
theorem at_three {α : Type} {x y z w : α} {xs : List α} : atI (x :: y :: z :: w :: xs) 3 = some w := L2.atI_nat (j := 3) rfl
theorem lim_lit {n : Nat} (h : n ≤ 100) : n ≤ lim := Nat.le_trans h (by decide)
theorem len_lst {xs : List D} : φLen [.list xs] = some (.va (.int xs.length)) := rfl
theorem len_tup {xs : List D} : φLen [.tuple xs] = some (.va (.int xs.length)) := rfl
theorem sIx_int {n d : Nat} {i : Int} (h : 0 ≤ i) : HT.sIx n d (some i) = min i.toNat n := by
  unfold HT.sIx
  exact if_neg (by omega)
/-- a function that the kernel does not reckon with -/
theorem seal_ex {α : Type} (f : α) : ∃ g : α, g = f := ⟨f, rfl⟩
noncomputable def sealed {α : Type} (f : α) : α := Classical.choose (seal_ex f)
theorem sealed_eq {α : Type} (f : α) : sealed f = f := Classical.choose_spec (seal_ex f)
def callF0 (d : FD) (y : List D × Lo) : Option (RR × Lo) := if d.mt = false ∧ y.1.length = d.np then (d.run [] y.1).bind fun z => some (z.1, y.2) else none
noncomputable def callF (d : FD) : List D × Lo → Option (RR × Lo) := sealed (callF0 d)
theorem fCall_eq {d : FD} {fs : Fn (List D)} {ρ : Lo} : fCall d fs ρ = (fs ρ).bind (callF d) := by
  unfold callF
  rw [sealed_eq]
  rfl
theorem cf {d : FD} {ds : List D} {r : RR} {β : List D} (hr : d.run [] ds = some (r, β)) (hm : d.mt = false) (hn : d.np = ds.length) (ρ : Lo) : callF d (ds, ρ) = some (r, ρ) := by
  unfold callF
  rw [sealed_eq]
  unfold callF0
  rw [if_pos ⟨hm, hn.symm⟩, hr]
  rfl
def callMF0 (d : FD) (i : Nat) (y : List D × Lo) : Option (RR × Lo) := if d.mt = true ∧ y.1.length + 1 = d.np then (items y.2 i).bind fun β => (d.run β y.1).map fun z => (z.1, putItems y.2 i z.2) else none
noncomputable def callMF (d : FD) (i : Nat) : List D × Lo → Option (RR × Lo) := sealed (callMF0 d i)
theorem fCallM_eq {d : FD} {i : Nat} {fs : Fn (List D)} {ρ : Lo} : fCallM d i fs ρ = if (items ρ i).isSome = true then (fs ρ).bind (callMF d i) else none := by
  unfold callMF
  rw [sealed_eq]
  rfl
theorem cm {d : FD} {i : Nat} {ds : List D} {r : RR} {β β' : List D} (hr : d.run β ds = some (r, β')) (hm : d.mt = true) (hn : d.np = ds.length + 1) {ρ : Lo} (hi : items ρ i = some β) : callMF d i (ds, ρ) = some (r, putItems ρ i β') := by
  unfold callMF
  rw [sealed_eq]
  unfold callMF0
  rw [if_pos ⟨hm, hn.symm⟩, hi, Option.bind_some, hr]
  rfl
/-! ### loops -/
theorem lc_pure {vs : List Nat} {t : D → Lo → Option Lo} {test : FT} {elt : Fn D} {ρ : Lo} {b : D → Bool} {g : D → D} : ∀ {ds acc : List D}, (∀ d ∈ ds, ∃ ρ1 ρ2, t d ρ = some ρ1 ∧ test ρ1 = some (b d, ρ2) ∧
    (b d = true → ∃ ρ3, elt ρ2 = some (g d, ρ3) ∧ wipeL ρ3 vs = ρ) ∧ (b d = false → wipeL ρ2 vs = ρ)) → lcF vs t test elt ds acc ρ = some (acc ++ (ds.filter b).map g, ρ)
  | [], acc, _ => by simp [lcF]
  | d :: ds, acc, h => by
    obtain ⟨ρ1, ρ2, e1, e2, h1, h2⟩ := h d List.mem_cons_self
    have ht : ∀ d ∈ ds, ∃ ρ1 ρ2, t d ρ = some ρ1 ∧ test ρ1 = some (b d, ρ2) ∧ (b d = true → ∃ ρ3, elt ρ2 = some (g d, ρ3) ∧ wipeL ρ3 vs = ρ) ∧ (b d = false → wipeL ρ2 vs = ρ) := fun x hx => h x (List.mem_cons_of_mem _ hx)
    unfold lcF
    rw [e1, Option.bind_some, e2, Option.bind_some]
    cases hb : b d with
    | true =>
      obtain ⟨ρ3, e3, e4⟩ := h1 hb
      simp only [if_true]
      rw [e3, Option.bind_some]
      simp only [e4]
      rw [lc_pure ht]
      simp [List.filter_cons, hb]
    | false =>
      have e4 := h2 hb
      simp only [Bool.false_eq_true, if_false, e4]
      rw [lc_pure ht]
      simp [List.filter_cons, hb]
/-- a comprehension without a test -/
theorem lc_map {vs : List Nat} {t : D → Lo → Option Lo} {elt : Fn D} {ρ : Lo} {g : D → D} {ds acc : List D} (h : ∀ d ∈ ds, ∃ ρ1, t d ρ = some ρ1 ∧ ∃ ρ3, elt ρ1 = some (g d, ρ3) ∧ wipeL ρ3 vs = ρ) :
    lcF vs t fYes elt ds acc ρ = some (acc ++ ds.map g, ρ) := by
  rw [lc_pure (b := fun _ => true) (g := g) fun d hd => by
    obtain ⟨ρ1, e1, ρ3, e3, e4⟩ := h d hd
    exact ⟨ρ1, ρ1, e1, rfl, fun _ => ⟨ρ3, e3, e4⟩, fun z => by cases z⟩]
  rw [List.filter_eq_self.mpr (fun _ _ => rfl)]
/-- a loop by an invariant -/
theorem loop_inv {t : D → Lo → Option Lo} {body : FS} (I : List D → Lo → Prop) (step : ∀ d ds ρ, I (d :: ds) ρ → ∃ ρ1 o ρ2, t d ρ = some ρ1 ∧ body ρ1 = some (o, ρ2) ∧ (o = .nx ∨ o = .ct) ∧ I ds ρ2) :
    ∀ {ds : List D} {ρ : Lo}, I ds ρ → ∃ ρ', loopF t body ds ρ = some (.nx, ρ') ∧ I [] ρ'
  | [], ρ, h => ⟨ρ, rfl, h⟩
  | d :: ds, ρ, h => by
    obtain ⟨ρ1, o, ρ2, e1, e2, ho, h2⟩ := step d ds ρ h
    obtain ⟨ρ', e3, h3⟩ := loop_inv I step h2
    refine ⟨ρ', ?_, h3⟩
    unfold loopF
    rw [e1, Option.bind_some, e2, Option.bind_some]
    rcases ho with rfl | rfl <;> exact e3
/-- a comprehension by an invariant -/
theorem lc_inv {vs : List Nat} {t : D → Lo → Option Lo} {test : FT} {elt : Fn D} (I : List D → List D → Lo → Prop)
    (step : ∀ d ds acc ρ, I (d :: ds) acc ρ → ∃ ρ1 b ρ2, t d ρ = some ρ1 ∧ test ρ1 = some (b, ρ2) ∧ (b = true → ∃ y ρ3, elt ρ2 = some (y, ρ3) ∧ I ds (acc ++ [y]) (wipeL ρ3 vs)) ∧ (b = false → I ds acc (wipeL ρ2 vs))) :
    ∀ {ds acc : List D} {ρ : Lo}, I ds acc ρ → ∃ out ρ', lcF vs t test elt ds acc ρ = some (out, ρ') ∧ I [] out ρ'
  | [], acc, ρ, h => ⟨acc, ρ, rfl, h⟩
  | d :: ds, acc, ρ, h => by
    obtain ⟨ρ1, b, ρ2, e1, e2, h1, h2⟩ := step d ds acc ρ h
    unfold lcF
    rw [e1, Option.bind_some, e2, Option.bind_some]
    cases b with
    | true =>
      obtain ⟨y, ρ3, e3, i3⟩ := h1 rfl
      simp only [if_true]
      rw [e3, Option.bind_some]
      exact lc_inv I step i3
    | false =>
      simp only [Bool.false_eq_true, if_false]
      exact lc_inv I step (h2 rfl)
/-! ### statements, by what is wanted behind them -/
def Ok (x : Option (Out × Lo)) (P : Out → Lo → Prop) : Prop := ∃ o ρ, x = some (o, ρ) ∧ P o ρ
section
variable {Γ : Gam} {s : S} {ss a b : Ss} {c : C} {t : Tg} {it : Ci} {ρ ρ1 : Lo} {P : Out → Lo → Prop} {ds : List D}
theorem ok_leaf {o : Out} (h : s.den Γ ρ = some (o, ρ1)) (k : P o ρ1) : Ok (s.den Γ ρ) P := ⟨o, ρ1, h, k⟩
theorem ok_nil (k : P .nx ρ) : Ok (Ss.nil.den Γ ρ) P := ⟨.nx, ρ, by simp only [Ss.den, fNop], k⟩
theorem ok_cons (h : Ok (s.den Γ ρ) fun o ρ1 => match o with
    | .nx => Ok (ss.den Γ ρ1) P
    | o => P o ρ1) : Ok ((Ss.cons s ss).den Γ ρ) P := by
  obtain ⟨o, ρ1, e, k⟩ := h
  unfold Ok
  simp only [Ss.den, fSeq]
  rw [e]
  cases o with
  | nx => exact k
  | rt r => exact ⟨_, _, rfl, k⟩
  | bk => exact ⟨_, _, rfl, k⟩
  | ct => exact ⟨_, _, rfl, k⟩
theorem ok_step (h : s.den Γ ρ = some (.nx, ρ1)) (k : Ok (ss.den Γ ρ1) P) : Ok ((Ss.cons s ss).den Γ ρ) P := ok_cons ⟨.nx, ρ1, h, k⟩
theorem ok_last {r : RR} (h : s.den Γ ρ = some (.rt r, ρ1)) (k : P (.rt r) ρ1) : Ok ((Ss.cons s ss).den Γ ρ) P := ok_cons ⟨.rt r, ρ1, h, k⟩
theorem ok_mono {x : Option (Out × Lo)} {P' : Out → Lo → Prop} (h : Ok x P') (w : ∀ o ρ, P' o ρ → P o ρ) : Ok x P := let ⟨o, ρ, e, k⟩ := h; ⟨o, ρ, e, w o ρ k⟩
theorem ok_if {v : Bool} (h : c.denT Γ ρ = some (v, ρ1)) (x : v = true → Ok (a.den Γ ρ1) P) (y : v = false → Ok (b.den Γ ρ1) P) : Ok ((S.ife c a b).den Γ ρ) P := by
  have q : (S.ife c a b).den Γ ρ = if v then a.den Γ ρ1 else b.den Γ ρ1 := by
    simp only [S.den, fIfS]
    rw [h]
    rfl
  unfold Ok
  rw [q]
  cases v with
  | true => exact x rfl
  | false => exact y rfl
theorem loop_ok {t : D → Lo → Option Lo} {body : FS} (I : List D → Lo → Prop) (step : ∀ d ds ρ, I (d :: ds) ρ → ∃ ρ1, t d ρ = some ρ1 ∧ Ok (body ρ1) fun o ρ2 => match o with
    | .nx => I ds ρ2
    | .ct => I ds ρ2
    | .bk => P .nx ρ2
    | .rt r => P (.rt r) ρ2) (fin : ∀ ρ, I [] ρ → P .nx ρ) : ∀ {ds : List D} {ρ : Lo}, I ds ρ → Ok (loopF t body ds ρ) P
  | [], ρ, h => ⟨.nx, ρ, rfl, fin ρ h⟩
  | d :: ds, ρ, h => by
    obtain ⟨ρ1, e1, o, ρ2, e2, k⟩ := step d ds ρ h
    unfold loopF
    rw [e1, Option.bind_some, e2]
    cases o with
    | nx => exact loop_ok I step fin k
    | ct => exact loop_ok I step fin k
    | bk => exact ⟨_, _, rfl, k⟩
    | rt r => exact ⟨_, _, rfl, k⟩
theorem ok_for (I : List D → Lo → Prop) (h : it.den Γ ρ = some (ds, ρ1)) (h0 : I ds ρ1) (step : ∀ d ds ρ, I (d :: ds) ρ → ∃ ρ1, t.den d ρ = some ρ1 ∧ Ok (a.den Γ ρ1) fun o ρ2 => match o with
    | .nx => I ds ρ2
    | .ct => I ds ρ2
    | .bk => P .nx ρ2
    | .rt r => P (.rt r) ρ2) (fin : ∀ ρ, I [] ρ → P .nx ρ) : Ok ((S.fors t it a).den Γ ρ) P := by
  have q : (S.fors t it a).den Γ ρ = loopF t.den (a.den Γ) ds ρ1 := by
    simp only [S.den, fFor]
    rw [h]
    rfl
  unfold Ok
  rw [q]
  exact loop_ok I step fin h0
theorem while_ok {fc : FT} {fb : FS} (I : Nat → Lo → Prop) (step : ∀ n ρ, I n ρ → ∃ v ρ1, fc ρ = some (v, ρ1) ∧ (v = false → P .nx ρ1) ∧ (v = true → ∃ m, n = m + 1 ∧ Ok (fb ρ1) fun o ρ2 => match o with
    | .nx => I m ρ2
    | .ct => I m ρ2
    | .bk => P .nx ρ2
    | .rt r => P (.rt r) ρ2)) : ∀ {n k : Nat} {ρ : Lo}, I n ρ → n < k → Ok (whF fc fb k ρ) P
  | n, 0, ρ, _, hk => by omega
  | n, k + 1, ρ, h, hk => by
    obtain ⟨v, ρ1, e1, f1, f2⟩ := step n ρ h
    cases v with
    | false =>
      refine ⟨.nx, ρ1, ?_, f1 rfl⟩
      unfold whF
      rw [e1]
      rfl
    | true =>
      obtain ⟨m, rfl, o, ρ2, e2, kk⟩ := f2 rfl
      unfold whF
      rw [e1, Option.bind_some]
      simp only [if_true]
      rw [e2]
      cases o with
      | nx => exact while_ok I step kk (by omega)
      | ct => exact while_ok I step kk (by omega)
      | bk => exact ⟨_, _, rfl, kk⟩
      | rt r => exact ⟨_, _, rfl, kk⟩
theorem ok_while {n : Nat} (I : Nat → Lo → Prop) (h0 : I n ρ) (hn : n < 1000000) (step : ∀ n ρ, I n ρ → ∃ v ρ1, c.denT Γ ρ = some (v, ρ1) ∧ (v = false → P .nx ρ1) ∧ (v = true → ∃ m, n = m + 1 ∧ Ok (a.den Γ ρ1) fun o ρ2 => match o with
    | .nx => I m ρ2
    | .ct => I m ρ2
    | .bk => P .nx ρ2
    | .rt r => P (.rt r) ρ2)) : Ok ((S.whl c a).den Γ ρ) P := by
  have q : (S.whl c a).den Γ ρ = whF (c.denT Γ) (a.den Γ) 1000000 ρ := by
    simp only [S.den]
    rfl
  unfold Ok
  rw [q]
  exact while_ok I step h0 hn
/-- what a def answers -/
def Ans (x : Option (RR × List D)) (Q : RR → List D → Prop) : Prop := ∃ r β, x = some (r, β) ∧ Q r β
theorem run_f {more : Nat} {β : List D} {Q : RR → List D → Prop} (h : Ok (ss.den Γ (ds.map .va ++ List.replicate more .no)) fun o _ => match o with
    | .rt r => Q r []
    | .nx => Q (.va .none) []
    | _ => False) : Ans (bodyRun false more (ss.den Γ) β ds) Q := by
  obtain ⟨o, ρ, e, k⟩ := h
  unfold bodyRun parL
  rw [if_neg (by simp), e]
  cases o with
  | rt r => exact ⟨r, [], rfl, k⟩
  | nx => exact ⟨_, [], rfl, k⟩
  | bk => exact k.elim
  | ct => exact k.elim
theorem run_t {more : Nat} {β : List D} {Q : RR → List D → Prop} (h : Ok (ss.den Γ (.bg β :: ds.map .va ++ List.replicate more .no)) fun o ρ => ∃ β', ρ[0]? = some (.bg β') ∧ match o with
    | .rt r => Q r β'
    | .nx => Q (.va .none) β'
    | _ => False) : Ans (bodyRun true more (ss.den Γ) β ds) Q := by
  obtain ⟨o, ρ, e, β', e2, k⟩ := h
  unfold bodyRun parL
  rw [if_pos rfl, e]
  cases o with
  | rt r => exact ⟨r, β', by simp [e2], k⟩
  | nx => exact ⟨_, β', by simp [e2], k⟩
  | bk => exact k.elim
  | ct => exact k.elim
end
end Den

set_option autoImplicit false
/-! Data-level denotations: small data are fine; lists of numbers. -/
namespace Den
open PySem PySem.Spec L2
mutual
def sm : D → Bool
  | .none => true
  | .bool _ => true
  | .int i => decide (i.natAbs < 10 ^ 12)
  | .str x => x.cps.all (· < 0x110000)
  | .list xs => sms xs
  | .tuple xs => sms xs
  | .dict _ => false
def sms : List D → Bool
  | [] => true
  | x :: xs => sm x && sms xs
end
theorem sms_iff : ∀ {xs : List D}, sms xs = true ↔ ∀ x ∈ xs, sm x = true
  | [] => by simp [sms]
  | x :: xs => by simp [sms, sms_iff (xs := xs)]
theorem log_small {n : Nat} (h : n < 10 ^ 12) : n.log2 < 1920 := by
  by_cases h0 : n = 0
  · subst h0
    decide
  · rw [Nat.log2_lt h0]
    exact Nat.lt_trans h (by decide +kernel)
mutual
theorem sm_ok : ∀ d : D, sm d = true → d.leavesShort 13 = true ∧ d.canLay0 = true ∧ d.showable = true ∧ d.hasDict = false
  | .none, _ => ⟨by simp [PyData.leavesShort], by simp [PyData.canLay0], by simp [PyData.showable], by simp [PyData.hasDict]⟩
  | .bool _, _ => ⟨by simp [PyData.leavesShort], by simp [PyData.canLay0], by simp [PyData.showable], by simp [PyData.hasDict]⟩
  | .int i, h => by
    have q : i.natAbs < 10 ^ 12 := by simpa [sm] using h
    exact ⟨by simpa [PyData.leavesShort] using PyData.shown_int_le q, by simp [PyData.canLay0], by simpa [PyData.showable] using log_small q, by simp [PyData.hasDict]⟩
  | .str x, h => by
    refine ⟨?_, by simpa only [PyData.canLay0, PyData.strOk, sm] using h, by simp [PyData.showable], by simp [PyData.hasDict]⟩
    have q : ∀ c ∈ x.cps.toList, c < 0x110000 := by
      have h2 : x.cps.all (· < 0x110000) = true := by simpa only [sm] using h
      rw [← Array.all_toList, List.all_eq_true] at h2
      exact fun c hc => of_decide_eq_true (h2 c hc)
    simp only [PyData.leavesShort, List.all_eq_true, decide_eq_true_eq]
    exact fun c hc => Nat.lt_trans (q c hc) (by decide)
  | .list xs, h => by
    have q := sms_ok xs (by simpa only [sm] using h)
    exact ⟨by simpa only [PyData.leavesShort] using q.1, by simpa only [PyData.canLay0] using q.2.1, by simpa only [PyData.showable] using q.2.2.1, by simpa only [PyData.hasDict] using q.2.2.2⟩
  | .tuple xs, h => by
    have q := sms_ok xs (by simpa only [sm] using h)
    exact ⟨by simpa only [PyData.leavesShort] using q.1, by simpa only [PyData.canLay0] using q.2.1, by simpa only [PyData.showable] using q.2.2.1, by simpa only [PyData.hasDict] using q.2.2.2⟩
  | .dict _, h => by simp [sm] at h
theorem sms_ok : ∀ xs : List D, sms xs = true → PyData.leavesShortAll 13 xs = true ∧ PyData.canLayAll0 xs = true ∧ PyData.showableAll xs = true ∧ PyData.hasDictAll xs = false
  | [], _ => ⟨by simp [PyData.leavesShortAll], by simp [PyData.canLayAll0], by simp [PyData.showableAll], by simp [PyData.hasDictAll]⟩
  | x :: xs, h => by
    have h2 : sm x = true ∧ sms xs = true := by simpa [sms] using h
    have a := sm_ok x h2.1
    have b := sms_ok xs h2.2
    exact ⟨by simp [PyData.leavesShortAll, a.1, b.1], by simp [PyData.canLayAll0, a.2.1, b.2.1], by simp [PyData.showableAll, a.2.2.1, b.2.2.1], by simp [PyData.hasDictAll, a.2.2.2, b.2.2.2]⟩
end
theorem fine_of {d : D} (h : sm d = true) (hd : d.depth ≤ 64) (hb : d.bulk ≤ 60000) : Fine d := by
  obtain ⟨h1, h2, h3, h4⟩ := sm_ok d h
  refine ⟨?_, h3, h4, ?_⟩
  · unfold SeqAt.shaped
    simp [h2, hd]
  · have := PyData.shown_le_bulk 13 (by decide) d h1
    show _ ≤ 1000000
    omega
theorem bulk_le {b : Nat} : ∀ {xs : List D}, (∀ x ∈ xs, x.bulk ≤ b) → PyData.bulkAll xs ≤ (b + 1) * xs.length
  | [], _ => by simp [PyData.bulkAll]
  | x :: xs, h => by
    have h1 := h x List.mem_cons_self
    have h2 := bulk_le (b := b) (xs := xs) fun y hy => h y (List.mem_cons_of_mem _ hy)
    simp only [PyData.bulkAll, List.length_cons, Nat.mul_add, Nat.mul_one]
    omega
theorem depth_le {b : Nat} : ∀ {xs : List D}, (∀ x ∈ xs, x.depth ≤ b) → PyData.depthAll xs ≤ b
  | [], _ => by simp [PyData.depthAll]
  | x :: xs, h => by
    have h1 := h x List.mem_cons_self
    have h2 := depth_le (b := b) (xs := xs) fun y hy => h y (List.mem_cons_of_mem _ hy)
    simp only [PyData.depthAll]
    omega
theorem fine_bool {b : Bool} : Fine (.bool b) := fine_of rfl (by simp [PyData.depth]) (by simp [PyData.bulk])
/-! ### lists of numbers -/
def nI (n : Nat) : D := .int (n : Int)
def nD (ns : List Nat) : List D := ns.map nI
theorem nD_len {ns : List Nat} : (nD ns).length = ns.length := List.length_map ..
theorem fine_nats {ns : List Nat} (h : ∀ n ∈ ns, n ≤ 1000) (hl : ns.length ≤ 1000) : Fine (.tuple (nD ns)) ∧ Fine (.list (nD ns)) := by
  have a : sms (nD ns) = true := sms_iff.mpr fun x hx => by
    obtain ⟨n, hn, rfl⟩ := List.mem_map.mp hx
    have := h n hn
    simp [sm, nI]
    omega
  have b : PyData.depthAll (nD ns) ≤ 1 := depth_le fun x hx => by
    obtain ⟨n, hn, rfl⟩ := List.mem_map.mp hx
    simp [PyData.depth, nI]
  have c : PyData.bulkAll (nD ns) ≤ (0 + 1) * (nD ns).length := bulk_le fun x hx => by
    obtain ⟨n, hn, rfl⟩ := List.mem_map.mp hx
    simp [PyData.bulk, nI]
  rw [nD_len] at c
  refine ⟨fine_of (by simpa only [sm] using a) ?_ ?_, fine_of (by simpa only [sm] using a) ?_ ?_⟩
  all_goals first | (simp only [PyData.depth]; omega) | (simp only [PyData.bulk]; omega)
theorem any_nat {p : Nat} : ∀ {ns : List Nat}, ((nD ns).any fun z => PyData.eqv z (.int (p : Int))) = decide (p ∈ ns)
  | [] => by simp [nD]
  | n :: ns => by
    have ih := any_nat (p := p) (ns := ns)
    rw [nD, List.map_cons, List.any_cons, ← nD, ih]
    have e : PyData.eqv (nI n) (.int (p : Int)) = decide (p = n) := by
      simp only [PyData.eqv, nI]
      by_cases h : p = n
      · simp [h]
      · have : ((n : Int) == (p : Int)) = false := by
          rw [beq_eq_false_iff_ne]
          omega
        simp [this, h]
    rw [e]
    by_cases h : p = n <;> simp [h]
theorem any_none : ∀ {ns : List Nat}, ((nD ns).any fun z => PyData.eqv z .none) = false
  | [] => by simp [nD]
  | n :: ns => by
    have ih := any_none (ns := ns)
    rw [nD, List.map_cons, List.any_cons, ← nD, ih]
    simp [PyData.eqv, nI]
theorem sh_nats {ns : List Nat} : SeqAt.shaped (.list (nD ns)) = true ∧ SeqAt.shaped (.tuple (nD ns)) = true := by
  have a : PyData.canLayAll0 (nD ns) = true := by
    induction ns with
    | nil => simp [nD, PyData.canLayAll0]
    | cons n ns ih =>
      rw [nD, List.map_cons, ← nD]
      simp [PyData.canLayAll0, PyData.canLay0, nI, ih]
  have b : PyData.depthAll (nD ns) ≤ 1 := depth_le fun x hx => by
    obtain ⟨n, hn, rfl⟩ := List.mem_map.mp hx
    simp [PyData.depth, nI]
  constructor
  · have e : PyData.depth (.list (nD ns)) ≤ 64 := by
      simp only [PyData.depth]
      omega
    unfold SeqAt.shaped
    simp only [PyData.canLay0, a, Bool.true_and, decide_eq_true_eq]
    exact e
  · have e : PyData.depth (.tuple (nD ns)) ≤ 64 := by
      simp only [PyData.depth]
      omega
    unfold SeqAt.shaped
    simp only [PyData.canLay0, a, Bool.true_and, decide_eq_true_eq]
    exact e
theorem in_nat {p : Nat} {ns : List Nat} : φIn (.int (p : Int)) (.list (nD ns)) = some (.va (.bool (decide (p ∈ ns)))) := by
  unfold φIn
  simp only [sh_nats.1, any_nat]
  exact if_pos ⟨rfl, trivial⟩
theorem in_natT {p : Nat} {ns : List Nat} : φIn (.int (p : Int)) (.tuple (nD ns)) = some (.va (.bool (decide (p ∈ ns)))) := by
  unfold φIn
  simp only [sh_nats.2, any_nat]
  exact if_pos ⟨rfl, trivial⟩
theorem in_noneT {ns : List Nat} : φIn .none (.tuple (nD ns)) = some (.va (.bool false)) := by
  unfold φIn
  simp only [sh_nats.2, any_none]
  exact if_pos ⟨rfl, trivial⟩
theorem notin_natT {p : Nat} {ns : List Nat} : φNotIn (.int (p : Int)) (.tuple (nD ns)) = some (.va (.bool (!decide (p ∈ ns)))) := by
  unfold φNotIn
  simp only [sh_nats.2, any_nat]
  exact if_pos ⟨rfl, trivial⟩
theorem rng_nat {n : Nat} : rng 0 (n : Int) = nD (List.range n) := by
  unfold rng nD
  rw [show ((n : Int) - 0).toNat = n by omega]
  exact List.map_congr_left fun i _ => by simp [nI]
theorem rng_nat2 {a n : Nat} (h : a ≤ n) : rng (a : Int) (n : Int) = nD ((List.range (n - a)).map (a + ·)) := by
  unfold rng nD
  rw [show ((n : Int) - (a : Int)).toNat = n - a by omega, List.map_map]
  exact List.map_congr_left fun i _ => by simp [nI]
/-! ### ranges -/
section
variable {Γ : Gam} {a b : C} {x y : Int} {ρ ρ1 ρ2 : Lo}
theorem it_rng1 (ha : a.den Γ ρ = some (.va (.int x), ρ1)) (h : -1000000 ≤ x ∧ x ≤ 1000000) : (Ci.rng1 a).den Γ ρ = some (rng 0 x, ρ1) := by
  simp only [Ci.den, fR1, fsCons, fsNil, fV]
  rw [ha]
  simp only [Option.map_some, Option.bind_some, half, vws, vw]
  exact if_pos h
theorem it_rng2 (ha : a.den Γ ρ = some (.va (.int x), ρ1)) (hb : b.den Γ ρ1 = some (.va (.int y), ρ2)) (h : -1000000 ≤ x ∧ x ≤ 1000000 ∧ -1000000 ≤ y ∧ y ≤ 1000000) : (Ci.rng2 a b).den Γ ρ = some (rng x y, ρ2) := by
  simp only [Ci.den, fR1, fsCons, fsNil, fV]
  rw [ha]
  simp only [Option.map_some, Option.bind_some, half]
  rw [hb]
  simp only [Option.map_some, Option.bind_some, half, vws, vw]
  exact if_pos h
end
/-! ### comprehensions, by their values -/
theorem lc_gen {α : Type} {f g : α → D} {b : α → Bool} {vs : List Nat} {t : D → Lo → Option Lo} {test : FT} {elt : Fn D} {ρ : Lo} : ∀ {l : List α} {acc : List D}, (∀ a ∈ l, ∃ ρ1 ρ2, t (f a) ρ = some ρ1 ∧ test ρ1 = some (b a, ρ2) ∧
    (b a = true → ∃ ρ3, elt ρ2 = some (g a, ρ3) ∧ wipeL ρ3 vs = ρ) ∧ (b a = false → wipeL ρ2 vs = ρ)) → lcF vs t test elt (l.map f) acc ρ = some (acc ++ (l.filter b).map g, ρ)
  | [], acc, _ => by simp [lcF]
  | d :: ds, acc, h => by
    obtain ⟨ρ1, ρ2, e1, e2, h1, h2⟩ := h d List.mem_cons_self
    have ht : ∀ d ∈ ds, ∃ ρ1 ρ2, t (f d) ρ = some ρ1 ∧ test ρ1 = some (b d, ρ2) ∧ (b d = true → ∃ ρ3, elt ρ2 = some (g d, ρ3) ∧ wipeL ρ3 vs = ρ) ∧ (b d = false → wipeL ρ2 vs = ρ) := fun x hx => h x (List.mem_cons_of_mem _ hx)
    rw [List.map_cons]
    unfold lcF
    rw [e1, Option.bind_some, e2, Option.bind_some]
    cases hb : b d with
    | true =>
      obtain ⟨ρ3, e3, e4⟩ := h1 hb
      simp only [if_true]
      rw [e3, Option.bind_some]
      simp only [e4]
      rw [lc_gen ht]
      simp [List.filter_cons, hb]
    | false =>
      have e4 := h2 hb
      simp only [Bool.false_eq_true, if_false, e4]
      rw [lc_gen ht]
      simp [List.filter_cons, hb]
section
variable {Γ : Gam} {own : List (Str × Nat)} {elt : C} {tg : Tg} {it : Ci} {ifs : Co} {ρ ρ1 ρ2 : Lo} {ds out : List D}
theorem lc_val (hi : it.den Γ ρ = some (ds, ρ1)) (hl : ds.length ≤ lim) (h : lcF (own.map (·.2)) tg.den (ifs.denT Γ) (fF (elt.den Γ)) ds [] (wipeL ρ1 (own.map (·.2))) = some (out, ρ2)) :
    (C.lc own elt tg it ifs).den Γ ρ = some (.ls out, restL ρ1 ρ2 (own.map (·.2))) := by
  simp only [C.den, fLc]
  rw [hi, Option.bind_some, if_pos hl, h]
  rfl
/-- a comprehension that changes nothing -/
theorem lc_of {α : Type} {f g : α → D} {b : α → Bool} {l : List α} (hi : it.den Γ ρ = some (l.map f, ρ1)) (hl : l.length ≤ lim) (hr : restL ρ1 (wipeL ρ1 (own.map (·.2))) (own.map (·.2)) = ρ2)
    (h : ∀ a ∈ l, ∃ ρ3 ρ4, tg.den (f a) (wipeL ρ1 (own.map (·.2))) = some ρ3 ∧ ifs.denT Γ ρ3 = some (b a, ρ4) ∧ (b a = true → ∃ ρ5, fF (elt.den Γ) ρ4 = some (g a, ρ5) ∧ wipeL ρ5 (own.map (·.2)) = wipeL ρ1 (own.map (·.2))) ∧ (b a = false → wipeL ρ4 (own.map (·.2)) = wipeL ρ1 (own.map (·.2)))) :
    (C.lc own elt tg it ifs).den Γ ρ = some (.ls ((l.filter b).map g), ρ2) := by
  rw [← hr]
  exact lc_val hi (by rw [List.length_map]; exact hl) (by rw [lc_gen h]; rfl)
end
theorem enum_map {xs : List D} : ∀ {k : Nat}, enumFrom k xs = (List.range xs.length).map fun i => .tuple [.int ((k + i : Nat) : Int), xs[i]?.getD .none] := by
  induction xs with
  | nil => intro k; rfl
  | cons x xs ih =>
    intro k
    rw [enumFrom, ih, List.length_cons, List.range_succ_eq_map, List.map_cons, List.map_map]
    refine congr (congrArg List.cons (by simp)) (List.map_congr_left fun i _ => ?_)
    have e : k + 1 + i = k + (i + 1) := by omega
    simp [e]
/-! ### sorted -/
theorem alike_nats {ns : List Nat} : alikes (nD ns) = true := by
  unfold alikes
  rw [List.all_eq_true]
  intro x hx
  rw [List.all_eq_true]
  intro y hy
  obtain ⟨a, _, rfl⟩ := List.mem_map.mp hx
  obtain ⟨b, _, rfl⟩ := List.mem_map.mp hy
  rfl
theorem sort_perm {ds : List D} : (sortD ds).Perm ds := List.mergeSort_perm _ _
theorem sort_nats {ns : List Nat} : ∃ ms : List Nat, sortD (nD ns) = nD ms ∧ ms.Perm ns := by
  have p := sort_perm (ds := nD ns)
  have all : ∀ x ∈ sortD (nD ns), ∃ n : Nat, x = nI n := fun x hx => by
    obtain ⟨n, _, rfl⟩ := List.mem_map.mp (p.mem_iff.mp hx)
    exact ⟨n, rfl⟩
  have inv : ∀ {l : List D}, (∀ x ∈ l, ∃ n : Nat, x = nI n) → ∃ ms : List Nat, l = nD ms := by
    intro l
    induction l with
    | nil => exact fun _ => ⟨[], rfl⟩
    | cons x l ih =>
      intro h
      obtain ⟨n, rfl⟩ := h x List.mem_cons_self
      obtain ⟨ms, rfl⟩ := ih fun y hy => h y (List.mem_cons_of_mem _ hy)
      exact ⟨n :: ms, rfl⟩
  obtain ⟨ms, e⟩ := inv all
  refine ⟨ms, e, ?_⟩
  rw [e] at p
  have q := p.map (fun d => match d with | .int i => i.toNat | _ => 0)
  have r : ∀ l : List Nat, (nD l).map (fun d => match d with | .int i => i.toNat | _ => 0) = l := fun l => by
    unfold nD
    rw [List.map_map]
    conv => rhs; rw [← List.map_id l]
    exact List.map_congr_left fun i _ => by simp [nI]
  rw [r, r] at q
  exact q
theorem sorted_nats {ns : List Nat} (h : ns.length ≤ lim) : φSorted [.list (nD ns)] = some (.ls (sortD (nD ns))) := by
  unfold φSorted
  refine if_pos ⟨alike_nats, .inr ?_, by rw [nD_len]; exact h, ?_⟩
  · rw [List.all_eq_true]
    intro x hx
    obtain ⟨a, _, rfl⟩ := List.mem_map.mp hx
    rfl
  · rw [List.all_eq_true]
    intro x hx
    obtain ⟨a, _, rfl⟩ := List.mem_map.mp hx
    simp [nI, PyData.depth]
end Den

set_option autoImplicit false
namespace W
open PySem PySem.Spec L2 Den
def c_branch_of : Ss :=
  (.cons (.set 2 (.lst (.cons (.var 1) .nil)))
  (.cons (.fors (.nm 3) (.rng2 (.bin .add (.var 1) (.int 1)) (.blt .len (.cons (.ix (.var 0) (.int 0)) .nil)))
    (.cons (.ife (.cmp .isin (.ix (.ix (.ix (.var 0) (.int 0)) (.var 3)) (.int 0)) (.var 2))
      (.cons (.exp (.mut .append 2 (.cons (.var 3) .nil))) .nil)
      .nil) .nil))
  (.cons (.ret (.blt .tuple (.cons (.var 2) .nil))) .nil)))
def g_branch_of : Gam := ⟨[], [], ["range", "len", "tuple"]⟩
def d_branch_of : FD := fdOf g_branch_of false 2 2 c_branch_of
theorem mt_branch_of : d_branch_of.mt = false := nr rfl
theorem np_branch_of : d_branch_of.np = 2 := nr rfl
theorem r_branch_of {β ds : List D} : d_branch_of.run β ds = bodyRun false 2 (c_branch_of.den g_branch_of) β ds := by unfold d_branch_of; exact fdrun
def c_way_to : Ss :=
  (.cons (.set 2 (.lst (.cons (.var 1) .nil)))
  (.cons (.set 3 (.ix (.ix (.ix (.var 0) (.int 0)) (.var 1)) (.int 0)))
  (.cons (.whl (.cmp .isnot (.var 3) .non)
    (.cons (.exp (.mut .append 2 (.cons (.var 3) .nil)))
    (.cons (.set 3 (.ix (.ix (.ix (.var 0) (.int 0)) (.var 3)) (.int 0))) .nil)))
  (.cons (.ret (.blt .tuple (.cons (.blt .sorted (.cons (.var 2) .nil)) .nil))) .nil))))
def g_way_to : Gam := ⟨[], [], ["tuple", "sorted"]⟩
def d_way_to : FD := fdOf g_way_to false 2 2 c_way_to
theorem mt_way_to : d_way_to.mt = false := nr rfl
theorem np_way_to : d_way_to.np = 2 := nr rfl
theorem r_way_to {β ds : List D} : d_way_to.run β ds = bodyRun false 2 (c_way_to.den g_way_to) β ds := by unfold d_way_to; exact fdrun
def q_way_has_bar_0 : C := .lc [("v", 2)] (.cmp .eq (.ix (.ix (.ix (.var 0) (.int 0)) (.var 2)) (.int 1)) (.str "bar")) (.nm 2) (.seq (.call 0 (.cons (.var 0) (.cons (.var 1) .nil)))) .no
def c_way_has_bar : Ss :=
  (.cons (.ret (.and (.cons (.cmp .isnot (.var 1) .non) (.cons (.blt .any (.cons q_way_has_bar_0 .nil)) .nil)))) .nil)
def g_way_has_bar : Gam := ⟨[("way_to", d_way_to)], [], ["any"]⟩
def d_way_has_bar : FD := fdOf g_way_has_bar false 2 1 c_way_has_bar
theorem f_way_has_bar_0 : g_way_has_bar.fns[0]? = some (("way_to" : Str), d_way_to) := rfl
theorem mt_way_has_bar : d_way_has_bar.mt = false := nr rfl
theorem np_way_has_bar : d_way_has_bar.np = 2 := nr rfl
theorem r_way_has_bar {β ds : List D} : d_way_has_bar.run β ds = bodyRun false 1 (c_way_has_bar.den g_way_has_bar) β ds := by unfold d_way_has_bar; exact fdrun
def q_rim_of_0 : C := .lc [("v", 2), ("room", 3)] (.var 2) (.tp [(.nm 2), (.nm 3)]) (.enum (.ix (.var 0) (.int 0))) (.so (.and (.cons (.cmp .notin (.var 2) (.var 1)) (.cons (.cmp .isin (.ix (.var 3) (.int 0)) (.var 1)) .nil))))
def c_rim_of : Ss :=
  (.cons (.ret (.blt .tuple (.cons q_rim_of_0 .nil))) .nil)
def g_rim_of : Gam := ⟨[], [], ["tuple", "enumerate"]⟩
def d_rim_of : FD := fdOf g_rim_of false 2 2 c_rim_of
theorem mt_rim_of : d_rim_of.mt = false := nr rfl
theorem np_rim_of : d_rim_of.np = 2 := nr rfl
theorem r_rim_of {β ds : List D} : d_rim_of.run β ds = bodyRun false 2 (c_rim_of.den g_rim_of) β ds := by unfold d_rim_of; exact fdrun
def q_lbag_0 : C := .lc [("cell", 1)] (.blt .abs (.cons (.var 1) .nil)) (.nm 1) (.seq (.sl (.var 0) .no (.so (.int 63)))) .no
def c_lbag : Ss :=
  (.cons (.ret (.lst (.cons (.int 0) (.cons (.int 1234567891) (.cons (.int 0) (.cons q_lbag_0 .nil)))))) .nil)
def g_lbag : Gam := ⟨[], [], ["abs"]⟩
def d_lbag : FD := fdOf g_lbag false 1 1 c_lbag
theorem mt_lbag : d_lbag.mt = false := nr rfl
theorem np_lbag : d_lbag.np = 1 := nr rfl
theorem r_lbag {β ds : List D} : d_lbag.run β ds = bodyRun false 1 (c_lbag.den g_lbag) β ds := by unfold d_lbag; exact fdrun
def c_ltake : Ss :=
  (.cons (.ife (.cmp .eq (.ix (.var 0) (.int 0)) (.int 0))
    (.cons (.set 2 (.ix (.bin .add (.sl (.ix (.var 0) (.int 3)) (.so (.ix (.var 0) (.int 2))) .no) (.lst (.cons (.int 0) .nil))) (.int 0)))
    (.cons (.augIx 0 (.int 2) (.int 1))
    (.cons (.ife (.cmp .ge (.var 2) (.bin .pow (.int 10) (.int 18)))
      (.cons (.setIx 0 (.int 0) (.var 2)) .nil)
      .nil)
    (.cons (.set 3 (.bin .add (.bin .add (.bin .mul (.ix (.var 0) (.int 1)) (.int 48271)) (.bin .mod (.blt .int (.cons (.var 2) .nil)) (.int 2147483647))) (.bin .mul (.int 7919) (.ix (.var 0) (.int 2)))))
    (.cons (.setIx 0 (.int 1) (.bin .mod (.blt .int (.cons (.var 3) .nil)) (.int 2147483647))) .nil)))))
    .nil)
  (.cons (.ife (.cmp .gt (.ix (.var 0) (.int 0)) (.int 0))
    (.cons (.set 4 (.bin .mod (.blt .int (.cons (.ix (.var 0) (.int 0)) .nil)) (.var 1)))
    (.cons (.setIx 0 (.int 0) (.bin .div (.blt .int (.cons (.ix (.var 0) (.int 0)) .nil)) (.var 1)))
    (.cons (.ret (.var 4)) .nil)))
    .nil)
  (.cons (.set 5 (.bin .mod (.blt .int (.cons (.bin .mul (.bin .add (.ix (.var 0) (.int 1)) (.int 1)) (.int 39373)) .nil)) (.int 1000000007)))
  (.cons (.set 6 (.bin .mod (.blt .int (.cons (.bin .mul (.bin .mod (.blt .int (.cons (.bin .mul (.var 5) (.var 5)) .nil)) (.int 998244353)) (.int 30011)) .nil)) (.int 998244353)))
  (.cons (.ret (.bin .mod (.blt .int (.cons (.bin .div (.var 6) (.int 7)) .nil)) (.var 1))) .nil)))))
def g_ltake : Gam := ⟨[], [], ["int"]⟩
def d_ltake : FD := fdOf g_ltake true 2 5 c_ltake
theorem mt_ltake : d_ltake.mt = true := nr rfl
theorem np_ltake : d_ltake.np = 2 := nr rfl
theorem r_ltake {β ds : List D} : d_ltake.run β ds = bodyRun true 5 (c_ltake.den g_ltake) β ds := by unfold d_ltake; exact fdrun
def c_lsome : Ss :=
  (.cons (.ret (.ix (.var 1) (.callM 0 0 (.cons (.blt .len (.cons (.var 1) .nil)) .nil)))) .nil)
def g_lsome : Gam := ⟨[("_law_take", d_ltake)], [], ["len"]⟩
def d_lsome : FD := fdOf g_lsome true 2 0 c_lsome
theorem f_lsome_0 : g_lsome.fns[0]? = some (("_law_take" : Str), d_ltake) := rfl
theorem mt_lsome : d_lsome.mt = true := nr rfl
theorem np_lsome : d_lsome.np = 2 := nr rfl
theorem r_lsome {β ds : List D} : d_lsome.run β ds = bodyRun true 0 (c_lsome.den g_lsome) β ds := by unfold d_lsome; exact fdrun
def c_lmixed : Ss :=
  (.cons (.set 2 (.lst .nil))
  (.cons (.fors (.nm 3) (.seq (.var 1))
    (.cons (.exp (.mut .insert 2 (.cons (.callM 0 0 (.cons (.bin .add (.blt .len (.cons (.var 2) .nil)) (.int 1)) .nil)) (.cons (.var 3) .nil)))) .nil))
  (.cons (.ret (.var 2)) .nil)))
def g_lmixed : Gam := ⟨[("_law_take", d_ltake)], [], ["len"]⟩
def d_lmixed : FD := fdOf g_lmixed true 2 2 c_lmixed
theorem f_lmixed_0 : g_lmixed.fns[0]? = some (("_law_take" : Str), d_ltake) := rfl
theorem mt_lmixed : d_lmixed.mt = true := nr rfl
theorem np_lmixed : d_lmixed.np = 2 := nr rfl
theorem r_lmixed {β ds : List D} : d_lmixed.run β ds = bodyRun true 2 (c_lmixed.den g_lmixed) β ds := by unfold d_lmixed; exact fdrun
def c_lalike : Ss :=
  (.cons (.ret (.and (.cons (.cmp .eq (.var 0) (.var 1)) (.cons (.cmp .eq (.blt .repr (.cons (.var 0) .nil)) (.blt .repr (.cons (.var 1) .nil))) .nil)))) .nil)
def g_lalike : Gam := ⟨[], [], ["repr"]⟩
def d_lalike : FD := fdOf g_lalike false 2 0 c_lalike
theorem mt_lalike : d_lalike.mt = false := nr rfl
theorem np_lalike : d_lalike.np = 2 := nr rfl
theorem r_lalike {β ds : List D} : d_lalike.run β ds = bodyRun false 0 (c_lalike.den g_lalike) β ds := by unfold d_lalike; exact fdrun
def q_ldungeon_0 : C := .lc [("room", 7)] (.int 1) (.nm 7) (.seq (.var 2)) (.so (.cmp .eq (.ix (.var 7) (.int 1)) (.str "lock")))
def q_ldungeon_1 : C := .lc [("room", 7)] (.int 1) (.nm 7) (.seq (.var 2)) (.so (.cmp .eq (.ix (.var 7) (.int 1)) (.str "bar")))
def q_ldungeon_2 : C := .lc [("room", 7)] (.ix (.var 7) (.int 2)) (.nm 7) (.seq (.var 2)) .no
def c_ldungeon : Ss :=
  (.cons (.par 2 3 (.lst (.cons (.tup (.cons .non (.cons .non (.cons (.callM 0 0 (.cons (.lst (.cons (.int 1) (.cons (.int 0) (.cons (.int 1) (.cons (.int 2) .nil))))) .nil)) .nil)))) .nil)) (.cmp .eq (.callM 1 0 (.cons (.int 2) .nil)) (.int 0)))
  (.cons (.fors (.nm 4) (.rng2 (.int 1) (.bin .add (.int 1) (.callM 1 0 (.cons (.var 1) .nil))))
    (.cons (.set 5 (.callM 0 0 (.cons (.lst (.cons (.str "open") (.cons (.str "lock") (.cons (.str "lock") (.cons (.ite (.var 3) (.str "bar") (.str "lock")) .nil))))) .nil)))
    (.cons (.exp (.mut .append 2 (.cons (.tup (.cons (.callM 0 0 (.cons (.lst (.cons (.bin .sub (.var 4) (.int 1)) (.cons (.callM 1 0 (.cons (.var 4) .nil)) .nil))) .nil)) (.cons (.var 5) (.cons (.callM 0 0 (.cons (.lst (.cons (.int 1) (.cons (.int 0) (.cons (.int 1) (.cons (.int 1) (.cons (.int 2) .nil)))))) .nil)) .nil)))) .nil))) .nil)))
  (.cons (.set 6 (.blt .len (.cons q_ldungeon_0 .nil)))
  (.cons (.set 8 (.blt .int (.cons (.cmp .ne q_ldungeon_1 (.lst .nil)) .nil)))
  (.cons (.set 9 (.blt .sum (.cons q_ldungeon_2 .nil)))
  (.cons (.ife (.cmp .lt (.var 9) (.var 8))
    (.cons (.par 2 9 (.bin .add (.lst (.cons (.tup (.cons .non (.cons .non (.cons (.int 1) .nil)))) .nil)) (.sl (.var 2) (.so (.int 1)) .no)) (.int 1)) .nil)
    .nil)
  (.cons (.set 10 (.callM 0 0 (.cons (.lst (.cons (.var 6) (.cons (.var 6) (.cons (.var 6) (.cons (.bin .add (.var 6) (.int 1)) (.cons (.blt .max (.cons (.int 0) (.cons (.bin .sub (.var 6) (.int 1)) .nil))) .nil)))))) .nil)))
  (.cons (.ret (.tup (.cons (.blt .tuple (.cons (.var 2) .nil)) (.cons (.blt .max (.cons (.int 0) (.cons (.blt .min (.cons (.var 10) (.cons (.bin .sub (.var 9) (.var 8)) (.cons (.int 6) .nil)))) .nil))) .nil)))) .nil))))))))
def g_ldungeon : Gam := ⟨[("_law_some", d_lsome), ("_law_take", d_ltake)], [], ["range", "len", "int", "sum", "max", "min", "tuple"]⟩
def d_ldungeon : FD := fdOf g_ldungeon true 2 9 c_ldungeon
theorem f_ldungeon_0 : g_ldungeon.fns[0]? = some (("_law_some" : Str), d_lsome) := rfl
theorem f_ldungeon_1 : g_ldungeon.fns[1]? = some (("_law_take" : Str), d_ltake) := rfl
theorem mt_ldungeon : d_ldungeon.mt = true := nr rfl
theorem np_ldungeon : d_ldungeon.np = 2 := nr rfl
theorem r_ldungeon {β ds : List D} : d_ldungeon.run β ds = bodyRun true 9 (c_ldungeon.den g_ldungeon) β ds := by unfold d_ldungeon; exact fdrun
def c_lup : Ss :=
  (.cons (.set 2 (.lst .nil))
  (.cons (.fors (.nm 3) (.rng1 (.blt .len (.cons (.ix (.var 0) (.int 0)) .nil)))
    (.cons (.ife (.cmp .isnot (.var 1) .non)
      (.cons (.exp (.mut .append 2 (.cons (.var 1) .nil)))
      (.cons (.set 1 (.ix (.ix (.ix (.var 0) (.int 0)) (.var 1)) (.int 0))) .nil))
      .nil) .nil))
  (.cons (.ret (.var 2)) .nil)))
def g_lup : Gam := ⟨[], [], ["range", "len"]⟩
def d_lup : FD := fdOf g_lup false 2 2 c_lup
theorem mt_lup : d_lup.mt = false := nr rfl
theorem np_lup : d_lup.np = 2 := nr rfl
theorem r_lup {β ds : List D} : d_lup.run β ds = bodyRun false 2 (c_lup.den g_lup) β ds := by unfold d_lup; exact fdrun
def q_lbranch_0 : C := .lc [("u", 2)] (.var 2) (.nm 2) (.rng1 (.blt .len (.cons (.ix (.var 0) (.int 0)) .nil))) (.so (.cmp .isin (.var 1) (.call 0 (.cons (.var 0) (.cons (.var 2) .nil)))))
def c_lbranch : Ss :=
  (.cons (.ret q_lbranch_0) .nil)
def g_lbranch : Gam := ⟨[("_law_up", d_lup)], [], ["range", "len"]⟩
def d_lbranch : FD := fdOf g_lbranch false 2 1 c_lbranch
theorem f_lbranch_0 : g_lbranch.fns[0]? = some (("_law_up" : Str), d_lup) := rfl
theorem mt_lbranch : d_lbranch.mt = false := nr rfl
theorem np_lbranch : d_lbranch.np = 2 := nr rfl
theorem r_lbranch {β ds : List D} : d_lbranch.run β ds = bodyRun false 1 (c_lbranch.den g_lbranch) β ds := by unfold d_lbranch; exact fdrun
def q_lany_lot_0 : C := .lc [("v", 3)] (.var 3) (.nm 3) (.rng1 (.var 1)) (.so (.cmp .eq (.callM 0 0 (.cons (.bin .add (.int 2) (.var 2)) .nil)) (.int 0)))
def c_lany_lot : Ss :=
  (.cons (.set 2 (.callM 0 0 (.cons (.int 3) .nil)))
  (.cons (.ret (.blt .tuple (.cons q_lany_lot_0 .nil))) .nil))
def g_lany_lot : Gam := ⟨[("_law_take", d_ltake)], [], ["tuple", "range"]⟩
def d_lany_lot : FD := fdOf g_lany_lot true 2 2 c_lany_lot
theorem f_lany_lot_0 : g_lany_lot.fns[0]? = some (("_law_take" : Str), d_ltake) := rfl
theorem mt_lany_lot : d_lany_lot.mt = true := nr rfl
theorem np_lany_lot : d_lany_lot.np = 2 := nr rfl
theorem r_lany_lot {β ds : List D} : d_lany_lot.run β ds = bodyRun true 2 (c_lany_lot.den g_lany_lot) β ds := by unfold d_lany_lot; exact fdrun
end W

set_option autoImplicit false
namespace W
open PySem PySem.Spec L2 Den
theorem alike_ok {d : D} (h : Fine d) : d_lalike.run [] [d, d] = some (.va (.bool true), []) := by
  rw [r_lalike]
  simp [Den.Cd.denD, Den.fsStar, Den.f1, Den.fExt, Den.fRep, Den.fTr, Den.fCh, Den.opI, Den.opB, Den.opC, Den.opM, Den.bodyRun, Den.Ss.den, Den.S.den, Den.C.den, Den.C.denT, Den.Cs.denA, Den.Cs.denO, Den.Cs.denAT, Den.Cs.denOT, Den.Cs.denV, Den.Cs.denF, Den.Co.den, Den.Co.denT, Den.Ci.den, Den.Tg.den, Den.Tg.dens, Den.Tg.slots, Den.Tg.slotsL, Den.parL, Den.fSeq, Den.fRet, Den.fRetN, Den.fNop, Den.fBk, Den.fCt, Den.fSet, Den.fO, Den.fDrop, Den.SlOf, Den.notBg, Den.fIfS, Den.fIf, Den.fT, Den.truth, Den.fAnd, Den.fOr, Den.fNot, Den.fAndV, Den.fOrV, Den.fNotV, Den.isB, Den.fV, Den.fF, Den.frz, Den.half, Den.vw, Den.vws, Den.f1, Den.f2, Den.fL, Den.fM, Den.fVar, Den.fC, Den.fTup, Den.fLst, Den.fsCons, Den.fsNil, Den.fSetIx, Den.fAugIx, Den.fAug, Den.asInt, Den.items, Den.putItems, Den.sameKind, Den.fMut, Den.φApp, Den.φIns, Den.fCall, Den.fCallM, Den.fPar, Den.fPar3, Den.fAsg, Den.gNm, Den.gTp, Den.gsCons, Den.gsNil, Den.fSl, Den.fPt, Den.φSl, Den.add_int, Den.sub_int, Den.φNeg, Den.φCmp, Den.φIs, Den.φIsNot, Den.isNone, Den.len_lst, Den.len_tup, Den.φAbs, Den.φInt, Den.φTuple, Den.φList, Den.fdmt, Den.fdnp, L2.ixN, Den.eq_str, Den.ne_str, Den.eq_int, Den.ne_int, Den.ix_lst, Den.ix_tup, Den.at_zero, Den.at_one, Den.at_two, Den.at_three, Den.lim_lit, c_lalike, eq_fine h, repr_fine h]
def Bag (β : List D) : Prop := ∃ (a b c : Int) (cs : List Int), β = [.int a, .int b, .int c, .list (cs.map .int)] ∧ 0 ≤ a ∧ 0 ≤ c ∧ cs.length ≤ 63 ∧ ∀ x ∈ cs, 0 ≤ x
theorem first_cell {cs : List Int} {c : Int} (hc : 0 ≤ c) (h : ∀ x ∈ cs, 0 ≤ x) : ∃ x, 0 ≤ x ∧ atI (cutD (cs.map PyData.int) (some c) none ++ [.int 0]) 0 = some (.int x) := by
  unfold cutD
  rw [sIx_int hc]
  cases e : (List.take (HT.sIx (cs.map PyData.int).length (cs.map PyData.int).length none - min c.toNat (cs.map PyData.int).length) (List.drop (min c.toNat (cs.map PyData.int).length) (cs.map PyData.int))) with
  | nil => exact ⟨0, by omega, at_zero⟩
  | cons d ds =>
    have hd : d ∈ cs.map PyData.int := List.mem_of_mem_drop (List.mem_of_mem_take (e ▸ List.mem_cons_self))
    obtain ⟨x, hx, rfl⟩ := List.mem_map.mp hd
    exact ⟨x, h x hx, at_zero⟩
theorem cut_len {α : Type} {xs : List α} {lo hi : Option Int} : (cutD xs lo hi).length ≤ xs.length := by
  unfold cutD
  rw [List.length_take, List.length_drop]
  omega
theorem take_ok {β : List D} {m : Int} (hb : Bag β) (h0 : 0 < m) (h1 : m < 18446744073709551616) : ∃ v β', 0 ≤ v ∧ v < m ∧ Bag β' ∧ d_ltake.run β [.int m] = some (.va (.int v), β') := by
  obtain ⟨a, b, c, cs, rfl, ha, hc, hl, hx⟩ := hb
  obtain ⟨x, hx0, hx1⟩ := first_cell hc hx
  have hlen : (cutD (cs.map PyData.int) (some c) none).length + [PyData.int 0].length ≤ lim := by
    have := cut_len (xs := cs.map PyData.int) (lo := some c) (hi := none)
    rw [List.length_map] at this
    simp only [List.length_cons, List.length_nil]
    show _ ≤ 1000000
    omega
  have hm0 : ∀ y : Int, 0 ≤ y % m := fun y => Int.emod_nonneg _ (by omega)
  have hm1 : ∀ y : Int, y % m < m := fun y => Int.emod_lt_of_pos _ h0
  by_cases h : a = 0
  · subst h
    by_cases hbig : (10 : Int) ^ 18 ≤ x
    · have hx18 : (1000000000000000000 : Int) ≤ x := hbig
      have hpos : 0 < x := by omega
      refine ⟨x % m, [.int (x / m), .int ((b * 48271 + x % 2147483647 + 7919 * (c + 1)) % 2147483647), .int (c + 1), .list (cs.map .int)], hm0 _, hm1 _, ⟨_, _, _, cs, rfl, Int.ediv_nonneg hx0 (by omega), by omega, hl, hx⟩, ?_⟩
      rw [r_ltake]
      simp [Den.Cd.denD, Den.fsStar, Den.f1, Den.fExt, Den.fRep, Den.fTr, Den.fCh, Den.opI, Den.opB, Den.opC, Den.opM, Den.bodyRun, Den.Ss.den, Den.S.den, Den.C.den, Den.C.denT, Den.Cs.denA, Den.Cs.denO, Den.Cs.denAT, Den.Cs.denOT, Den.Cs.denV, Den.Cs.denF, Den.Co.den, Den.Co.denT, Den.Ci.den, Den.Tg.den, Den.Tg.dens, Den.Tg.slots, Den.Tg.slotsL, Den.parL, Den.fSeq, Den.fRet, Den.fRetN, Den.fNop, Den.fBk, Den.fCt, Den.fSet, Den.fO, Den.fDrop, Den.SlOf, Den.notBg, Den.fIfS, Den.fIf, Den.fT, Den.truth, Den.fAnd, Den.fOr, Den.fNot, Den.fAndV, Den.fOrV, Den.fNotV, Den.isB, Den.fV, Den.fF, Den.frz, Den.half, Den.vw, Den.vws, Den.f1, Den.f2, Den.fL, Den.fM, Den.fVar, Den.fC, Den.fTup, Den.fLst, Den.fsCons, Den.fsNil, Den.fSetIx, Den.fAugIx, Den.fAug, Den.asInt, Den.items, Den.putItems, Den.sameKind, Den.fMut, Den.φApp, Den.φIns, Den.fCall, Den.fCallM, Den.fPar, Den.fPar3, Den.fAsg, Den.gNm, Den.gTp, Den.gsCons, Den.gsNil, Den.fSl, Den.fPt, Den.φSl, Den.add_int, Den.sub_int, Den.φNeg, Den.φCmp, Den.φIs, Den.φIsNot, Den.isNone, Den.len_lst, Den.len_tup, Den.φAbs, Den.φInt, Den.φTuple, Den.φList, Den.fdmt, Den.fdnp, L2.ixN, Den.eq_str, Den.ne_str, Den.eq_int, Den.ne_int, Den.ix_lst, Den.ix_tup, Den.at_zero, Den.at_one, Den.at_two, Den.at_three, Den.lim_lit, c_ltake, hx1, add_lst hlen, pop, mod_pos, div_wide, mul_small, hx18, h0, h1, hpos]
    · have hx18 : ¬ (1000000000000000000 : Int) ≤ x := hbig
      generalize hb' : (b * 48271 + x % 2147483647 + 7919 * (c + 1)) % 2147483647 = b'
      refine ⟨(((b' + 1) * 39373 % 1000000007 * ((b' + 1) * 39373 % 1000000007)) % 998244353 * 30011 % 998244353) / 7 % m, [.int 0, .int b', .int (c + 1), .list (cs.map .int)], hm0 _, hm1 _, ⟨_, _, _, cs, rfl, ha, by omega, hl, hx⟩, ?_⟩
      rw [r_ltake]
      simp [Den.Cd.denD, Den.fsStar, Den.f1, Den.fExt, Den.fRep, Den.fTr, Den.fCh, Den.opI, Den.opB, Den.opC, Den.opM, Den.bodyRun, Den.Ss.den, Den.S.den, Den.C.den, Den.C.denT, Den.Cs.denA, Den.Cs.denO, Den.Cs.denAT, Den.Cs.denOT, Den.Cs.denV, Den.Cs.denF, Den.Co.den, Den.Co.denT, Den.Ci.den, Den.Tg.den, Den.Tg.dens, Den.Tg.slots, Den.Tg.slotsL, Den.parL, Den.fSeq, Den.fRet, Den.fRetN, Den.fNop, Den.fBk, Den.fCt, Den.fSet, Den.fO, Den.fDrop, Den.SlOf, Den.notBg, Den.fIfS, Den.fIf, Den.fT, Den.truth, Den.fAnd, Den.fOr, Den.fNot, Den.fAndV, Den.fOrV, Den.fNotV, Den.isB, Den.fV, Den.fF, Den.frz, Den.half, Den.vw, Den.vws, Den.f1, Den.f2, Den.fL, Den.fM, Den.fVar, Den.fC, Den.fTup, Den.fLst, Den.fsCons, Den.fsNil, Den.fSetIx, Den.fAugIx, Den.fAug, Den.asInt, Den.items, Den.putItems, Den.sameKind, Den.fMut, Den.φApp, Den.φIns, Den.fCall, Den.fCallM, Den.fPar, Den.fPar3, Den.fAsg, Den.gNm, Den.gTp, Den.gsCons, Den.gsNil, Den.fSl, Den.fPt, Den.φSl, Den.add_int, Den.sub_int, Den.φNeg, Den.φCmp, Den.φIs, Den.φIsNot, Den.isNone, Den.len_lst, Den.len_tup, Den.φAbs, Den.φInt, Den.φTuple, Den.φList, Den.fdmt, Den.fdnp, L2.ixN, Den.eq_str, Den.ne_str, Den.eq_int, Den.ne_int, Den.ix_lst, Den.ix_tup, Den.at_zero, Den.at_one, Den.at_two, Den.at_three, Den.lim_lit, c_ltake, hx1, add_lst hlen, pop, mod_pos, div_wide, mul_mod, mul_small, hx18, h0, h1, hb']
  · have hpos : 0 < a := by omega
    refine ⟨a % m, [.int (a / m), .int b, .int c, .list (cs.map .int)], hm0 _, hm1 _, ⟨_, _, _, cs, rfl, Int.ediv_nonneg ha (by omega), hc, hl, hx⟩, ?_⟩
    rw [r_ltake]
    simp [Den.Cd.denD, Den.fsStar, Den.f1, Den.fExt, Den.fRep, Den.fTr, Den.fCh, Den.opI, Den.opB, Den.opC, Den.opM, Den.bodyRun, Den.Ss.den, Den.S.den, Den.C.den, Den.C.denT, Den.Cs.denA, Den.Cs.denO, Den.Cs.denAT, Den.Cs.denOT, Den.Cs.denV, Den.Cs.denF, Den.Co.den, Den.Co.denT, Den.Ci.den, Den.Tg.den, Den.Tg.dens, Den.Tg.slots, Den.Tg.slotsL, Den.parL, Den.fSeq, Den.fRet, Den.fRetN, Den.fNop, Den.fBk, Den.fCt, Den.fSet, Den.fO, Den.fDrop, Den.SlOf, Den.notBg, Den.fIfS, Den.fIf, Den.fT, Den.truth, Den.fAnd, Den.fOr, Den.fNot, Den.fAndV, Den.fOrV, Den.fNotV, Den.isB, Den.fV, Den.fF, Den.frz, Den.half, Den.vw, Den.vws, Den.f1, Den.f2, Den.fL, Den.fM, Den.fVar, Den.fC, Den.fTup, Den.fLst, Den.fsCons, Den.fsNil, Den.fSetIx, Den.fAugIx, Den.fAug, Den.asInt, Den.items, Den.putItems, Den.sameKind, Den.fMut, Den.φApp, Den.φIns, Den.fCall, Den.fCallM, Den.fPar, Den.fPar3, Den.fAsg, Den.gNm, Den.gTp, Den.gsCons, Den.gsNil, Den.fSl, Den.fPt, Den.φSl, Den.add_int, Den.sub_int, Den.φNeg, Den.φCmp, Den.φIs, Den.φIsNot, Den.isNone, Den.len_lst, Den.len_tup, Den.φAbs, Den.φInt, Den.φTuple, Den.φList, Den.fdmt, Den.fdnp, L2.ixN, Den.eq_str, Den.ne_str, Den.eq_int, Den.ne_int, Den.ix_lst, Den.ix_tup, Den.at_zero, Den.at_one, Den.at_two, Den.at_three, Den.lim_lit, c_ltake, mod_pos, div_wide, h0, h1, h, hpos]

theorem bag_ok {ns : List Int} (h : ns.length ≤ 63) : ∃ β, Bag β ∧ d_lbag.run [] [.list (ns.map .int)] = some (.ls β, []) := by
  have hc : cutD (ns.map PyData.int) none (some 63) = ns.map PyData.int := by
    unfold cutD
    rw [sIx_int (by omega), HT.sIx_none]
    simp only [List.drop_zero, Nat.sub_zero, List.length_map]
    rw [show min (Int.toNat 63) ns.length = ns.length from by simp; omega]
    rw [List.take_of_length_le (by simp)]
  refine ⟨[.int 0, .int 1234567891, .int 0, .list (ns.map fun i => PyData.int (if i < 0 then -i else i))], ⟨0, 1234567891, 0, ns.map fun i => if i < 0 then -i else i, by simp, by omega, by omega, by simpa using h, fun x hx => ?_⟩, ?_⟩
  · obtain ⟨i, _, rfl⟩ := List.mem_map.mp hx
    split <;> omega
  · have hl2 : ns.length ≤ lim := Nat.le_trans h (by decide)
    rw [r_lbag]
    simp [Den.Cd.denD, Den.fsStar, Den.f1, Den.fExt, Den.fRep, Den.fTr, Den.fCh, Den.opI, Den.opB, Den.opC, Den.opM, Den.bodyRun, Den.Ss.den, Den.S.den, Den.C.den, Den.C.denT, Den.Cs.denA, Den.Cs.denO, Den.Cs.denAT, Den.Cs.denOT, Den.Cs.denV, Den.Cs.denF, Den.Co.den, Den.Co.denT, Den.Ci.den, Den.Tg.den, Den.Tg.dens, Den.Tg.slots, Den.Tg.slotsL, Den.parL, Den.fSeq, Den.fRet, Den.fRetN, Den.fNop, Den.fBk, Den.fCt, Den.fSet, Den.fO, Den.fDrop, Den.SlOf, Den.notBg, Den.fIfS, Den.fIf, Den.fT, Den.truth, Den.fAnd, Den.fOr, Den.fNot, Den.fAndV, Den.fOrV, Den.fNotV, Den.isB, Den.fV, Den.fF, Den.frz, Den.half, Den.vw, Den.vws, Den.f1, Den.f2, Den.fL, Den.fM, Den.fVar, Den.fC, Den.fTup, Den.fLst, Den.fsCons, Den.fsNil, Den.fSetIx, Den.fAugIx, Den.fAug, Den.asInt, Den.items, Den.putItems, Den.sameKind, Den.fMut, Den.φApp, Den.φIns, Den.fCall, Den.fCallM, Den.fPar, Den.fPar3, Den.fAsg, Den.gNm, Den.gTp, Den.gsCons, Den.gsNil, Den.fSl, Den.fPt, Den.φSl, Den.add_int, Den.sub_int, Den.φNeg, Den.φCmp, Den.φIs, Den.φIsNot, Den.isNone, Den.len_lst, Den.len_tup, Den.φAbs, Den.φInt, Den.φTuple, Den.φList, Den.fdmt, Den.fdnp, L2.ixN, Den.eq_str, Den.ne_str, Den.eq_int, Den.ne_int, Den.ix_lst, Den.ix_tup, Den.at_zero, Den.at_one, Den.at_two, Den.at_three, Den.lim_lit, c_lbag, q_lbag_0, fLc, fIt, its, wipeL, hc, hl2]
    rw [lc_map (g := fun d => match d with | .int i => .int (if i < 0 then -i else i) | d => d)]
    · simp [Den.Cd.denD, Den.fsStar, Den.f1, Den.fExt, Den.fRep, Den.fTr, Den.fCh, Den.opI, Den.opB, Den.opC, Den.opM, Den.bodyRun, Den.Ss.den, Den.S.den, Den.C.den, Den.C.denT, Den.Cs.denA, Den.Cs.denO, Den.Cs.denAT, Den.Cs.denOT, Den.Cs.denV, Den.Cs.denF, Den.Co.den, Den.Co.denT, Den.Ci.den, Den.Tg.den, Den.Tg.dens, Den.Tg.slots, Den.Tg.slotsL, Den.parL, Den.fSeq, Den.fRet, Den.fRetN, Den.fNop, Den.fBk, Den.fCt, Den.fSet, Den.fO, Den.fDrop, Den.SlOf, Den.notBg, Den.fIfS, Den.fIf, Den.fT, Den.truth, Den.fAnd, Den.fOr, Den.fNot, Den.fAndV, Den.fOrV, Den.fNotV, Den.isB, Den.fV, Den.fF, Den.frz, Den.half, Den.vw, Den.vws, Den.f1, Den.f2, Den.fL, Den.fM, Den.fVar, Den.fC, Den.fTup, Den.fLst, Den.fsCons, Den.fsNil, Den.fSetIx, Den.fAugIx, Den.fAug, Den.asInt, Den.items, Den.putItems, Den.sameKind, Den.fMut, Den.φApp, Den.φIns, Den.fCall, Den.fCallM, Den.fPar, Den.fPar3, Den.fAsg, Den.gNm, Den.gTp, Den.gsCons, Den.gsNil, Den.fSl, Den.fPt, Den.φSl, Den.add_int, Den.sub_int, Den.φNeg, Den.φCmp, Den.φIs, Den.φIsNot, Den.isNone, Den.len_lst, Den.len_tup, Den.φAbs, Den.φInt, Den.φTuple, Den.φList, Den.fdmt, Den.fdnp, L2.ixN, Den.eq_str, Den.ne_str, Den.eq_int, Den.ne_int, Den.ix_lst, Den.ix_tup, Den.at_zero, Den.at_one, Den.at_two, Den.at_three, Den.lim_lit, restL]
    · intro d hd
      obtain ⟨i, _, rfl⟩ := List.mem_map.mp hd
      exact ⟨[.va (.list (ns.map .int)), .va (.int i)], by simp [Den.Cd.denD, Den.fsStar, Den.f1, Den.fExt, Den.fRep, Den.fTr, Den.fCh, Den.opI, Den.opB, Den.opC, Den.opM, Den.bodyRun, Den.Ss.den, Den.S.den, Den.C.den, Den.C.denT, Den.Cs.denA, Den.Cs.denO, Den.Cs.denAT, Den.Cs.denOT, Den.Cs.denV, Den.Cs.denF, Den.Co.den, Den.Co.denT, Den.Ci.den, Den.Tg.den, Den.Tg.dens, Den.Tg.slots, Den.Tg.slotsL, Den.parL, Den.fSeq, Den.fRet, Den.fRetN, Den.fNop, Den.fBk, Den.fCt, Den.fSet, Den.fO, Den.fDrop, Den.SlOf, Den.notBg, Den.fIfS, Den.fIf, Den.fT, Den.truth, Den.fAnd, Den.fOr, Den.fNot, Den.fAndV, Den.fOrV, Den.fNotV, Den.isB, Den.fV, Den.fF, Den.frz, Den.half, Den.vw, Den.vws, Den.f1, Den.f2, Den.fL, Den.fM, Den.fVar, Den.fC, Den.fTup, Den.fLst, Den.fsCons, Den.fsNil, Den.fSetIx, Den.fAugIx, Den.fAug, Den.asInt, Den.items, Den.putItems, Den.sameKind, Den.fMut, Den.φApp, Den.φIns, Den.fCall, Den.fCallM, Den.fPar, Den.fPar3, Den.fAsg, Den.gNm, Den.gTp, Den.gsCons, Den.gsNil, Den.fSl, Den.fPt, Den.φSl, Den.add_int, Den.sub_int, Den.φNeg, Den.φCmp, Den.φIs, Den.φIsNot, Den.isNone, Den.len_lst, Den.len_tup, Den.φAbs, Den.φInt, Den.φTuple, Den.φList, Den.fdmt, Den.fdnp, L2.ixN, Den.eq_str, Den.ne_str, Den.eq_int, Den.ne_int, Den.ix_lst, Den.ix_tup, Den.at_zero, Den.at_one, Den.at_two, Den.at_three, Den.lim_lit], [.va (.list (ns.map .int)), .va (.int i)], by simp [Den.Cd.denD, Den.fsStar, Den.f1, Den.fExt, Den.fRep, Den.fTr, Den.fCh, Den.opI, Den.opB, Den.opC, Den.opM, Den.bodyRun, Den.Ss.den, Den.S.den, Den.C.den, Den.C.denT, Den.Cs.denA, Den.Cs.denO, Den.Cs.denAT, Den.Cs.denOT, Den.Cs.denV, Den.Cs.denF, Den.Co.den, Den.Co.denT, Den.Ci.den, Den.Tg.den, Den.Tg.dens, Den.Tg.slots, Den.Tg.slotsL, Den.parL, Den.fSeq, Den.fRet, Den.fRetN, Den.fNop, Den.fBk, Den.fCt, Den.fSet, Den.fO, Den.fDrop, Den.SlOf, Den.notBg, Den.fIfS, Den.fIf, Den.fT, Den.truth, Den.fAnd, Den.fOr, Den.fNot, Den.fAndV, Den.fOrV, Den.fNotV, Den.isB, Den.fV, Den.fF, Den.frz, Den.half, Den.vw, Den.vws, Den.f1, Den.f2, Den.fL, Den.fM, Den.fVar, Den.fC, Den.fTup, Den.fLst, Den.fsCons, Den.fsNil, Den.fSetIx, Den.fAugIx, Den.fAug, Den.asInt, Den.items, Den.putItems, Den.sameKind, Den.fMut, Den.φApp, Den.φIns, Den.fCall, Den.fCallM, Den.fPar, Den.fPar3, Den.fAsg, Den.gNm, Den.gTp, Den.gsCons, Den.gsNil, Den.fSl, Den.fPt, Den.φSl, Den.add_int, Den.sub_int, Den.φNeg, Den.φCmp, Den.φIs, Den.φIsNot, Den.isNone, Den.len_lst, Den.len_tup, Den.φAbs, Den.φInt, Den.φTuple, Den.φList, Den.fdmt, Den.fdnp, L2.ixN, Den.eq_str, Den.ne_str, Den.eq_int, Den.ne_int, Den.ix_lst, Den.ix_tup, Den.at_zero, Den.at_one, Den.at_two, Den.at_three, Den.lim_lit], by simp [wipeL]⟩
theorem some_ok {β things : List D} (hb : Bag β) (h0 : things ≠ []) (h1 : things.length ≤ 1000) : ∃ (v : Nat) (x : D) (β' : List D), things[v]? = some x ∧ Bag β' ∧ d_lsome.run β [.list things] = some (.va x, β') := by
  have hl : 0 < things.length := List.length_pos_iff.mpr h0
  obtain ⟨v, β', v0, v1, b', e⟩ := take_ok (m := things.length) hb (by omega) (by omega)
  obtain ⟨n, rfl⟩ : ∃ n : Nat, v = n := ⟨v.toNat, by omega⟩
  have hn : n < things.length := by omega
  refine ⟨n, things[n], β', List.getElem?_eq_getElem hn, b', ?_⟩
  rw [r_lsome]
  simp [Den.Cd.denD, Den.fsStar, Den.f1, Den.fExt, Den.fRep, Den.fTr, Den.fCh, Den.opI, Den.opB, Den.opC, Den.opM, Den.bodyRun, Den.Ss.den, Den.S.den, Den.C.den, Den.C.denT, Den.Cs.denA, Den.Cs.denO, Den.Cs.denAT, Den.Cs.denOT, Den.Cs.denV, Den.Cs.denF, Den.Co.den, Den.Co.denT, Den.Ci.den, Den.Tg.den, Den.Tg.dens, Den.Tg.slots, Den.Tg.slotsL, Den.parL, Den.fSeq, Den.fRet, Den.fRetN, Den.fNop, Den.fBk, Den.fCt, Den.fSet, Den.fO, Den.fDrop, Den.SlOf, Den.notBg, Den.fIfS, Den.fIf, Den.fT, Den.truth, Den.fAnd, Den.fOr, Den.fNot, Den.fAndV, Den.fOrV, Den.fNotV, Den.isB, Den.fV, Den.fF, Den.frz, Den.half, Den.vw, Den.vws, Den.f1, Den.f2, Den.fL, Den.fM, Den.fVar, Den.fC, Den.fTup, Den.fLst, Den.fsCons, Den.fsNil, Den.fSetIx, Den.fAugIx, Den.fAug, Den.asInt, Den.items, Den.putItems, Den.sameKind, Den.fMut, Den.φApp, Den.φIns, Den.fCall, Den.fCallM, Den.fPar, Den.fPar3, Den.fAsg, Den.gNm, Den.gTp, Den.gsCons, Den.gsNil, Den.fSl, Den.fPt, Den.φSl, Den.add_int, Den.sub_int, Den.φNeg, Den.φCmp, Den.φIs, Den.φIsNot, Den.isNone, Den.len_lst, Den.len_tup, Den.φAbs, Den.φInt, Den.φTuple, Den.φList, Den.fdmt, Den.fdnp, L2.ixN, Den.eq_str, Den.ne_str, Den.eq_int, Den.ne_int, Den.ix_lst, Den.ix_tup, Den.at_zero, Den.at_one, Den.at_two, Den.at_three, Den.lim_lit, c_lsome, g_lsome, e, mt_ltake, np_ltake, at_nat (List.getElem?_eq_getElem hn)]
theorem some_okT {β things : List D} (hb : Bag β) (h0 : things ≠ []) (h1 : things.length ≤ 1000) : ∃ (v : Nat) (x : D) (β' : List D), things[v]? = some x ∧ Bag β' ∧ d_lsome.run β [.tuple things] = some (.va x, β') := by
  have hl : 0 < things.length := List.length_pos_iff.mpr h0
  obtain ⟨v, β', v0, v1, b', e⟩ := take_ok (m := things.length) hb (by omega) (by omega)
  obtain ⟨n, rfl⟩ : ∃ n : Nat, v = n := ⟨v.toNat, by omega⟩
  have hn : n < things.length := by omega
  refine ⟨n, things[n], β', List.getElem?_eq_getElem hn, b', ?_⟩
  rw [r_lsome]
  simp [Den.Cd.denD, Den.fsStar, Den.f1, Den.fExt, Den.fRep, Den.fTr, Den.fCh, Den.opI, Den.opB, Den.opC, Den.opM, Den.bodyRun, Den.Ss.den, Den.S.den, Den.C.den, Den.C.denT, Den.Cs.denA, Den.Cs.denO, Den.Cs.denAT, Den.Cs.denOT, Den.Cs.denV, Den.Cs.denF, Den.Co.den, Den.Co.denT, Den.Ci.den, Den.Tg.den, Den.Tg.dens, Den.Tg.slots, Den.Tg.slotsL, Den.parL, Den.fSeq, Den.fRet, Den.fRetN, Den.fNop, Den.fBk, Den.fCt, Den.fSet, Den.fO, Den.fDrop, Den.SlOf, Den.notBg, Den.fIfS, Den.fIf, Den.fT, Den.truth, Den.fAnd, Den.fOr, Den.fNot, Den.fAndV, Den.fOrV, Den.fNotV, Den.isB, Den.fV, Den.fF, Den.frz, Den.half, Den.vw, Den.vws, Den.f1, Den.f2, Den.fL, Den.fM, Den.fVar, Den.fC, Den.fTup, Den.fLst, Den.fsCons, Den.fsNil, Den.fSetIx, Den.fAugIx, Den.fAug, Den.asInt, Den.items, Den.putItems, Den.sameKind, Den.fMut, Den.φApp, Den.φIns, Den.fCall, Den.fCallM, Den.fPar, Den.fPar3, Den.fAsg, Den.gNm, Den.gTp, Den.gsCons, Den.gsNil, Den.fSl, Den.fPt, Den.φSl, Den.add_int, Den.sub_int, Den.φNeg, Den.φCmp, Den.φIs, Den.φIsNot, Den.isNone, Den.len_lst, Den.len_tup, Den.φAbs, Den.φInt, Den.φTuple, Den.φList, Den.fdmt, Den.fdnp, L2.ixN, Den.eq_str, Den.ne_str, Den.eq_int, Den.ne_int, Den.ix_lst, Den.ix_tup, Den.at_zero, Den.at_one, Den.at_two, Den.at_three, Den.lim_lit, c_lsome, g_lsome, e, mt_ltake, np_ltake, at_nat (List.getElem?_eq_getElem hn)]
end W

set_option autoImplicit false
namespace W
open PySem PySem.Spec L2 Den
/-- a slot without a list of its own -/
def Pl (s : Sl) : Prop := s = .no ∨ ∃ d, s = .va d
theorem pl_no : Pl .no := .inl rfl
theorem pl_va {d : D} : Pl (.va d) := .inr ⟨d, rfl⟩
theorem mixed_ok {β things : List D} (hb : Bag β) (h1 : things.length ≤ 1000) : Ans (d_lmixed.run β [.list things]) fun r β' => ∃ out, r = .ls out ∧ out.Perm things ∧ Bag β' := by
  rw [r_lmixed]
  refine run_t ?_
  refine ok_step (ρ1 := [.bg β, .va (.list things), .ls [], .no]) (by simp [Den.Cd.denD, Den.fsStar, Den.f1, Den.fExt, Den.fRep, Den.fTr, Den.fCh, Den.opI, Den.opB, Den.opC, Den.opM, Den.bodyRun, Den.Ss.den, Den.S.den, Den.C.den, Den.C.denT, Den.Cs.denA, Den.Cs.denO, Den.Cs.denAT, Den.Cs.denOT, Den.Cs.denV, Den.Cs.denF, Den.Co.den, Den.Co.denT, Den.Ci.den, Den.Tg.den, Den.Tg.dens, Den.Tg.slots, Den.Tg.slotsL, Den.parL, Den.fSeq, Den.fRet, Den.fRetN, Den.fNop, Den.fBk, Den.fCt, Den.fSet, Den.fO, Den.fDrop, Den.SlOf, Den.notBg, Den.fIfS, Den.fIf, Den.fT, Den.truth, Den.fAnd, Den.fOr, Den.fNot, Den.fAndV, Den.fOrV, Den.fNotV, Den.isB, Den.fV, Den.fF, Den.frz, Den.half, Den.vw, Den.vws, Den.f1, Den.f2, Den.fL, Den.fM, Den.fVar, Den.fC, Den.fTup, Den.fLst, Den.fsCons, Den.fsNil, Den.fSetIx, Den.fAugIx, Den.fAug, Den.asInt, Den.items, Den.putItems, Den.sameKind, Den.fMut, Den.φApp, Den.φIns, Den.fCall, Den.fCallM, Den.fPar, Den.fPar3, Den.fAsg, Den.gNm, Den.gTp, Den.gsCons, Den.gsNil, Den.fSl, Den.fPt, Den.φSl, Den.add_int, Den.sub_int, Den.φNeg, Den.φCmp, Den.φIs, Den.φIsNot, Den.isNone, Den.len_lst, Den.len_tup, Den.φAbs, Den.φInt, Den.φTuple, Den.φList, Den.fdmt, Den.fdnp, L2.ixN, Den.eq_str, Den.ne_str, Den.eq_int, Den.ne_int, Den.ix_lst, Den.ix_tup, Den.at_zero, Den.at_one, Den.at_two, Den.at_three, Den.lim_lit]) ?_
  refine ok_cons (ok_for (ds := things) (ρ1 := [.bg β, .va (.list things), .ls [], .no]) (fun ds ρ => ∃ β acc s3, ρ = [.bg β, .va (.list things), .ls acc, s3] ∧ Pl s3 ∧ Bag β ∧ (acc ++ ds).Perm things) (by simp [Den.Cd.denD, Den.fsStar, Den.f1, Den.fExt, Den.fRep, Den.fTr, Den.fCh, Den.opI, Den.opB, Den.opC, Den.opM, Den.bodyRun, Den.Ss.den, Den.S.den, Den.C.den, Den.C.denT, Den.Cs.denA, Den.Cs.denO, Den.Cs.denAT, Den.Cs.denOT, Den.Cs.denV, Den.Cs.denF, Den.Co.den, Den.Co.denT, Den.Ci.den, Den.Tg.den, Den.Tg.dens, Den.Tg.slots, Den.Tg.slotsL, Den.parL, Den.fSeq, Den.fRet, Den.fRetN, Den.fNop, Den.fBk, Den.fCt, Den.fSet, Den.fO, Den.fDrop, Den.SlOf, Den.notBg, Den.fIfS, Den.fIf, Den.fT, Den.truth, Den.fAnd, Den.fOr, Den.fNot, Den.fAndV, Den.fOrV, Den.fNotV, Den.isB, Den.fV, Den.fF, Den.frz, Den.half, Den.vw, Den.vws, Den.f1, Den.f2, Den.fL, Den.fM, Den.fVar, Den.fC, Den.fTup, Den.fLst, Den.fsCons, Den.fsNil, Den.fSetIx, Den.fAugIx, Den.fAug, Den.asInt, Den.items, Den.putItems, Den.sameKind, Den.fMut, Den.φApp, Den.φIns, Den.fCall, Den.fCallM, Den.fPar, Den.fPar3, Den.fAsg, Den.gNm, Den.gTp, Den.gsCons, Den.gsNil, Den.fSl, Den.fPt, Den.φSl, Den.add_int, Den.sub_int, Den.φNeg, Den.φCmp, Den.φIs, Den.φIsNot, Den.isNone, Den.len_lst, Den.len_tup, Den.φAbs, Den.φInt, Den.φTuple, Den.φList, Den.fdmt, Den.fdnp, L2.ixN, Den.eq_str, Den.ne_str, Den.eq_int, Den.ne_int, Den.ix_lst, Den.ix_tup, Den.at_zero, Den.at_one, Den.at_two, Den.at_three, Den.lim_lit, fIt, its]) ⟨β, [], .no, rfl, pl_no, hb, .refl _⟩ ?_ ?_)
  · rintro d ds ρ ⟨β, acc, s3, rfl, p3, hb, hp⟩
    have hl : acc.length + (ds.length + 1) = things.length := by
      have := hp.length_eq
      simpa using this
    obtain ⟨v, β', v0, v1, hb', e⟩ := take_ok (m := (acc.length : Int) + 1) hb (by omega) (by omega)
    refine ⟨[.bg β, .va (.list things), .ls acc, .va d], by rcases p3 with rfl | ⟨x, rfl⟩ <;> simp [Den.Cd.denD, Den.fsStar, Den.f1, Den.fExt, Den.fRep, Den.fTr, Den.fCh, Den.opI, Den.opB, Den.opC, Den.opM, Den.bodyRun, Den.Ss.den, Den.S.den, Den.C.den, Den.C.denT, Den.Cs.denA, Den.Cs.denO, Den.Cs.denAT, Den.Cs.denOT, Den.Cs.denV, Den.Cs.denF, Den.Co.den, Den.Co.denT, Den.Ci.den, Den.Tg.den, Den.Tg.dens, Den.Tg.slots, Den.Tg.slotsL, Den.parL, Den.fSeq, Den.fRet, Den.fRetN, Den.fNop, Den.fBk, Den.fCt, Den.fSet, Den.fO, Den.fDrop, Den.SlOf, Den.notBg, Den.fIfS, Den.fIf, Den.fT, Den.truth, Den.fAnd, Den.fOr, Den.fNot, Den.fAndV, Den.fOrV, Den.fNotV, Den.isB, Den.fV, Den.fF, Den.frz, Den.half, Den.vw, Den.vws, Den.f1, Den.f2, Den.fL, Den.fM, Den.fVar, Den.fC, Den.fTup, Den.fLst, Den.fsCons, Den.fsNil, Den.fSetIx, Den.fAugIx, Den.fAug, Den.asInt, Den.items, Den.putItems, Den.sameKind, Den.fMut, Den.φApp, Den.φIns, Den.fCall, Den.fCallM, Den.fPar, Den.fPar3, Den.fAsg, Den.gNm, Den.gTp, Den.gsCons, Den.gsNil, Den.fSl, Den.fPt, Den.φSl, Den.add_int, Den.sub_int, Den.φNeg, Den.φCmp, Den.φIs, Den.φIsNot, Den.isNone, Den.len_lst, Den.len_tup, Den.φAbs, Den.φInt, Den.φTuple, Den.φList, Den.fdmt, Den.fdnp, L2.ixN, Den.eq_str, Den.ne_str, Den.eq_int, Den.ne_int, Den.ix_lst, Den.ix_tup, Den.at_zero, Den.at_one, Den.at_two, Den.at_three, Den.lim_lit], ?_⟩
    have c1 : acc.length < lim := by show _ < 1000000; omega
    have c2 : v < 1000000 := by omega
    refine ok_step (ρ1 := [.bg β', .va (.list things), .ls (acc.take v.toNat ++ [d] ++ acc.drop v.toNat), .va d]) (by simp [Den.Cd.denD, Den.fsStar, Den.f1, Den.fExt, Den.fRep, Den.fTr, Den.fCh, Den.opI, Den.opB, Den.opC, Den.opM, Den.bodyRun, Den.Ss.den, Den.S.den, Den.C.den, Den.C.denT, Den.Cs.denA, Den.Cs.denO, Den.Cs.denAT, Den.Cs.denOT, Den.Cs.denV, Den.Cs.denF, Den.Co.den, Den.Co.denT, Den.Ci.den, Den.Tg.den, Den.Tg.dens, Den.Tg.slots, Den.Tg.slotsL, Den.parL, Den.fSeq, Den.fRet, Den.fRetN, Den.fNop, Den.fBk, Den.fCt, Den.fSet, Den.fO, Den.fDrop, Den.SlOf, Den.notBg, Den.fIfS, Den.fIf, Den.fT, Den.truth, Den.fAnd, Den.fOr, Den.fNot, Den.fAndV, Den.fOrV, Den.fNotV, Den.isB, Den.fV, Den.fF, Den.frz, Den.half, Den.vw, Den.vws, Den.f1, Den.f2, Den.fL, Den.fM, Den.fVar, Den.fC, Den.fTup, Den.fLst, Den.fsCons, Den.fsNil, Den.fSetIx, Den.fAugIx, Den.fAug, Den.asInt, Den.items, Den.putItems, Den.sameKind, Den.fMut, Den.φApp, Den.φIns, Den.fCall, Den.fCallM, Den.fPar, Den.fPar3, Den.fAsg, Den.gNm, Den.gTp, Den.gsCons, Den.gsNil, Den.fSl, Den.fPt, Den.φSl, Den.add_int, Den.sub_int, Den.φNeg, Den.φCmp, Den.φIs, Den.φIsNot, Den.isNone, Den.len_lst, Den.len_tup, Den.φAbs, Den.φInt, Den.φTuple, Den.φList, Den.fdmt, Den.fdnp, L2.ixN, Den.eq_str, Den.ne_str, Den.eq_int, Den.ne_int, Den.ix_lst, Den.ix_tup, Den.at_zero, Den.at_one, Den.at_two, Den.at_three, Den.lim_lit, g_lmixed, mt_ltake, np_ltake, e, c1, c2, v0]) ?_
    refine ok_nil ⟨β', _, _, rfl, pl_va, hb', ?_⟩
    refine List.Perm.trans ?_ hp
    rw [List.append_assoc, List.append_assoc]
    have q : (acc.take v.toNat ++ ([d] ++ (acc.drop v.toNat ++ ds))).Perm (acc.take v.toNat ++ (acc.drop v.toNat ++ (d :: ds))) := by
      refine List.Perm.append_left _ ?_
      show (d :: (acc.drop v.toNat ++ ds)).Perm _
      exact List.perm_middle.symm
    have q2 : acc.take v.toNat ++ (acc.drop v.toNat ++ (d :: ds)) = acc ++ d :: ds := by rw [← List.append_assoc, List.take_append_drop]
    rw [q2] at q
    exact q
  · rintro ρ ⟨β, acc, s3, rfl, p3, hb, hp⟩
    refine ok_last (r := .ls acc) (ρ1 := [.bg β, .va (.list things), .no, s3]) (by simp [Den.Cd.denD, Den.fsStar, Den.f1, Den.fExt, Den.fRep, Den.fTr, Den.fCh, Den.opI, Den.opB, Den.opC, Den.opM, Den.bodyRun, Den.Ss.den, Den.S.den, Den.C.den, Den.C.denT, Den.Cs.denA, Den.Cs.denO, Den.Cs.denAT, Den.Cs.denOT, Den.Cs.denV, Den.Cs.denF, Den.Co.den, Den.Co.denT, Den.Ci.den, Den.Tg.den, Den.Tg.dens, Den.Tg.slots, Den.Tg.slotsL, Den.parL, Den.fSeq, Den.fRet, Den.fRetN, Den.fNop, Den.fBk, Den.fCt, Den.fSet, Den.fO, Den.fDrop, Den.SlOf, Den.notBg, Den.fIfS, Den.fIf, Den.fT, Den.truth, Den.fAnd, Den.fOr, Den.fNot, Den.fAndV, Den.fOrV, Den.fNotV, Den.isB, Den.fV, Den.fF, Den.frz, Den.half, Den.vw, Den.vws, Den.f1, Den.f2, Den.fL, Den.fM, Den.fVar, Den.fC, Den.fTup, Den.fLst, Den.fsCons, Den.fsNil, Den.fSetIx, Den.fAugIx, Den.fAug, Den.asInt, Den.items, Den.putItems, Den.sameKind, Den.fMut, Den.φApp, Den.φIns, Den.fCall, Den.fCallM, Den.fPar, Den.fPar3, Den.fAsg, Den.gNm, Den.gTp, Den.gsCons, Den.gsNil, Den.fSl, Den.fPt, Den.φSl, Den.add_int, Den.sub_int, Den.φNeg, Den.φCmp, Den.φIs, Den.φIsNot, Den.isNone, Den.len_lst, Den.len_tup, Den.φAbs, Den.φInt, Den.φTuple, Den.φList, Den.fdmt, Den.fdnp, L2.ixN, Den.eq_str, Den.ne_str, Den.eq_int, Den.ne_int, Den.ix_lst, Den.ix_tup, Den.at_zero, Den.at_one, Den.at_two, Den.at_three, Den.lim_lit]) ⟨β, rfl, acc, rfl, by simpa using hp, hb⟩
end W

set_option autoImplicit false
namespace W
open PySem PySem.Spec L2 Den
structure Rm where
  par : Option Nat
  way : D
  ch : Int
def pD : Option Nat → D
  | none => .none
  | some p => .int (p : Int)
def roomD (r : Rm) : D := .tuple [pD r.par, r.way, .int r.ch]
def dunD (rs : List Rm) (k : Int) : D := .tuple [.tuple (rs.map roomD), .int k]
structure Dun (rs : List Rm) : Prop where
  len0 : 0 < rs.length
  len1 : rs.length ≤ 11
  root : ∀ r, rs[0]? = some r → r.par = none ∧ r.way = .none
  par : ∀ i r, rs[i]? = some r → 0 < i → ∃ p, r.par = some p ∧ p < i
  way : ∀ i r, rs[i]? = some r → 0 < i → r.way = .str "open" ∨ r.way = .str "lock" ∨ r.way = .str "bar"
  ch : ∀ r ∈ rs, 0 ≤ r.ch ∧ r.ch ≤ 2
def parOf (rs : List Rm) (v : Nat) : Option Nat := rs[v]?.bind Rm.par
theorem par_lt {rs : List Rm} (h : Dun rs) {v p : Nat} (e : parOf rs v = some p) : p < v := by
  unfold parOf at e
  cases hr : rs[v]? with
  | none => rw [hr] at e; cases e
  | some r =>
    rw [hr] at e
    have e2 : r.par = some p := e
    by_cases h0 : v = 0
    · subst h0
      rw [(h.root r hr).1] at e2
      cases e2
    · obtain ⟨q, e3, hq⟩ := h.par v r hr (by omega)
      rw [e3] at e2
      cases e2
      exact hq
def upN (rs : List Rm) : Nat → Option Nat → List Nat
  | 0, _ => []
  | _ + 1, none => []
  | n + 1, some v => v :: upN rs n (parOf rs v)
theorem upN_none {rs : List Rm} : ∀ n, upN rs n none = []
  | 0 => rfl
  | _ + 1 => rfl
theorem upN_eq {rs : List Rm} (h : Dun rs) : ∀ (v n m : Nat), v < n → v < m → upN rs n (some v) = upN rs m (some v) := by
  intro v
  induction v using Nat.strongRecOn with
  | ind v ih =>
    intro n m hn hm
    match n, m, hn, hm with
    | n + 1, m + 1, hn, hm =>
      unfold upN
      cases e : parOf rs v with
      | none => rw [upN_none, upN_none]
      | some p =>
        have := par_lt h e
        rw [ih p this n m (by omega) (by omega)]
def up (rs : List Rm) (v : Nat) : List Nat := upN rs rs.length (some v)
theorem up_cons {rs : List Rm} (h : Dun rs) {v : Nat} (hv : v < rs.length) : up rs v = v :: (match parOf rs v with | none => [] | some p => up rs p) := by
  unfold up
  obtain ⟨n, hn⟩ : ∃ n, rs.length = n + 1 := ⟨rs.length - 1, by omega⟩
  rw [hn]
  conv => lhs; unfold upN
  cases e : parOf rs v with
  | none => rw [upN_none]
  | some p =>
    have := par_lt h e
    rw [upN_eq h p n (n + 1) (by omega) (by omega)]
theorem up_le {rs : List Rm} (h : Dun rs) : ∀ (v : Nat), v < rs.length → ∀ u ∈ up rs v, u ≤ v := by
  intro v
  induction v using Nat.strongRecOn with
  | ind v ih =>
    intro hv u hu
    rw [up_cons h hv] at hu
    rcases List.mem_cons.mp hu with z | z
    · omega
    · cases e : parOf rs v with
      | none => rw [e] at z; cases z
      | some p =>
        rw [e] at z
        have := par_lt h e
        have := ih p this (by omega) u z
        omega
theorem up_nodup {rs : List Rm} (h : Dun rs) : ∀ (v : Nat), v < rs.length → (up rs v).Nodup := by
  intro v
  induction v using Nat.strongRecOn with
  | ind v ih =>
    intro hv
    rw [up_cons h hv]
    cases e : parOf rs v with
    | none => simp
    | some p =>
      have h1 := par_lt h e
      refine List.nodup_cons.mpr ⟨fun z => ?_, ih p h1 (by omega)⟩
      have := up_le h p (by omega) v z
      omega
/-! ### the data's items -/
theorem room_at {rs : List Rm} {v : Nat} (hv : v < rs.length) : atI (rs.map roomD) ((v : Nat) : Int) = some (roomD rs[v]) := at_nat (by rw [List.getElem?_map, List.getElem?_eq_getElem hv]; rfl)
theorem parOf_at {rs : List Rm} {v : Nat} (hv : v < rs.length) : parOf rs v = rs[v].par := by
  unfold parOf
  rw [List.getElem?_eq_getElem hv]
  rfl
theorem nD_app {a b : List Nat} : nD (a ++ b) = nD a ++ nD b := List.map_append ..
theorem nD_one {a : Nat} : nD [a] = [.int (a : Int)] := rfl
theorem up_ok {rs : List Rm} {k : Int} {v : Nat} (h : Dun rs) (hv : v < rs.length) : d_lup.run [] [dunD rs k, .int (v : Int)] = some (.ls (nD (up rs v)), []) := by
  suffices q : Ans (d_lup.run [] [dunD rs k, .int (v : Int)]) fun r β => r = .ls (nD (up rs v)) ∧ β = [] by
    obtain ⟨r, β, e, rfl, rfl⟩ := q
    exact e
  have hlen := h.len1
  rw [r_lup]
  refine run_f ?_
  refine ok_step (ρ1 := [.va (dunD rs k), .va (.int (v : Int)), .ls [], .no]) (by simp [Den.Cd.denD, Den.fsStar, Den.f1, Den.fExt, Den.fRep, Den.fTr, Den.fCh, Den.opI, Den.opB, Den.opC, Den.opM, Den.bodyRun, Den.Ss.den, Den.S.den, Den.C.den, Den.C.denT, Den.Cs.denA, Den.Cs.denO, Den.Cs.denAT, Den.Cs.denOT, Den.Cs.denV, Den.Cs.denF, Den.Co.den, Den.Co.denT, Den.Ci.den, Den.Tg.den, Den.Tg.dens, Den.Tg.slots, Den.Tg.slotsL, Den.parL, Den.fSeq, Den.fRet, Den.fRetN, Den.fNop, Den.fBk, Den.fCt, Den.fSet, Den.fO, Den.fDrop, Den.SlOf, Den.notBg, Den.fIfS, Den.fIf, Den.fT, Den.truth, Den.fAnd, Den.fOr, Den.fNot, Den.fAndV, Den.fOrV, Den.fNotV, Den.isB, Den.fV, Den.fF, Den.frz, Den.half, Den.vw, Den.vws, Den.f1, Den.f2, Den.fL, Den.fM, Den.fVar, Den.fC, Den.fTup, Den.fLst, Den.fsCons, Den.fsNil, Den.fSetIx, Den.fAugIx, Den.fAug, Den.asInt, Den.items, Den.putItems, Den.sameKind, Den.fMut, Den.φApp, Den.φIns, Den.fCall, Den.fCallM, Den.fPar, Den.fPar3, Den.fAsg, Den.gNm, Den.gTp, Den.gsCons, Den.gsNil, Den.fSl, Den.fPt, Den.φSl, Den.add_int, Den.sub_int, Den.φNeg, Den.φCmp, Den.φIs, Den.φIsNot, Den.isNone, Den.len_lst, Den.len_tup, Den.φAbs, Den.φInt, Den.φTuple, Den.φList, Den.fdmt, Den.fdnp, L2.ixN, Den.eq_str, Den.ne_str, Den.eq_int, Den.ne_int, Den.ix_lst, Den.ix_tup, Den.at_zero, Den.at_one, Den.at_two, Den.at_three, Den.lim_lit]) ?_
  have hr : (-1000000 : Int) ≤ (rs.length : Int) ∧ (rs.length : Int) ≤ 1000000 := by omega
  refine ok_cons (ok_for (ds := nD (List.range rs.length)) (ρ1 := [.va (dunD rs k), .va (.int (v : Int)), .ls [], .no])
    (fun ds ρ => ∃ acc o s3, ρ = [.va (dunD rs k), .va (pD o), .ls (nD acc), s3] ∧ Pl s3 ∧ (∀ v, o = some v → v < rs.length) ∧ acc ++ upN rs ds.length o = up rs v ∧ acc.length + ds.length ≤ rs.length)
    (by simp [Den.Cd.denD, Den.fsStar, Den.f1, Den.fExt, Den.fRep, Den.fTr, Den.fCh, Den.opI, Den.opB, Den.opC, Den.opM, Den.bodyRun, Den.Ss.den, Den.S.den, Den.C.den, Den.C.denT, Den.Cs.denA, Den.Cs.denO, Den.Cs.denAT, Den.Cs.denOT, Den.Cs.denV, Den.Cs.denF, Den.Co.den, Den.Co.denT, Den.Ci.den, Den.Tg.den, Den.Tg.dens, Den.Tg.slots, Den.Tg.slotsL, Den.parL, Den.fSeq, Den.fRet, Den.fRetN, Den.fNop, Den.fBk, Den.fCt, Den.fSet, Den.fO, Den.fDrop, Den.SlOf, Den.notBg, Den.fIfS, Den.fIf, Den.fT, Den.truth, Den.fAnd, Den.fOr, Den.fNot, Den.fAndV, Den.fOrV, Den.fNotV, Den.isB, Den.fV, Den.fF, Den.frz, Den.half, Den.vw, Den.vws, Den.f1, Den.f2, Den.fL, Den.fM, Den.fVar, Den.fC, Den.fTup, Den.fLst, Den.fsCons, Den.fsNil, Den.fSetIx, Den.fAugIx, Den.fAug, Den.asInt, Den.items, Den.putItems, Den.sameKind, Den.fMut, Den.φApp, Den.φIns, Den.fCall, Den.fCallM, Den.fPar, Den.fPar3, Den.fAsg, Den.gNm, Den.gTp, Den.gsCons, Den.gsNil, Den.fSl, Den.fPt, Den.φSl, Den.add_int, Den.sub_int, Den.φNeg, Den.φCmp, Den.φIs, Den.φIsNot, Den.isNone, Den.len_lst, Den.len_tup, Den.φAbs, Den.φInt, Den.φTuple, Den.φList, Den.fdmt, Den.fdnp, L2.ixN, Den.eq_str, Den.ne_str, Den.eq_int, Den.ne_int, Den.ix_lst, Den.ix_tup, Den.at_zero, Den.at_one, Den.at_two, Den.at_three, Den.lim_lit, fR1, dunD, hr, rng_nat]) ⟨[], some v, .no, rfl, pl_no, fun _ e => by cases e; exact hv, by rw [nD_len, List.length_range]; rfl, by rw [nD_len, List.length_range]; simp⟩ ?_ ?_)
  · rintro d ds ρ ⟨acc, o, s3, rfl, p3, ho, he, hl⟩
    refine ⟨[.va (dunD rs k), .va (pD o), .ls (nD acc), .va d], by rcases p3 with rfl | ⟨x, rfl⟩ <;> simp [Den.Cd.denD, Den.fsStar, Den.f1, Den.fExt, Den.fRep, Den.fTr, Den.fCh, Den.opI, Den.opB, Den.opC, Den.opM, Den.bodyRun, Den.Ss.den, Den.S.den, Den.C.den, Den.C.denT, Den.Cs.denA, Den.Cs.denO, Den.Cs.denAT, Den.Cs.denOT, Den.Cs.denV, Den.Cs.denF, Den.Co.den, Den.Co.denT, Den.Ci.den, Den.Tg.den, Den.Tg.dens, Den.Tg.slots, Den.Tg.slotsL, Den.parL, Den.fSeq, Den.fRet, Den.fRetN, Den.fNop, Den.fBk, Den.fCt, Den.fSet, Den.fO, Den.fDrop, Den.SlOf, Den.notBg, Den.fIfS, Den.fIf, Den.fT, Den.truth, Den.fAnd, Den.fOr, Den.fNot, Den.fAndV, Den.fOrV, Den.fNotV, Den.isB, Den.fV, Den.fF, Den.frz, Den.half, Den.vw, Den.vws, Den.f1, Den.f2, Den.fL, Den.fM, Den.fVar, Den.fC, Den.fTup, Den.fLst, Den.fsCons, Den.fsNil, Den.fSetIx, Den.fAugIx, Den.fAug, Den.asInt, Den.items, Den.putItems, Den.sameKind, Den.fMut, Den.φApp, Den.φIns, Den.fCall, Den.fCallM, Den.fPar, Den.fPar3, Den.fAsg, Den.gNm, Den.gTp, Den.gsCons, Den.gsNil, Den.fSl, Den.fPt, Den.φSl, Den.add_int, Den.sub_int, Den.φNeg, Den.φCmp, Den.φIs, Den.φIsNot, Den.isNone, Den.len_lst, Den.len_tup, Den.φAbs, Den.φInt, Den.φTuple, Den.φList, Den.fdmt, Den.fdnp, L2.ixN, Den.eq_str, Den.ne_str, Den.eq_int, Den.ne_int, Den.ix_lst, Den.ix_tup, Den.at_zero, Den.at_one, Den.at_two, Den.at_three, Den.lim_lit], ?_⟩
    cases o with
    | none =>
      refine ok_step (ρ1 := [.va (dunD rs k), .va (pD none), .ls (nD acc), .va d]) (by simp [Den.Cd.denD, Den.fsStar, Den.f1, Den.fExt, Den.fRep, Den.fTr, Den.fCh, Den.opI, Den.opB, Den.opC, Den.opM, Den.bodyRun, Den.Ss.den, Den.S.den, Den.C.den, Den.C.denT, Den.Cs.denA, Den.Cs.denO, Den.Cs.denAT, Den.Cs.denOT, Den.Cs.denV, Den.Cs.denF, Den.Co.den, Den.Co.denT, Den.Ci.den, Den.Tg.den, Den.Tg.dens, Den.Tg.slots, Den.Tg.slotsL, Den.parL, Den.fSeq, Den.fRet, Den.fRetN, Den.fNop, Den.fBk, Den.fCt, Den.fSet, Den.fO, Den.fDrop, Den.SlOf, Den.notBg, Den.fIfS, Den.fIf, Den.fT, Den.truth, Den.fAnd, Den.fOr, Den.fNot, Den.fAndV, Den.fOrV, Den.fNotV, Den.isB, Den.fV, Den.fF, Den.frz, Den.half, Den.vw, Den.vws, Den.f1, Den.f2, Den.fL, Den.fM, Den.fVar, Den.fC, Den.fTup, Den.fLst, Den.fsCons, Den.fsNil, Den.fSetIx, Den.fAugIx, Den.fAug, Den.asInt, Den.items, Den.putItems, Den.sameKind, Den.fMut, Den.φApp, Den.φIns, Den.fCall, Den.fCallM, Den.fPar, Den.fPar3, Den.fAsg, Den.gNm, Den.gTp, Den.gsCons, Den.gsNil, Den.fSl, Den.fPt, Den.φSl, Den.add_int, Den.sub_int, Den.φNeg, Den.φCmp, Den.φIs, Den.φIsNot, Den.isNone, Den.len_lst, Den.len_tup, Den.φAbs, Den.φInt, Den.φTuple, Den.φList, Den.fdmt, Den.fdnp, L2.ixN, Den.eq_str, Den.ne_str, Den.eq_int, Den.ne_int, Den.ix_lst, Den.ix_tup, Den.at_zero, Den.at_one, Den.at_two, Den.at_three, Den.lim_lit, pD]) ?_
      exact ok_nil ⟨acc, none, _, rfl, pl_va, (fun _ e => by cases e), by rw [upN_none] at he ⊢; exact he, by simp at hl; omega⟩
    | some u =>
      have hu := ho u rfl
      have c1 : (nD acc).length < lim := by
        rw [nD_len]
        show _ < 1000000
        omega
      refine ok_step (ρ1 := [.va (dunD rs k), .va (pD (parOf rs u)), .ls (nD (acc ++ [u])), .va d]) (by simp [Den.Cd.denD, Den.fsStar, Den.f1, Den.fExt, Den.fRep, Den.fTr, Den.fCh, Den.opI, Den.opB, Den.opC, Den.opM, Den.bodyRun, Den.Ss.den, Den.S.den, Den.C.den, Den.C.denT, Den.Cs.denA, Den.Cs.denO, Den.Cs.denAT, Den.Cs.denOT, Den.Cs.denV, Den.Cs.denF, Den.Co.den, Den.Co.denT, Den.Ci.den, Den.Tg.den, Den.Tg.dens, Den.Tg.slots, Den.Tg.slotsL, Den.parL, Den.fSeq, Den.fRet, Den.fRetN, Den.fNop, Den.fBk, Den.fCt, Den.fSet, Den.fO, Den.fDrop, Den.SlOf, Den.notBg, Den.fIfS, Den.fIf, Den.fT, Den.truth, Den.fAnd, Den.fOr, Den.fNot, Den.fAndV, Den.fOrV, Den.fNotV, Den.isB, Den.fV, Den.fF, Den.frz, Den.half, Den.vw, Den.vws, Den.f1, Den.f2, Den.fL, Den.fM, Den.fVar, Den.fC, Den.fTup, Den.fLst, Den.fsCons, Den.fsNil, Den.fSetIx, Den.fAugIx, Den.fAug, Den.asInt, Den.items, Den.putItems, Den.sameKind, Den.fMut, Den.φApp, Den.φIns, Den.fCall, Den.fCallM, Den.fPar, Den.fPar3, Den.fAsg, Den.gNm, Den.gTp, Den.gsCons, Den.gsNil, Den.fSl, Den.fPt, Den.φSl, Den.add_int, Den.sub_int, Den.φNeg, Den.φCmp, Den.φIs, Den.φIsNot, Den.isNone, Den.len_lst, Den.len_tup, Den.φAbs, Den.φInt, Den.φTuple, Den.φList, Den.fdmt, Den.fdnp, L2.ixN, Den.eq_str, Den.ne_str, Den.eq_int, Den.ne_int, Den.ix_lst, Den.ix_tup, Den.at_zero, Den.at_one, Den.at_two, Den.at_three, Den.lim_lit, pD, dunD, roomD, c1, room_at hu, nD_app, nD_one, parOf_at hu]) ?_
      refine ok_nil ⟨acc ++ [u], parOf rs u, _, rfl, pl_va, (fun p e => by have := par_lt h e; omega), ?_, by simp at hl ⊢; omega⟩
      rw [← he]
      simp [upN]
  · rintro ρ ⟨acc, o, s3, rfl, p3, ho, he, hl⟩
    have e2 : acc = up rs v := by
      rw [← he]
      simp [upN]
    subst e2
    exact ok_last (r := .ls (nD (up rs v))) (ρ1 := [.va (dunD rs k), .va (pD o), .no, s3]) (by simp [Den.Cd.denD, Den.fsStar, Den.f1, Den.fExt, Den.fRep, Den.fTr, Den.fCh, Den.opI, Den.opB, Den.opC, Den.opM, Den.bodyRun, Den.Ss.den, Den.S.den, Den.C.den, Den.C.denT, Den.Cs.denA, Den.Cs.denO, Den.Cs.denAT, Den.Cs.denOT, Den.Cs.denV, Den.Cs.denF, Den.Co.den, Den.Co.denT, Den.Ci.den, Den.Tg.den, Den.Tg.dens, Den.Tg.slots, Den.Tg.slotsL, Den.parL, Den.fSeq, Den.fRet, Den.fRetN, Den.fNop, Den.fBk, Den.fCt, Den.fSet, Den.fO, Den.fDrop, Den.SlOf, Den.notBg, Den.fIfS, Den.fIf, Den.fT, Den.truth, Den.fAnd, Den.fOr, Den.fNot, Den.fAndV, Den.fOrV, Den.fNotV, Den.isB, Den.fV, Den.fF, Den.frz, Den.half, Den.vw, Den.vws, Den.f1, Den.f2, Den.fL, Den.fM, Den.fVar, Den.fC, Den.fTup, Den.fLst, Den.fsCons, Den.fsNil, Den.fSetIx, Den.fAugIx, Den.fAug, Den.asInt, Den.items, Den.putItems, Den.sameKind, Den.fMut, Den.φApp, Den.φIns, Den.fCall, Den.fCallM, Den.fPar, Den.fPar3, Den.fAsg, Den.gNm, Den.gTp, Den.gsCons, Den.gsNil, Den.fSl, Den.fPt, Den.φSl, Den.add_int, Den.sub_int, Den.φNeg, Den.φCmp, Den.φIs, Den.φIsNot, Den.isNone, Den.len_lst, Den.len_tup, Den.φAbs, Den.φInt, Den.φTuple, Den.φList, Den.fdmt, Den.fdnp, L2.ixN, Den.eq_str, Den.ne_str, Den.eq_int, Den.ne_int, Den.ix_lst, Den.ix_tup, Den.at_zero, Den.at_one, Den.at_two, Den.at_three, Den.lim_lit]) ⟨rfl, rfl⟩
end W

set_option autoImplicit false
namespace W
open PySem PySem.Spec L2 Den
variable {rs : List Rm} {k : Int}
theorem eqr {d : FD} {β ds : List D} {r : RR} {β' : List D} (h : Ans (d.run β ds) fun r' b => r' = r ∧ b = β') : d.run β ds = some (r, β') := by
  obtain ⟨r', b, e, rfl, rfl⟩ := h
  exact e
def hang (rs : List Rm) (v u : Nat) : Bool := decide (v ∈ up rs u)
theorem lim_11 {n : Nat} (h : n ≤ 11) : n ≤ lim := by show n ≤ 1000000; omega
theorem rng_ok {n : Nat} (h : n ≤ 11) : (-1000000 : Int) ≤ (n : Int) ∧ (n : Int) ≤ 1000000 := by omega
theorem lbranch_ok (h : Dun rs) {v : Nat} : d_lbranch.run [] [dunD rs k, .int (v : Int)] = some (.ls (nD ((List.range rs.length).filter (hang rs v))), []) := by
  have q : (q_lbranch_0).den g_lbranch [.va (dunD rs k), .va (.int (v : Int)), .no] = some (.ls (((List.range rs.length).filter (hang rs v)).map nI), [.va (dunD rs k), .va (.int (v : Int)), .no]) := by
    unfold q_lbranch_0
    refine lc_of (l := List.range rs.length) (f := nI) (ρ1 := [.va (dunD rs k), .va (.int (v : Int)), .no]) (by simp [Den.Cd.denD, Den.fsStar, Den.f1, Den.fExt, Den.fRep, Den.fTr, Den.fCh, Den.opI, Den.opB, Den.opC, Den.opM, Den.bodyRun, Den.Ss.den, Den.S.den, Den.C.den, Den.C.denT, Den.Cs.denA, Den.Cs.denO, Den.Cs.denAT, Den.Cs.denOT, Den.Cs.denV, Den.Cs.denF, Den.Co.den, Den.Co.denT, Den.Ci.den, Den.Tg.den, Den.Tg.dens, Den.Tg.slots, Den.Tg.slotsL, Den.parL, Den.fSeq, Den.fRet, Den.fRetN, Den.fNop, Den.fBk, Den.fCt, Den.fSet, Den.fO, Den.fDrop, Den.SlOf, Den.notBg, Den.fIfS, Den.fIf, Den.fT, Den.truth, Den.fAnd, Den.fOr, Den.fNot, Den.fAndV, Den.fOrV, Den.fNotV, Den.isB, Den.fV, Den.fF, Den.frz, Den.half, Den.vw, Den.vws, Den.f1, Den.f2, Den.fL, Den.fM, Den.fVar, Den.fC, Den.fTup, Den.fLst, Den.fsCons, Den.fsNil, Den.fSetIx, Den.fAugIx, Den.fAug, Den.asInt, Den.items, Den.putItems, Den.sameKind, Den.fMut, Den.φApp, Den.φIns, Den.fCall, Den.fCallM, Den.fPar, Den.fPar3, Den.fAsg, Den.gNm, Den.gTp, Den.gsCons, Den.gsNil, Den.fSl, Den.fPt, Den.φSl, Den.add_int, Den.sub_int, Den.φNeg, Den.φCmp, Den.φIs, Den.φIsNot, Den.isNone, Den.len_lst, Den.len_tup, Den.φAbs, Den.φInt, Den.φTuple, Den.φList, Den.fdmt, Den.fdnp, L2.ixN, Den.eq_str, Den.ne_str, Den.eq_int, Den.ne_int, Den.ix_lst, Den.ix_tup, Den.at_zero, Den.at_one, Den.at_two, Den.at_three, Den.lim_lit, fR1, dunD, rng_ok h.len1, rng_nat]; rfl) (by rw [List.length_range]; exact lim_11 h.len1) (by rfl) (fun u hu => ?_)
    have hu2 : u < rs.length := List.mem_range.mp hu
    have e := up_ok (k := k) h hu2
    refine ⟨[.va (dunD rs k), .va (.int (v : Int)), .va (nI u)], [.va (dunD rs k), .va (.int (v : Int)), .va (nI u)], by rfl, ?_, fun _ => ⟨[.va (dunD rs k), .va (.int (v : Int)), .va (nI u)], by rfl, by rfl⟩, fun _ => by rfl⟩
    have mt : d_lup.mt = false := mt_lup
    simp [Den.Cd.denD, Den.fsStar, Den.f1, Den.fExt, Den.fRep, Den.fTr, Den.fCh, Den.opI, Den.opB, Den.opC, Den.opM, Den.bodyRun, Den.Ss.den, Den.S.den, Den.C.den, Den.C.denT, Den.Cs.denA, Den.Cs.denO, Den.Cs.denAT, Den.Cs.denOT, Den.Cs.denV, Den.Cs.denF, Den.Co.den, Den.Co.denT, Den.Ci.den, Den.Tg.den, Den.Tg.dens, Den.Tg.slots, Den.Tg.slotsL, Den.parL, Den.fSeq, Den.fRet, Den.fRetN, Den.fNop, Den.fBk, Den.fCt, Den.fSet, Den.fO, Den.fDrop, Den.SlOf, Den.notBg, Den.fIfS, Den.fIf, Den.fT, Den.truth, Den.fAnd, Den.fOr, Den.fNot, Den.fAndV, Den.fOrV, Den.fNotV, Den.isB, Den.fV, Den.fF, Den.frz, Den.half, Den.vw, Den.vws, Den.f1, Den.f2, Den.fL, Den.fM, Den.fVar, Den.fC, Den.fTup, Den.fLst, Den.fsCons, Den.fsNil, Den.fSetIx, Den.fAugIx, Den.fAug, Den.asInt, Den.items, Den.putItems, Den.sameKind, Den.fMut, Den.φApp, Den.φIns, Den.fCall, Den.fCallM, Den.fPar, Den.fPar3, Den.fAsg, Den.gNm, Den.gTp, Den.gsCons, Den.gsNil, Den.fSl, Den.fPt, Den.φSl, Den.add_int, Den.sub_int, Den.φNeg, Den.φCmp, Den.φIs, Den.φIsNot, Den.isNone, Den.len_lst, Den.len_tup, Den.φAbs, Den.φInt, Den.φTuple, Den.φList, Den.fdmt, Den.fdnp, L2.ixN, Den.eq_str, Den.ne_str, Den.eq_int, Den.ne_int, Den.ix_lst, Den.ix_tup, Den.at_zero, Den.at_one, Den.at_two, Den.at_three, Den.lim_lit, g_lbranch, mt_lup, np_lup, nI, e, in_nat, hang]
  refine eqr ?_
  rw [r_lbranch]
  refine run_f ?_
  exact ok_last (r := .ls (((List.range rs.length).filter (hang rs v)).map nI)) (ρ1 := [.va (dunD rs k), .va (.int (v : Int)), .no]) (by simp [Den.Cd.denD, Den.fsStar, Den.f1, Den.fExt, Den.fRep, Den.fTr, Den.fCh, Den.opI, Den.opB, Den.opC, Den.opM, Den.bodyRun, Den.Ss.den, Den.S.den, Den.C.den, Den.C.denT, Den.Cs.denA, Den.Cs.denO, Den.Cs.denAT, Den.Cs.denOT, Den.Cs.denV, Den.Cs.denF, Den.Co.den, Den.Co.denT, Den.Ci.den, Den.Tg.den, Den.Tg.dens, Den.Tg.slots, Den.Tg.slotsL, Den.parL, Den.fSeq, Den.fRet, Den.fRetN, Den.fNop, Den.fBk, Den.fCt, Den.fSet, Den.fO, Den.fDrop, Den.SlOf, Den.notBg, Den.fIfS, Den.fIf, Den.fT, Den.truth, Den.fAnd, Den.fOr, Den.fNot, Den.fAndV, Den.fOrV, Den.fNotV, Den.isB, Den.fV, Den.fF, Den.frz, Den.half, Den.vw, Den.vws, Den.f1, Den.f2, Den.fL, Den.fM, Den.fVar, Den.fC, Den.fTup, Den.fLst, Den.fsCons, Den.fsNil, Den.fSetIx, Den.fAugIx, Den.fAug, Den.asInt, Den.items, Den.putItems, Den.sameKind, Den.fMut, Den.φApp, Den.φIns, Den.fCall, Den.fCallM, Den.fPar, Den.fPar3, Den.fAsg, Den.gNm, Den.gTp, Den.gsCons, Den.gsNil, Den.fSl, Den.fPt, Den.φSl, Den.add_int, Den.sub_int, Den.φNeg, Den.φCmp, Den.φIs, Den.φIsNot, Den.isNone, Den.len_lst, Den.len_tup, Den.φAbs, Den.φInt, Den.φTuple, Den.φList, Den.fdmt, Den.fdnp, L2.ixN, Den.eq_str, Den.ne_str, Den.eq_int, Den.ne_int, Den.ix_lst, Den.ix_tup, Den.at_zero, Den.at_one, Den.at_two, Den.at_three, Den.lim_lit, q]) ⟨rfl, rfl⟩

/-! ### the program's own functions -/
theorem hang_self (h : Dun rs) {v : Nat} (hv : v < rs.length) : hang rs v v = true := by
  unfold hang
  rw [up_cons h hv]
  simp
theorem hang_lt (h : Dun rs) {v u : Nat} (hu : u < rs.length) (hl : u < v) : hang rs v u = false := by
  unfold hang
  rw [decide_eq_false_iff_not]
  intro z
  have := up_le h u hu v z
  omega
theorem hang_step (h : Dun rs) {v u : Nat} (hu : u < rs.length) (hl : v < u) : hang rs v u = match parOf rs u with
    | none => false
    | some p => hang rs v p := by
  unfold hang
  rw [up_cons h hu]
  have hne : v ≠ u := by omega
  cases e : parOf rs u with
  | none => simp [hne]
  | some p => simp [hne]
theorem below (h : Dun rs) {v : Nat} (hv : v < rs.length) : (List.range (v + 1)).filter (hang rs v) = [v] := by
  rw [List.range_succ, List.filter_append]
  have e1 : (List.range v).filter (hang rs v) = [] := by
    rw [List.filter_eq_nil_iff]
    intro u hu
    have := List.mem_range.mp hu
    rw [hang_lt h (by omega) this]
    simp
  rw [e1]
  simp [hang_self h hv]
theorem par_some (h : Dun rs) {u : Nat} (hu : u < rs.length) (h0 : 0 < u) : ∃ p, parOf rs u = some p ∧ p < u ∧ rs[u].par = some p := by
  obtain ⟨p, e, hp⟩ := h.par u rs[u] (List.getElem?_eq_getElem hu) h0
  exact ⟨p, by rw [parOf_at hu]; exact e, hp, e⟩
theorem branch_ok (h : Dun rs) {v : Nat} (hv : v < rs.length) : d_branch_of.run [] [dunD rs k, .int (v : Int)] = some (.va (.tuple (nD ((List.range rs.length).filter (hang rs v)))), []) := by
  refine eqr ?_
  rw [r_branch_of]
  refine run_f ?_
  have hlen := h.len1
  refine ok_step (ρ1 := [.va (dunD rs k), .va (.int (v : Int)), .ls (nD ((List.range (v + 1)).filter (hang rs v))), .no]) (by rw [below h hv, nD_one]; simp [Den.Cd.denD, Den.fsStar, Den.f1, Den.fExt, Den.fRep, Den.fTr, Den.fCh, Den.opI, Den.opB, Den.opC, Den.opM, Den.bodyRun, Den.Ss.den, Den.S.den, Den.C.den, Den.C.denT, Den.Cs.denA, Den.Cs.denO, Den.Cs.denAT, Den.Cs.denOT, Den.Cs.denV, Den.Cs.denF, Den.Co.den, Den.Co.denT, Den.Ci.den, Den.Tg.den, Den.Tg.dens, Den.Tg.slots, Den.Tg.slotsL, Den.parL, Den.fSeq, Den.fRet, Den.fRetN, Den.fNop, Den.fBk, Den.fCt, Den.fSet, Den.fO, Den.fDrop, Den.SlOf, Den.notBg, Den.fIfS, Den.fIf, Den.fT, Den.truth, Den.fAnd, Den.fOr, Den.fNot, Den.fAndV, Den.fOrV, Den.fNotV, Den.isB, Den.fV, Den.fF, Den.frz, Den.half, Den.vw, Den.vws, Den.f1, Den.f2, Den.fL, Den.fM, Den.fVar, Den.fC, Den.fTup, Den.fLst, Den.fsCons, Den.fsNil, Den.fSetIx, Den.fAugIx, Den.fAug, Den.asInt, Den.items, Den.putItems, Den.sameKind, Den.fMut, Den.φApp, Den.φIns, Den.fCall, Den.fCallM, Den.fPar, Den.fPar3, Den.fAsg, Den.gNm, Den.gTp, Den.gsCons, Den.gsNil, Den.fSl, Den.fPt, Den.φSl, Den.add_int, Den.sub_int, Den.φNeg, Den.φCmp, Den.φIs, Den.φIsNot, Den.isNone, Den.len_lst, Den.len_tup, Den.φAbs, Den.φInt, Den.φTuple, Den.φList, Den.fdmt, Den.fdnp, L2.ixN, Den.eq_str, Den.ne_str, Den.eq_int, Den.ne_int, Den.ix_lst, Den.ix_tup, Den.at_zero, Den.at_one, Den.at_two, Den.at_three, Den.lim_lit]) ?_
  have hrg : rng ((v : Int) + 1) (rs.length : Int) = nD (List.range' (v + 1) (rs.length - (v + 1))) := by
    have q := rng_nat2 (a := v + 1) (n := rs.length) (by omega)
    rw [← List.range'_eq_map_range] at q
    exact q
  refine ok_cons (ok_for (ds := nD (List.range' (v + 1) (rs.length - (v + 1)))) (ρ1 := [.va (dunD rs k), .va (.int (v : Int)), .ls (nD ((List.range (v + 1)).filter (hang rs v))), .no])
    (fun ds ρ => ∃ a s3, v < a ∧ a ≤ rs.length ∧ ds = nD (List.range' a (rs.length - a)) ∧ Pl s3 ∧ ρ = [.va (dunD rs k), .va (.int (v : Int)), .ls (nD ((List.range a).filter (hang rs v))), s3])
    (by rw [it_rng2 (x := (v : Int) + 1) (y := rs.length) (ρ1 := [.va (dunD rs k), .va (.int (v : Int)), .ls (nD ((List.range (v + 1)).filter (hang rs v))), .no]) (ρ2 := [.va (dunD rs k), .va (.int (v : Int)), .ls (nD ((List.range (v + 1)).filter (hang rs v))), .no]) (by simp [Den.Cd.denD, Den.fsStar, Den.f1, Den.fExt, Den.fRep, Den.fTr, Den.fCh, Den.opI, Den.opB, Den.opC, Den.opM, Den.bodyRun, Den.Ss.den, Den.S.den, Den.C.den, Den.C.denT, Den.Cs.denA, Den.Cs.denO, Den.Cs.denAT, Den.Cs.denOT, Den.Cs.denV, Den.Cs.denF, Den.Co.den, Den.Co.denT, Den.Ci.den, Den.Tg.den, Den.Tg.dens, Den.Tg.slots, Den.Tg.slotsL, Den.parL, Den.fSeq, Den.fRet, Den.fRetN, Den.fNop, Den.fBk, Den.fCt, Den.fSet, Den.fO, Den.fDrop, Den.SlOf, Den.notBg, Den.fIfS, Den.fIf, Den.fT, Den.truth, Den.fAnd, Den.fOr, Den.fNot, Den.fAndV, Den.fOrV, Den.fNotV, Den.isB, Den.fV, Den.fF, Den.frz, Den.half, Den.vw, Den.vws, Den.f1, Den.f2, Den.fL, Den.fM, Den.fVar, Den.fC, Den.fTup, Den.fLst, Den.fsCons, Den.fsNil, Den.fSetIx, Den.fAugIx, Den.fAug, Den.asInt, Den.items, Den.putItems, Den.sameKind, Den.fMut, Den.φApp, Den.φIns, Den.fCall, Den.fCallM, Den.fPar, Den.fPar3, Den.fAsg, Den.gNm, Den.gTp, Den.gsCons, Den.gsNil, Den.fSl, Den.fPt, Den.φSl, Den.add_int, Den.sub_int, Den.φNeg, Den.φCmp, Den.φIs, Den.φIsNot, Den.isNone, Den.len_lst, Den.len_tup, Den.φAbs, Den.φInt, Den.φTuple, Den.φList, Den.fdmt, Den.fdnp, L2.ixN, Den.eq_str, Den.ne_str, Den.eq_int, Den.ne_int, Den.ix_lst, Den.ix_tup, Den.at_zero, Den.at_one, Den.at_two, Den.at_three, Den.lim_lit]) (by simp [Den.Cd.denD, Den.fsStar, Den.f1, Den.fExt, Den.fRep, Den.fTr, Den.fCh, Den.opI, Den.opB, Den.opC, Den.opM, Den.bodyRun, Den.Ss.den, Den.S.den, Den.C.den, Den.C.denT, Den.Cs.denA, Den.Cs.denO, Den.Cs.denAT, Den.Cs.denOT, Den.Cs.denV, Den.Cs.denF, Den.Co.den, Den.Co.denT, Den.Ci.den, Den.Tg.den, Den.Tg.dens, Den.Tg.slots, Den.Tg.slotsL, Den.parL, Den.fSeq, Den.fRet, Den.fRetN, Den.fNop, Den.fBk, Den.fCt, Den.fSet, Den.fO, Den.fDrop, Den.SlOf, Den.notBg, Den.fIfS, Den.fIf, Den.fT, Den.truth, Den.fAnd, Den.fOr, Den.fNot, Den.fAndV, Den.fOrV, Den.fNotV, Den.isB, Den.fV, Den.fF, Den.frz, Den.half, Den.vw, Den.vws, Den.f1, Den.f2, Den.fL, Den.fM, Den.fVar, Den.fC, Den.fTup, Den.fLst, Den.fsCons, Den.fsNil, Den.fSetIx, Den.fAugIx, Den.fAug, Den.asInt, Den.items, Den.putItems, Den.sameKind, Den.fMut, Den.φApp, Den.φIns, Den.fCall, Den.fCallM, Den.fPar, Den.fPar3, Den.fAsg, Den.gNm, Den.gTp, Den.gsCons, Den.gsNil, Den.fSl, Den.fPt, Den.φSl, Den.add_int, Den.sub_int, Den.φNeg, Den.φCmp, Den.φIs, Den.φIsNot, Den.isNone, Den.len_lst, Den.len_tup, Den.φAbs, Den.φInt, Den.φTuple, Den.φList, Den.fdmt, Den.fdnp, L2.ixN, Den.eq_str, Den.ne_str, Den.eq_int, Den.ne_int, Den.ix_lst, Den.ix_tup, Den.at_zero, Den.at_one, Den.at_two, Den.at_three, Den.lim_lit, dunD]) (by omega), hrg]) ⟨v + 1, .no, by omega, by omega, rfl, pl_no, rfl⟩ ?_ ?_)
  · rintro d ds ρ ⟨a, s3, hva, han, hds, p3, rfl⟩
    by_cases haa : a = rs.length
    · subst haa
      simp [nD] at hds
    · have hlt : a < rs.length := by omega
      obtain ⟨m, hm⟩ : ∃ m, rs.length - a = m + 1 := ⟨rs.length - a - 1, by omega⟩
      rw [hm, List.range'_succ] at hds
      have hd : d = .int (a : Int) := (List.cons.inj hds).1
      have hds2 : ds = nD (List.range' (a + 1) m) := (List.cons.inj hds).2
      subst hd
      refine ⟨[.va (dunD rs k), .va (.int (v : Int)), .ls (nD ((List.range a).filter (hang rs v))), .va (.int (a : Int))], by rcases p3 with rfl | ⟨x, rfl⟩ <;> simp [Den.Cd.denD, Den.fsStar, Den.f1, Den.fExt, Den.fRep, Den.fTr, Den.fCh, Den.opI, Den.opB, Den.opC, Den.opM, Den.bodyRun, Den.Ss.den, Den.S.den, Den.C.den, Den.C.denT, Den.Cs.denA, Den.Cs.denO, Den.Cs.denAT, Den.Cs.denOT, Den.Cs.denV, Den.Cs.denF, Den.Co.den, Den.Co.denT, Den.Ci.den, Den.Tg.den, Den.Tg.dens, Den.Tg.slots, Den.Tg.slotsL, Den.parL, Den.fSeq, Den.fRet, Den.fRetN, Den.fNop, Den.fBk, Den.fCt, Den.fSet, Den.fO, Den.fDrop, Den.SlOf, Den.notBg, Den.fIfS, Den.fIf, Den.fT, Den.truth, Den.fAnd, Den.fOr, Den.fNot, Den.fAndV, Den.fOrV, Den.fNotV, Den.isB, Den.fV, Den.fF, Den.frz, Den.half, Den.vw, Den.vws, Den.f1, Den.f2, Den.fL, Den.fM, Den.fVar, Den.fC, Den.fTup, Den.fLst, Den.fsCons, Den.fsNil, Den.fSetIx, Den.fAugIx, Den.fAug, Den.asInt, Den.items, Den.putItems, Den.sameKind, Den.fMut, Den.φApp, Den.φIns, Den.fCall, Den.fCallM, Den.fPar, Den.fPar3, Den.fAsg, Den.gNm, Den.gTp, Den.gsCons, Den.gsNil, Den.fSl, Den.fPt, Den.φSl, Den.add_int, Den.sub_int, Den.φNeg, Den.φCmp, Den.φIs, Den.φIsNot, Den.isNone, Den.len_lst, Den.len_tup, Den.φAbs, Den.φInt, Den.φTuple, Den.φList, Den.fdmt, Den.fdnp, L2.ixN, Den.eq_str, Den.ne_str, Den.eq_int, Den.ne_int, Den.ix_lst, Den.ix_tup, Den.at_zero, Den.at_one, Den.at_two, Den.at_three, Den.lim_lit], ?_⟩
      obtain ⟨p, e1, hp, e2⟩ := par_some h hlt (by omega)
      have em : hang rs v a = hang rs v p := by rw [hang_step h hlt hva, e1]
      have en : nD ((List.range (a + 1)).filter (hang rs v)) = nD ((List.range a).filter (hang rs v)) ++ (if hang rs v a then [.int (a : Int)] else []) := by
        rw [List.range_succ, List.filter_append, nD_app]
        congr 1
        cases hh : hang rs v a <;> simp [List.filter_cons, hh, nD, nI]
      refine ok_step (ρ1 := [.va (dunD rs k), .va (.int (v : Int)), .ls (nD ((List.range (a + 1)).filter (hang rs v))), .va (.int (a : Int))]) ?_ (ok_nil ⟨a + 1, _, by omega, by omega, by rw [hds2]; congr 2; omega, pl_va, rfl⟩)
      have c1 : (nD ((List.range a).filter (hang rs v))).length < lim := by
        rw [nD_len]
        have := List.length_filter_le (hang rs v) (List.range a)
        rw [List.length_range] at this
        show _ < 1000000
        omega
      rw [en]
      cases hh : hang rs v a with
      | true =>
        rw [hh] at em
        simp [Den.Cd.denD, Den.fsStar, Den.f1, Den.fExt, Den.fRep, Den.fTr, Den.fCh, Den.opI, Den.opB, Den.opC, Den.opM, Den.bodyRun, Den.Ss.den, Den.S.den, Den.C.den, Den.C.denT, Den.Cs.denA, Den.Cs.denO, Den.Cs.denAT, Den.Cs.denOT, Den.Cs.denV, Den.Cs.denF, Den.Co.den, Den.Co.denT, Den.Ci.den, Den.Tg.den, Den.Tg.dens, Den.Tg.slots, Den.Tg.slotsL, Den.parL, Den.fSeq, Den.fRet, Den.fRetN, Den.fNop, Den.fBk, Den.fCt, Den.fSet, Den.fO, Den.fDrop, Den.SlOf, Den.notBg, Den.fIfS, Den.fIf, Den.fT, Den.truth, Den.fAnd, Den.fOr, Den.fNot, Den.fAndV, Den.fOrV, Den.fNotV, Den.isB, Den.fV, Den.fF, Den.frz, Den.half, Den.vw, Den.vws, Den.f1, Den.f2, Den.fL, Den.fM, Den.fVar, Den.fC, Den.fTup, Den.fLst, Den.fsCons, Den.fsNil, Den.fSetIx, Den.fAugIx, Den.fAug, Den.asInt, Den.items, Den.putItems, Den.sameKind, Den.fMut, Den.φApp, Den.φIns, Den.fCall, Den.fCallM, Den.fPar, Den.fPar3, Den.fAsg, Den.gNm, Den.gTp, Den.gsCons, Den.gsNil, Den.fSl, Den.fPt, Den.φSl, Den.add_int, Den.sub_int, Den.φNeg, Den.φCmp, Den.φIs, Den.φIsNot, Den.isNone, Den.len_lst, Den.len_tup, Den.φAbs, Den.φInt, Den.φTuple, Den.φList, Den.fdmt, Den.fdnp, L2.ixN, Den.eq_str, Den.ne_str, Den.eq_int, Den.ne_int, Den.ix_lst, Den.ix_tup, Den.at_zero, Den.at_one, Den.at_two, Den.at_three, Den.lim_lit, dunD, room_at hlt, roomD, e2, pD, in_nat, ← em, hp, c1]
      | false =>
        rw [hh] at em
        simp [Den.Cd.denD, Den.fsStar, Den.f1, Den.fExt, Den.fRep, Den.fTr, Den.fCh, Den.opI, Den.opB, Den.opC, Den.opM, Den.bodyRun, Den.Ss.den, Den.S.den, Den.C.den, Den.C.denT, Den.Cs.denA, Den.Cs.denO, Den.Cs.denAT, Den.Cs.denOT, Den.Cs.denV, Den.Cs.denF, Den.Co.den, Den.Co.denT, Den.Ci.den, Den.Tg.den, Den.Tg.dens, Den.Tg.slots, Den.Tg.slotsL, Den.parL, Den.fSeq, Den.fRet, Den.fRetN, Den.fNop, Den.fBk, Den.fCt, Den.fSet, Den.fO, Den.fDrop, Den.SlOf, Den.notBg, Den.fIfS, Den.fIf, Den.fT, Den.truth, Den.fAnd, Den.fOr, Den.fNot, Den.fAndV, Den.fOrV, Den.fNotV, Den.isB, Den.fV, Den.fF, Den.frz, Den.half, Den.vw, Den.vws, Den.f1, Den.f2, Den.fL, Den.fM, Den.fVar, Den.fC, Den.fTup, Den.fLst, Den.fsCons, Den.fsNil, Den.fSetIx, Den.fAugIx, Den.fAug, Den.asInt, Den.items, Den.putItems, Den.sameKind, Den.fMut, Den.φApp, Den.φIns, Den.fCall, Den.fCallM, Den.fPar, Den.fPar3, Den.fAsg, Den.gNm, Den.gTp, Den.gsCons, Den.gsNil, Den.fSl, Den.fPt, Den.φSl, Den.add_int, Den.sub_int, Den.φNeg, Den.φCmp, Den.φIs, Den.φIsNot, Den.isNone, Den.len_lst, Den.len_tup, Den.φAbs, Den.φInt, Den.φTuple, Den.φList, Den.fdmt, Den.fdnp, L2.ixN, Den.eq_str, Den.ne_str, Den.eq_int, Den.ne_int, Den.ix_lst, Den.ix_tup, Den.at_zero, Den.at_one, Den.at_two, Den.at_three, Den.lim_lit, dunD, room_at hlt, roomD, e2, pD, in_nat, ← em, hp]
  · rintro ρ ⟨a, s3, hva, han, hds, p3, rfl⟩
    have e : a = rs.length := by
      have q := congrArg List.length hds
      rw [nD_len, List.length_range'] at q
      simp at q
      omega
    subst e
    exact ok_last (r := .va (.tuple (nD ((List.range rs.length).filter (hang rs v))))) (ρ1 := [.va (dunD rs k), .va (.int (v : Int)), .ls (nD ((List.range rs.length).filter (hang rs v))), s3]) (by simp [Den.Cd.denD, Den.fsStar, Den.f1, Den.fExt, Den.fRep, Den.fTr, Den.fCh, Den.opI, Den.opB, Den.opC, Den.opM, Den.bodyRun, Den.Ss.den, Den.S.den, Den.C.den, Den.C.denT, Den.Cs.denA, Den.Cs.denO, Den.Cs.denAT, Den.Cs.denOT, Den.Cs.denV, Den.Cs.denF, Den.Co.den, Den.Co.denT, Den.Ci.den, Den.Tg.den, Den.Tg.dens, Den.Tg.slots, Den.Tg.slotsL, Den.parL, Den.fSeq, Den.fRet, Den.fRetN, Den.fNop, Den.fBk, Den.fCt, Den.fSet, Den.fO, Den.fDrop, Den.SlOf, Den.notBg, Den.fIfS, Den.fIf, Den.fT, Den.truth, Den.fAnd, Den.fOr, Den.fNot, Den.fAndV, Den.fOrV, Den.fNotV, Den.isB, Den.fV, Den.fF, Den.frz, Den.half, Den.vw, Den.vws, Den.f1, Den.f2, Den.fL, Den.fM, Den.fVar, Den.fC, Den.fTup, Den.fLst, Den.fsCons, Den.fsNil, Den.fSetIx, Den.fAugIx, Den.fAug, Den.asInt, Den.items, Den.putItems, Den.sameKind, Den.fMut, Den.φApp, Den.φIns, Den.fCall, Den.fCallM, Den.fPar, Den.fPar3, Den.fAsg, Den.gNm, Den.gTp, Den.gsCons, Den.gsNil, Den.fSl, Den.fPt, Den.φSl, Den.add_int, Den.sub_int, Den.φNeg, Den.φCmp, Den.φIs, Den.φIsNot, Den.isNone, Den.len_lst, Den.len_tup, Den.φAbs, Den.φInt, Den.φTuple, Den.φList, Den.fdmt, Den.fdnp, L2.ixN, Den.eq_str, Den.ne_str, Den.eq_int, Den.ne_int, Den.ix_lst, Den.ix_tup, Den.at_zero, Den.at_one, Den.at_two, Den.at_three, Den.lim_lit]) ⟨rfl, rfl⟩
end W

set_option autoImplicit false
namespace W
open PySem PySem.Spec L2 Den
variable {rs : List Rm} {k : Int}
def upO (rs : List Rm) : Option Nat → List Nat
  | none => []
  | some p => up rs p
theorem up_cons2 (h : Dun rs) {v : Nat} (hv : v < rs.length) : up rs v = v :: upO rs (parOf rs v) := by
  rw [up_cons h hv]
  cases parOf rs v <;> rfl
theorem up_len (h : Dun rs) {v : Nat} (hv : v < rs.length) : (up rs v).length ≤ 11 := by
  have e : ∀ n o, (upN rs n o).length ≤ n := by
    intro n
    induction n with
    | zero => intro o; simp [upN]
    | succ n ih =>
      intro o
      cases o with
      | none => simp [upN]
      | some v => simpa [upN] using ih (parOf rs v)
  exact Nat.le_trans (e _ _) h.len1
theorem way_ok (h : Dun rs) {v : Nat} (hv : v < rs.length) : d_way_to.run [] [dunD rs k, .int (v : Int)] = some (.va (.tuple (sortD (nD (up rs v)))), []) := by
  refine eqr ?_
  rw [r_way_to]
  refine run_f ?_
  have hlen := h.len1
  refine ok_step (ρ1 := [.va (dunD rs k), .va (.int (v : Int)), .ls (nD [v]), .no]) (by simp [Den.Cd.denD, Den.fsStar, Den.f1, Den.fExt, Den.fRep, Den.fTr, Den.fCh, Den.opI, Den.opB, Den.opC, Den.opM, Den.bodyRun, Den.Ss.den, Den.S.den, Den.C.den, Den.C.denT, Den.Cs.denA, Den.Cs.denO, Den.Cs.denAT, Den.Cs.denOT, Den.Cs.denV, Den.Cs.denF, Den.Co.den, Den.Co.denT, Den.Ci.den, Den.Tg.den, Den.Tg.dens, Den.Tg.slots, Den.Tg.slotsL, Den.parL, Den.fSeq, Den.fRet, Den.fRetN, Den.fNop, Den.fBk, Den.fCt, Den.fSet, Den.fO, Den.fDrop, Den.SlOf, Den.notBg, Den.fIfS, Den.fIf, Den.fT, Den.truth, Den.fAnd, Den.fOr, Den.fNot, Den.fAndV, Den.fOrV, Den.fNotV, Den.isB, Den.fV, Den.fF, Den.frz, Den.half, Den.vw, Den.vws, Den.f1, Den.f2, Den.fL, Den.fM, Den.fVar, Den.fC, Den.fTup, Den.fLst, Den.fsCons, Den.fsNil, Den.fSetIx, Den.fAugIx, Den.fAug, Den.asInt, Den.items, Den.putItems, Den.sameKind, Den.fMut, Den.φApp, Den.φIns, Den.fCall, Den.fCallM, Den.fPar, Den.fPar3, Den.fAsg, Den.gNm, Den.gTp, Den.gsCons, Den.gsNil, Den.fSl, Den.fPt, Den.φSl, Den.add_int, Den.sub_int, Den.φNeg, Den.φCmp, Den.φIs, Den.φIsNot, Den.isNone, Den.len_lst, Den.len_tup, Den.φAbs, Den.φInt, Den.φTuple, Den.φList, Den.fdmt, Den.fdnp, L2.ixN, Den.eq_str, Den.ne_str, Den.eq_int, Den.ne_int, Den.ix_lst, Den.ix_tup, Den.at_zero, Den.at_one, Den.at_two, Den.at_three, Den.lim_lit, nD_one]) ?_
  refine ok_step (ρ1 := [.va (dunD rs k), .va (.int (v : Int)), .ls (nD [v]), .va (pD (parOf rs v))]) (by simp [Den.Cd.denD, Den.fsStar, Den.f1, Den.fExt, Den.fRep, Den.fTr, Den.fCh, Den.opI, Den.opB, Den.opC, Den.opM, Den.bodyRun, Den.Ss.den, Den.S.den, Den.C.den, Den.C.denT, Den.Cs.denA, Den.Cs.denO, Den.Cs.denAT, Den.Cs.denOT, Den.Cs.denV, Den.Cs.denF, Den.Co.den, Den.Co.denT, Den.Ci.den, Den.Tg.den, Den.Tg.dens, Den.Tg.slots, Den.Tg.slotsL, Den.parL, Den.fSeq, Den.fRet, Den.fRetN, Den.fNop, Den.fBk, Den.fCt, Den.fSet, Den.fO, Den.fDrop, Den.SlOf, Den.notBg, Den.fIfS, Den.fIf, Den.fT, Den.truth, Den.fAnd, Den.fOr, Den.fNot, Den.fAndV, Den.fOrV, Den.fNotV, Den.isB, Den.fV, Den.fF, Den.frz, Den.half, Den.vw, Den.vws, Den.f1, Den.f2, Den.fL, Den.fM, Den.fVar, Den.fC, Den.fTup, Den.fLst, Den.fsCons, Den.fsNil, Den.fSetIx, Den.fAugIx, Den.fAug, Den.asInt, Den.items, Den.putItems, Den.sameKind, Den.fMut, Den.φApp, Den.φIns, Den.fCall, Den.fCallM, Den.fPar, Den.fPar3, Den.fAsg, Den.gNm, Den.gTp, Den.gsCons, Den.gsNil, Den.fSl, Den.fPt, Den.φSl, Den.add_int, Den.sub_int, Den.φNeg, Den.φCmp, Den.φIs, Den.φIsNot, Den.isNone, Den.len_lst, Den.len_tup, Den.φAbs, Den.φInt, Den.φTuple, Den.φList, Den.fdmt, Den.fdnp, L2.ixN, Den.eq_str, Den.ne_str, Den.eq_int, Den.ne_int, Den.ix_lst, Den.ix_tup, Den.at_zero, Den.at_one, Den.at_two, Den.at_three, Den.lim_lit, dunD, roomD, room_at hv, parOf_at hv]) ?_
  have hul := up_len h hv
  rw [up_cons2 h hv] at hul
  refine ok_cons (ok_while (n := (upO rs (parOf rs v)).length) (fun n ρ => ∃ acc o, ρ = [.va (dunD rs k), .va (.int (v : Int)), .ls (nD acc), .va (pD o)] ∧ acc ++ upO rs o = up rs v ∧ n = (upO rs o).length ∧ ∀ p, o = some p → p < rs.length)
    ⟨[v], parOf rs v, rfl, (up_cons2 h hv).symm, rfl, fun p e => by have := par_lt h e; omega⟩ (by simp at hul; omega) ?_)
  rintro n ρ ⟨acc, o, rfl, he, rfl, ho⟩
  cases o with
  | none =>
    refine ⟨false, [.va (dunD rs k), .va (.int (v : Int)), .ls (nD acc), .va (pD none)], by simp [Den.Cd.denD, Den.fsStar, Den.f1, Den.fExt, Den.fRep, Den.fTr, Den.fCh, Den.opI, Den.opB, Den.opC, Den.opM, Den.bodyRun, Den.Ss.den, Den.S.den, Den.C.den, Den.C.denT, Den.Cs.denA, Den.Cs.denO, Den.Cs.denAT, Den.Cs.denOT, Den.Cs.denV, Den.Cs.denF, Den.Co.den, Den.Co.denT, Den.Ci.den, Den.Tg.den, Den.Tg.dens, Den.Tg.slots, Den.Tg.slotsL, Den.parL, Den.fSeq, Den.fRet, Den.fRetN, Den.fNop, Den.fBk, Den.fCt, Den.fSet, Den.fO, Den.fDrop, Den.SlOf, Den.notBg, Den.fIfS, Den.fIf, Den.fT, Den.truth, Den.fAnd, Den.fOr, Den.fNot, Den.fAndV, Den.fOrV, Den.fNotV, Den.isB, Den.fV, Den.fF, Den.frz, Den.half, Den.vw, Den.vws, Den.f1, Den.f2, Den.fL, Den.fM, Den.fVar, Den.fC, Den.fTup, Den.fLst, Den.fsCons, Den.fsNil, Den.fSetIx, Den.fAugIx, Den.fAug, Den.asInt, Den.items, Den.putItems, Den.sameKind, Den.fMut, Den.φApp, Den.φIns, Den.fCall, Den.fCallM, Den.fPar, Den.fPar3, Den.fAsg, Den.gNm, Den.gTp, Den.gsCons, Den.gsNil, Den.fSl, Den.fPt, Den.φSl, Den.add_int, Den.sub_int, Den.φNeg, Den.φCmp, Den.φIs, Den.φIsNot, Den.isNone, Den.len_lst, Den.len_tup, Den.φAbs, Den.φInt, Den.φTuple, Den.φList, Den.fdmt, Den.fdnp, L2.ixN, Den.eq_str, Den.ne_str, Den.eq_int, Den.ne_int, Den.ix_lst, Den.ix_tup, Den.at_zero, Den.at_one, Den.at_two, Den.at_three, Den.lim_lit, pD], fun _ => ?_, fun z => by cases z⟩
    have e2 : acc = up rs v := by simpa [upO] using he
    subst e2
    have hl : (up rs v).length ≤ lim := lim_11 (up_len h hv)
    exact ok_last (r := .va (.tuple (sortD (nD (up rs v))))) (ρ1 := [.va (dunD rs k), .va (.int (v : Int)), .ls (nD (up rs v)), .va (pD none)]) (by simp [Den.Cd.denD, Den.fsStar, Den.f1, Den.fExt, Den.fRep, Den.fTr, Den.fCh, Den.opI, Den.opB, Den.opC, Den.opM, Den.bodyRun, Den.Ss.den, Den.S.den, Den.C.den, Den.C.denT, Den.Cs.denA, Den.Cs.denO, Den.Cs.denAT, Den.Cs.denOT, Den.Cs.denV, Den.Cs.denF, Den.Co.den, Den.Co.denT, Den.Ci.den, Den.Tg.den, Den.Tg.dens, Den.Tg.slots, Den.Tg.slotsL, Den.parL, Den.fSeq, Den.fRet, Den.fRetN, Den.fNop, Den.fBk, Den.fCt, Den.fSet, Den.fO, Den.fDrop, Den.SlOf, Den.notBg, Den.fIfS, Den.fIf, Den.fT, Den.truth, Den.fAnd, Den.fOr, Den.fNot, Den.fAndV, Den.fOrV, Den.fNotV, Den.isB, Den.fV, Den.fF, Den.frz, Den.half, Den.vw, Den.vws, Den.f1, Den.f2, Den.fL, Den.fM, Den.fVar, Den.fC, Den.fTup, Den.fLst, Den.fsCons, Den.fsNil, Den.fSetIx, Den.fAugIx, Den.fAug, Den.asInt, Den.items, Den.putItems, Den.sameKind, Den.fMut, Den.φApp, Den.φIns, Den.fCall, Den.fCallM, Den.fPar, Den.fPar3, Den.fAsg, Den.gNm, Den.gTp, Den.gsCons, Den.gsNil, Den.fSl, Den.fPt, Den.φSl, Den.add_int, Den.sub_int, Den.φNeg, Den.φCmp, Den.φIs, Den.φIsNot, Den.isNone, Den.len_lst, Den.len_tup, Den.φAbs, Den.φInt, Den.φTuple, Den.φList, Den.fdmt, Den.fdnp, L2.ixN, Den.eq_str, Den.ne_str, Den.eq_int, Den.ne_int, Den.ix_lst, Den.ix_tup, Den.at_zero, Den.at_one, Den.at_two, Den.at_three, Den.lim_lit, sorted_nats hl]) ⟨rfl, rfl⟩
  | some u =>
    have hu := ho u rfl
    refine ⟨true, [.va (dunD rs k), .va (.int (v : Int)), .ls (nD acc), .va (pD (some u))], by simp [Den.Cd.denD, Den.fsStar, Den.f1, Den.fExt, Den.fRep, Den.fTr, Den.fCh, Den.opI, Den.opB, Den.opC, Den.opM, Den.bodyRun, Den.Ss.den, Den.S.den, Den.C.den, Den.C.denT, Den.Cs.denA, Den.Cs.denO, Den.Cs.denAT, Den.Cs.denOT, Den.Cs.denV, Den.Cs.denF, Den.Co.den, Den.Co.denT, Den.Ci.den, Den.Tg.den, Den.Tg.dens, Den.Tg.slots, Den.Tg.slotsL, Den.parL, Den.fSeq, Den.fRet, Den.fRetN, Den.fNop, Den.fBk, Den.fCt, Den.fSet, Den.fO, Den.fDrop, Den.SlOf, Den.notBg, Den.fIfS, Den.fIf, Den.fT, Den.truth, Den.fAnd, Den.fOr, Den.fNot, Den.fAndV, Den.fOrV, Den.fNotV, Den.isB, Den.fV, Den.fF, Den.frz, Den.half, Den.vw, Den.vws, Den.f1, Den.f2, Den.fL, Den.fM, Den.fVar, Den.fC, Den.fTup, Den.fLst, Den.fsCons, Den.fsNil, Den.fSetIx, Den.fAugIx, Den.fAug, Den.asInt, Den.items, Den.putItems, Den.sameKind, Den.fMut, Den.φApp, Den.φIns, Den.fCall, Den.fCallM, Den.fPar, Den.fPar3, Den.fAsg, Den.gNm, Den.gTp, Den.gsCons, Den.gsNil, Den.fSl, Den.fPt, Den.φSl, Den.add_int, Den.sub_int, Den.φNeg, Den.φCmp, Den.φIs, Den.φIsNot, Den.isNone, Den.len_lst, Den.len_tup, Den.φAbs, Den.φInt, Den.φTuple, Den.φList, Den.fdmt, Den.fdnp, L2.ixN, Den.eq_str, Den.ne_str, Den.eq_int, Den.ne_int, Den.ix_lst, Den.ix_tup, Den.at_zero, Den.at_one, Den.at_two, Den.at_three, Den.lim_lit, pD], (fun z => by cases z), fun _ => ⟨(upO rs (parOf rs u)).length, ?_, ?_⟩⟩
    · show (up rs u).length = _
      rw [up_cons2 h hu]
      rfl
    · have c1 : (nD acc).length < lim := by
        have q := congrArg List.length he
        have := up_len h hv
        rw [List.length_append] at q
        rw [nD_len]
        show _ < 1000000
        omega
      refine ok_step (ρ1 := [.va (dunD rs k), .va (.int (v : Int)), .ls (nD (acc ++ [u])), .va (pD (some u))]) (by simp [Den.Cd.denD, Den.fsStar, Den.f1, Den.fExt, Den.fRep, Den.fTr, Den.fCh, Den.opI, Den.opB, Den.opC, Den.opM, Den.bodyRun, Den.Ss.den, Den.S.den, Den.C.den, Den.C.denT, Den.Cs.denA, Den.Cs.denO, Den.Cs.denAT, Den.Cs.denOT, Den.Cs.denV, Den.Cs.denF, Den.Co.den, Den.Co.denT, Den.Ci.den, Den.Tg.den, Den.Tg.dens, Den.Tg.slots, Den.Tg.slotsL, Den.parL, Den.fSeq, Den.fRet, Den.fRetN, Den.fNop, Den.fBk, Den.fCt, Den.fSet, Den.fO, Den.fDrop, Den.SlOf, Den.notBg, Den.fIfS, Den.fIf, Den.fT, Den.truth, Den.fAnd, Den.fOr, Den.fNot, Den.fAndV, Den.fOrV, Den.fNotV, Den.isB, Den.fV, Den.fF, Den.frz, Den.half, Den.vw, Den.vws, Den.f1, Den.f2, Den.fL, Den.fM, Den.fVar, Den.fC, Den.fTup, Den.fLst, Den.fsCons, Den.fsNil, Den.fSetIx, Den.fAugIx, Den.fAug, Den.asInt, Den.items, Den.putItems, Den.sameKind, Den.fMut, Den.φApp, Den.φIns, Den.fCall, Den.fCallM, Den.fPar, Den.fPar3, Den.fAsg, Den.gNm, Den.gTp, Den.gsCons, Den.gsNil, Den.fSl, Den.fPt, Den.φSl, Den.add_int, Den.sub_int, Den.φNeg, Den.φCmp, Den.φIs, Den.φIsNot, Den.isNone, Den.len_lst, Den.len_tup, Den.φAbs, Den.φInt, Den.φTuple, Den.φList, Den.fdmt, Den.fdnp, L2.ixN, Den.eq_str, Den.ne_str, Den.eq_int, Den.ne_int, Den.ix_lst, Den.ix_tup, Den.at_zero, Den.at_one, Den.at_two, Den.at_three, Den.lim_lit, pD, c1, nD_app, nD_one]) ?_
      refine ok_step (ρ1 := [.va (dunD rs k), .va (.int (v : Int)), .ls (nD (acc ++ [u])), .va (pD (parOf rs u))]) (by simp [Den.Cd.denD, Den.fsStar, Den.f1, Den.fExt, Den.fRep, Den.fTr, Den.fCh, Den.opI, Den.opB, Den.opC, Den.opM, Den.bodyRun, Den.Ss.den, Den.S.den, Den.C.den, Den.C.denT, Den.Cs.denA, Den.Cs.denO, Den.Cs.denAT, Den.Cs.denOT, Den.Cs.denV, Den.Cs.denF, Den.Co.den, Den.Co.denT, Den.Ci.den, Den.Tg.den, Den.Tg.dens, Den.Tg.slots, Den.Tg.slotsL, Den.parL, Den.fSeq, Den.fRet, Den.fRetN, Den.fNop, Den.fBk, Den.fCt, Den.fSet, Den.fO, Den.fDrop, Den.SlOf, Den.notBg, Den.fIfS, Den.fIf, Den.fT, Den.truth, Den.fAnd, Den.fOr, Den.fNot, Den.fAndV, Den.fOrV, Den.fNotV, Den.isB, Den.fV, Den.fF, Den.frz, Den.half, Den.vw, Den.vws, Den.f1, Den.f2, Den.fL, Den.fM, Den.fVar, Den.fC, Den.fTup, Den.fLst, Den.fsCons, Den.fsNil, Den.fSetIx, Den.fAugIx, Den.fAug, Den.asInt, Den.items, Den.putItems, Den.sameKind, Den.fMut, Den.φApp, Den.φIns, Den.fCall, Den.fCallM, Den.fPar, Den.fPar3, Den.fAsg, Den.gNm, Den.gTp, Den.gsCons, Den.gsNil, Den.fSl, Den.fPt, Den.φSl, Den.add_int, Den.sub_int, Den.φNeg, Den.φCmp, Den.φIs, Den.φIsNot, Den.isNone, Den.len_lst, Den.len_tup, Den.φAbs, Den.φInt, Den.φTuple, Den.φList, Den.fdmt, Den.fdnp, L2.ixN, Den.eq_str, Den.ne_str, Den.eq_int, Den.ne_int, Den.ix_lst, Den.ix_tup, Den.at_zero, Den.at_one, Den.at_two, Den.at_three, Den.lim_lit, dunD, roomD, pD, room_at hu, parOf_at hu]) ?_
      refine ok_nil ⟨acc ++ [u], parOf rs u, rfl, ?_, rfl, fun p e => by have := par_lt h e; omega⟩
      rw [← he]
      show _ = acc ++ up rs u
      rw [up_cons2 h hu]
      simp
/-- a way with a bar -/
def isBarD : D → Bool
  | .str x => x == ("bar" : Str)
  | _ => false
def isBar (rs : List Rm) (v : Nat) : Bool := match rs[v]? with
  | some r => isBarD r.way
  | none => false
theorem bar_at (h : Dun rs) {v : Nat} (hv : v < rs.length) : φEq rs[v].way (.str "bar") = some (.va (.bool (isBar rs v))) := by
  unfold isBar
  rw [List.getElem?_eq_getElem hv]
  show φEq rs[v].way (.str "bar") = some (RR.va (.bool (isBarD rs[v].way)))
  by_cases h0 : v = 0
  · subst h0
    rw [(h.root rs[0] (List.getElem?_eq_getElem hv)).2]
    exact if_pos (.inl ⟨rfl, by decide +kernel⟩)
  · rcases h.way v rs[v] (List.getElem?_eq_getElem hv) (by omega) with e | e | e <;> rw [e] <;> exact eq_str
theorem bools_map {α : Type} {f : α → Bool} : ∀ {l : List α}, boolsOf (l.map fun a => .bool (f a)) = some (l.map f)
  | [] => rfl
  | a :: l => by
    rw [List.map_cons, boolsOf, bools_map]
    rfl
theorem bar_none : d_way_has_bar.run [] [dunD rs k, .none] = some (.va (.bool false), []) := by
  rw [r_way_has_bar]
  simp [Den.Cd.denD, Den.fsStar, Den.f1, Den.fExt, Den.fRep, Den.fTr, Den.fCh, Den.opI, Den.opB, Den.opC, Den.opM, Den.bodyRun, Den.Ss.den, Den.S.den, Den.C.den, Den.C.denT, Den.Cs.denA, Den.Cs.denO, Den.Cs.denAT, Den.Cs.denOT, Den.Cs.denV, Den.Cs.denF, Den.Co.den, Den.Co.denT, Den.Ci.den, Den.Tg.den, Den.Tg.dens, Den.Tg.slots, Den.Tg.slotsL, Den.parL, Den.fSeq, Den.fRet, Den.fRetN, Den.fNop, Den.fBk, Den.fCt, Den.fSet, Den.fO, Den.fDrop, Den.SlOf, Den.notBg, Den.fIfS, Den.fIf, Den.fT, Den.truth, Den.fAnd, Den.fOr, Den.fNot, Den.fAndV, Den.fOrV, Den.fNotV, Den.isB, Den.fV, Den.fF, Den.frz, Den.half, Den.vw, Den.vws, Den.f1, Den.f2, Den.fL, Den.fM, Den.fVar, Den.fC, Den.fTup, Den.fLst, Den.fsCons, Den.fsNil, Den.fSetIx, Den.fAugIx, Den.fAug, Den.asInt, Den.items, Den.putItems, Den.sameKind, Den.fMut, Den.φApp, Den.φIns, Den.fCall, Den.fCallM, Den.fPar, Den.fPar3, Den.fAsg, Den.gNm, Den.gTp, Den.gsCons, Den.gsNil, Den.fSl, Den.fPt, Den.φSl, Den.add_int, Den.sub_int, Den.φNeg, Den.φCmp, Den.φIs, Den.φIsNot, Den.isNone, Den.len_lst, Den.len_tup, Den.φAbs, Den.φInt, Den.φTuple, Den.φList, Den.fdmt, Den.fdnp, L2.ixN, Den.eq_str, Den.ne_str, Den.eq_int, Den.ne_int, Den.ix_lst, Den.ix_tup, Den.at_zero, Den.at_one, Den.at_two, Den.at_three, Den.lim_lit, c_way_has_bar]
theorem bar_ok (h : Dun rs) {v : Nat} (hv : v < rs.length) : d_way_has_bar.run [] [dunD rs k, .int (v : Int)] = some (.va (.bool ((up rs v).any (isBar rs))), []) := by
  obtain ⟨ms, hs, hp⟩ := sort_nats (ns := up rs v)
  have hw := way_ok (k := k) h hv
  rw [hs] at hw
  have hml : ms.length ≤ lim := by rw [hp.length_eq]; exact lim_11 (up_len h hv)
  have q : (q_way_has_bar_0).den g_way_has_bar [.va (dunD rs k), .va (.int (v : Int)), .no] = some (.ls ((ms.filter fun _ => true).map fun u => .bool (isBar rs u)), [.va (dunD rs k), .va (.int (v : Int)), .no]) := by
    unfold q_way_has_bar_0
    refine lc_of (l := ms) (f := nI) (ρ1 := [.va (dunD rs k), .va (.int (v : Int)), .no]) (by simp [Den.Cd.denD, Den.fsStar, Den.f1, Den.fExt, Den.fRep, Den.fTr, Den.fCh, Den.opI, Den.opB, Den.opC, Den.opM, Den.bodyRun, Den.Ss.den, Den.S.den, Den.C.den, Den.C.denT, Den.Cs.denA, Den.Cs.denO, Den.Cs.denAT, Den.Cs.denOT, Den.Cs.denV, Den.Cs.denF, Den.Co.den, Den.Co.denT, Den.Ci.den, Den.Tg.den, Den.Tg.dens, Den.Tg.slots, Den.Tg.slotsL, Den.parL, Den.fSeq, Den.fRet, Den.fRetN, Den.fNop, Den.fBk, Den.fCt, Den.fSet, Den.fO, Den.fDrop, Den.SlOf, Den.notBg, Den.fIfS, Den.fIf, Den.fT, Den.truth, Den.fAnd, Den.fOr, Den.fNot, Den.fAndV, Den.fOrV, Den.fNotV, Den.isB, Den.fV, Den.fF, Den.frz, Den.half, Den.vw, Den.vws, Den.f1, Den.f2, Den.fL, Den.fM, Den.fVar, Den.fC, Den.fTup, Den.fLst, Den.fsCons, Den.fsNil, Den.fSetIx, Den.fAugIx, Den.fAug, Den.asInt, Den.items, Den.putItems, Den.sameKind, Den.fMut, Den.φApp, Den.φIns, Den.fCall, Den.fCallM, Den.fPar, Den.fPar3, Den.fAsg, Den.gNm, Den.gTp, Den.gsCons, Den.gsNil, Den.fSl, Den.fPt, Den.φSl, Den.add_int, Den.sub_int, Den.φNeg, Den.φCmp, Den.φIs, Den.φIsNot, Den.isNone, Den.len_lst, Den.len_tup, Den.φAbs, Den.φInt, Den.φTuple, Den.φList, Den.fdmt, Den.fdnp, L2.ixN, Den.eq_str, Den.ne_str, Den.eq_int, Den.ne_int, Den.ix_lst, Den.ix_tup, Den.at_zero, Den.at_one, Den.at_two, Den.at_three, Den.lim_lit, fIt, its, g_way_has_bar, mt_way_to, np_way_to, hw, nD]) hml (by rfl) (fun u hu => ?_)
    have hu2 : u < rs.length := by
      have := up_le h v hv u (hp.mem_iff.mp hu)
      omega
    refine ⟨[.va (dunD rs k), .va (.int (v : Int)), .va (nI u)], [.va (dunD rs k), .va (.int (v : Int)), .va (nI u)], by rfl, by rfl, fun _ => ⟨[.va (dunD rs k), .va (.int (v : Int)), .va (nI u)], ?_, by rfl⟩, fun z => by cases z⟩
    simp [Den.Cd.denD, Den.fsStar, Den.f1, Den.fExt, Den.fRep, Den.fTr, Den.fCh, Den.opI, Den.opB, Den.opC, Den.opM, Den.bodyRun, Den.Ss.den, Den.S.den, Den.C.den, Den.C.denT, Den.Cs.denA, Den.Cs.denO, Den.Cs.denAT, Den.Cs.denOT, Den.Cs.denV, Den.Cs.denF, Den.Co.den, Den.Co.denT, Den.Ci.den, Den.Tg.den, Den.Tg.dens, Den.Tg.slots, Den.Tg.slotsL, Den.parL, Den.fSeq, Den.fRet, Den.fRetN, Den.fNop, Den.fBk, Den.fCt, Den.fSet, Den.fO, Den.fDrop, Den.SlOf, Den.notBg, Den.fIfS, Den.fIf, Den.fT, Den.truth, Den.fAnd, Den.fOr, Den.fNot, Den.fAndV, Den.fOrV, Den.fNotV, Den.isB, Den.fV, Den.fF, Den.frz, Den.half, Den.vw, Den.vws, Den.f1, Den.f2, Den.fL, Den.fM, Den.fVar, Den.fC, Den.fTup, Den.fLst, Den.fsCons, Den.fsNil, Den.fSetIx, Den.fAugIx, Den.fAug, Den.asInt, Den.items, Den.putItems, Den.sameKind, Den.fMut, Den.φApp, Den.φIns, Den.fCall, Den.fCallM, Den.fPar, Den.fPar3, Den.fAsg, Den.gNm, Den.gTp, Den.gsCons, Den.gsNil, Den.fSl, Den.fPt, Den.φSl, Den.add_int, Den.sub_int, Den.φNeg, Den.φCmp, Den.φIs, Den.φIsNot, Den.isNone, Den.len_lst, Den.len_tup, Den.φAbs, Den.φInt, Den.φTuple, Den.φList, Den.fdmt, Den.fdnp, L2.ixN, Den.eq_str, Den.ne_str, Den.eq_int, Den.ne_int, Den.ix_lst, Den.ix_tup, Den.at_zero, Den.at_one, Den.at_two, Den.at_three, Den.lim_lit, nI, dunD, roomD, room_at hu2, bar_at h hu2]
  rw [List.filter_eq_self.mpr (fun _ _ => rfl)] at q
  have e : (up rs v).any (isBar rs) = (ms.map (isBar rs)).any id := by
    rw [List.any_map, hp.any_eq]
    rfl
  rw [e, r_way_has_bar]
  simp [Den.Cd.denD, Den.fsStar, Den.f1, Den.fExt, Den.fRep, Den.fTr, Den.fCh, Den.opI, Den.opB, Den.opC, Den.opM, Den.bodyRun, Den.Ss.den, Den.S.den, Den.C.den, Den.C.denT, Den.Cs.denA, Den.Cs.denO, Den.Cs.denAT, Den.Cs.denOT, Den.Cs.denV, Den.Cs.denF, Den.Co.den, Den.Co.denT, Den.Ci.den, Den.Tg.den, Den.Tg.dens, Den.Tg.slots, Den.Tg.slotsL, Den.parL, Den.fSeq, Den.fRet, Den.fRetN, Den.fNop, Den.fBk, Den.fCt, Den.fSet, Den.fO, Den.fDrop, Den.SlOf, Den.notBg, Den.fIfS, Den.fIf, Den.fT, Den.truth, Den.fAnd, Den.fOr, Den.fNot, Den.fAndV, Den.fOrV, Den.fNotV, Den.isB, Den.fV, Den.fF, Den.frz, Den.half, Den.vw, Den.vws, Den.f1, Den.f2, Den.fL, Den.fM, Den.fVar, Den.fC, Den.fTup, Den.fLst, Den.fsCons, Den.fsNil, Den.fSetIx, Den.fAugIx, Den.fAug, Den.asInt, Den.items, Den.putItems, Den.sameKind, Den.fMut, Den.φApp, Den.φIns, Den.fCall, Den.fCallM, Den.fPar, Den.fPar3, Den.fAsg, Den.gNm, Den.gTp, Den.gsCons, Den.gsNil, Den.fSl, Den.fPt, Den.φSl, Den.add_int, Den.sub_int, Den.φNeg, Den.φCmp, Den.φIs, Den.φIsNot, Den.isNone, Den.len_lst, Den.len_tup, Den.φAbs, Den.φInt, Den.φTuple, Den.φList, Den.fdmt, Den.fdnp, L2.ixN, Den.eq_str, Den.ne_str, Den.eq_int, Den.ne_int, Den.ix_lst, Den.ix_tup, Den.at_zero, Den.at_one, Den.at_two, Den.at_three, Den.lim_lit, c_way_has_bar, q, φAny, bools_map]
/-! ### the rim -/
def rimB (rs : List Rm) (lot : List Nat) (v : Nat) : Bool := !decide (v ∈ lot) && (match parOf rs v with
  | none => false
  | some p => decide (p ∈ lot))
theorem par_in {lot : List Nat} : ∀ o : Option Nat, φIn (pD o) (.tuple (nD lot)) = some (.va (.bool (match o with
    | none => false
    | some p => decide (p ∈ lot))))
  | none => in_noneT
  | some p => in_natT
theorem rim_ok (h : Dun rs) {lot : List Nat} : d_rim_of.run [] [dunD rs k, .tuple (nD lot)] = some (.va (.tuple (nD ((List.range rs.length).filter (rimB rs lot)))), []) := by
  have q : (q_rim_of_0).den g_rim_of [.va (dunD rs k), .va (.tuple (nD lot)), .no, .no] = some (.ls (((List.range rs.length).filter (rimB rs lot)).map nI), [.va (dunD rs k), .va (.tuple (nD lot)), .no, .no]) := by
    unfold q_rim_of_0
    refine lc_of (l := List.range rs.length) (f := fun i => .tuple [.int ((0 + i : Nat) : Int), (rs.map roomD)[i]?.getD .none]) (ρ1 := [.va (dunD rs k), .va (.tuple (nD lot)), .no, .no]) ?_ (by rw [List.length_range]; exact lim_11 h.len1) (by rfl) (fun u hu => ?_)
    · have e := enum_map (xs := rs.map roomD) (k := 0)
      rw [List.length_map] at e
      rw [← e]
      simp [Den.Cd.denD, Den.fsStar, Den.f1, Den.fExt, Den.fRep, Den.fTr, Den.fCh, Den.opI, Den.opB, Den.opC, Den.opM, Den.bodyRun, Den.Ss.den, Den.S.den, Den.C.den, Den.C.denT, Den.Cs.denA, Den.Cs.denO, Den.Cs.denAT, Den.Cs.denOT, Den.Cs.denV, Den.Cs.denF, Den.Co.den, Den.Co.denT, Den.Ci.den, Den.Tg.den, Den.Tg.dens, Den.Tg.slots, Den.Tg.slotsL, Den.parL, Den.fSeq, Den.fRet, Den.fRetN, Den.fNop, Den.fBk, Den.fCt, Den.fSet, Den.fO, Den.fDrop, Den.SlOf, Den.notBg, Den.fIfS, Den.fIf, Den.fT, Den.truth, Den.fAnd, Den.fOr, Den.fNot, Den.fAndV, Den.fOrV, Den.fNotV, Den.isB, Den.fV, Den.fF, Den.frz, Den.half, Den.vw, Den.vws, Den.f1, Den.f2, Den.fL, Den.fM, Den.fVar, Den.fC, Den.fTup, Den.fLst, Den.fsCons, Den.fsNil, Den.fSetIx, Den.fAugIx, Den.fAug, Den.asInt, Den.items, Den.putItems, Den.sameKind, Den.fMut, Den.φApp, Den.φIns, Den.fCall, Den.fCallM, Den.fPar, Den.fPar3, Den.fAsg, Den.gNm, Den.gTp, Den.gsCons, Den.gsNil, Den.fSl, Den.fPt, Den.φSl, Den.add_int, Den.sub_int, Den.φNeg, Den.φCmp, Den.φIs, Den.φIsNot, Den.isNone, Den.len_lst, Den.len_tup, Den.φAbs, Den.φInt, Den.φTuple, Den.φList, Den.fdmt, Den.fdnp, L2.ixN, Den.eq_str, Den.ne_str, Den.eq_int, Den.ne_int, Den.ix_lst, Den.ix_tup, Den.at_zero, Den.at_one, Den.at_two, Den.at_three, Den.lim_lit, fEn, fIt, its, dunD]
    · have hu2 : u < rs.length := List.mem_range.mp hu
      have e1 : (rs.map roomD)[u]?.getD .none = roomD rs[u] := by
        rw [List.getElem?_map, List.getElem?_eq_getElem hu2]
        rfl
      have e2 : ((0 + u : Nat) : Int) = (u : Int) := by omega
      rw [e1, e2]
      refine ⟨[.va (dunD rs k), .va (.tuple (nD lot)), .va (.int (u : Int)), .va (roomD rs[u])], [.va (dunD rs k), .va (.tuple (nD lot)), .va (.int (u : Int)), .va (roomD rs[u])], by simp [Den.Cd.denD, Den.fsStar, Den.f1, Den.fExt, Den.fRep, Den.fTr, Den.fCh, Den.opI, Den.opB, Den.opC, Den.opM, Den.bodyRun, Den.Ss.den, Den.S.den, Den.C.den, Den.C.denT, Den.Cs.denA, Den.Cs.denO, Den.Cs.denAT, Den.Cs.denOT, Den.Cs.denV, Den.Cs.denF, Den.Co.den, Den.Co.denT, Den.Ci.den, Den.Tg.den, Den.Tg.dens, Den.Tg.slots, Den.Tg.slotsL, Den.parL, Den.fSeq, Den.fRet, Den.fRetN, Den.fNop, Den.fBk, Den.fCt, Den.fSet, Den.fO, Den.fDrop, Den.SlOf, Den.notBg, Den.fIfS, Den.fIf, Den.fT, Den.truth, Den.fAnd, Den.fOr, Den.fNot, Den.fAndV, Den.fOrV, Den.fNotV, Den.isB, Den.fV, Den.fF, Den.frz, Den.half, Den.vw, Den.vws, Den.f1, Den.f2, Den.fL, Den.fM, Den.fVar, Den.fC, Den.fTup, Den.fLst, Den.fsCons, Den.fsNil, Den.fSetIx, Den.fAugIx, Den.fAug, Den.asInt, Den.items, Den.putItems, Den.sameKind, Den.fMut, Den.φApp, Den.φIns, Den.fCall, Den.fCallM, Den.fPar, Den.fPar3, Den.fAsg, Den.gNm, Den.gTp, Den.gsCons, Den.gsNil, Den.fSl, Den.fPt, Den.φSl, Den.add_int, Den.sub_int, Den.φNeg, Den.φCmp, Den.φIs, Den.φIsNot, Den.isNone, Den.len_lst, Den.len_tup, Den.φAbs, Den.φInt, Den.φTuple, Den.φList, Den.fdmt, Den.fdnp, L2.ixN, Den.eq_str, Den.ne_str, Den.eq_int, Den.ne_int, Den.ix_lst, Den.ix_tup, Den.at_zero, Den.at_one, Den.at_two, Den.at_three, Den.lim_lit, wipeL], ?_, fun _ => ⟨[.va (dunD rs k), .va (.tuple (nD lot)), .va (.int (u : Int)), .va (roomD rs[u])], by rfl, by rfl⟩, fun _ => by rfl⟩
      unfold rimB
      rw [parOf_at hu2]
      by_cases hm : u ∈ lot
      · simp [Den.Cd.denD, Den.fsStar, Den.f1, Den.fExt, Den.fRep, Den.fTr, Den.fCh, Den.opI, Den.opB, Den.opC, Den.opM, Den.bodyRun, Den.Ss.den, Den.S.den, Den.C.den, Den.C.denT, Den.Cs.denA, Den.Cs.denO, Den.Cs.denAT, Den.Cs.denOT, Den.Cs.denV, Den.Cs.denF, Den.Co.den, Den.Co.denT, Den.Ci.den, Den.Tg.den, Den.Tg.dens, Den.Tg.slots, Den.Tg.slotsL, Den.parL, Den.fSeq, Den.fRet, Den.fRetN, Den.fNop, Den.fBk, Den.fCt, Den.fSet, Den.fO, Den.fDrop, Den.SlOf, Den.notBg, Den.fIfS, Den.fIf, Den.fT, Den.truth, Den.fAnd, Den.fOr, Den.fNot, Den.fAndV, Den.fOrV, Den.fNotV, Den.isB, Den.fV, Den.fF, Den.frz, Den.half, Den.vw, Den.vws, Den.f1, Den.f2, Den.fL, Den.fM, Den.fVar, Den.fC, Den.fTup, Den.fLst, Den.fsCons, Den.fsNil, Den.fSetIx, Den.fAugIx, Den.fAug, Den.asInt, Den.items, Den.putItems, Den.sameKind, Den.fMut, Den.φApp, Den.φIns, Den.fCall, Den.fCallM, Den.fPar, Den.fPar3, Den.fAsg, Den.gNm, Den.gTp, Den.gsCons, Den.gsNil, Den.fSl, Den.fPt, Den.φSl, Den.add_int, Den.sub_int, Den.φNeg, Den.φCmp, Den.φIs, Den.φIsNot, Den.isNone, Den.len_lst, Den.len_tup, Den.φAbs, Den.φInt, Den.φTuple, Den.φList, Den.fdmt, Den.fdnp, L2.ixN, Den.eq_str, Den.ne_str, Den.eq_int, Den.ne_int, Den.ix_lst, Den.ix_tup, Den.at_zero, Den.at_one, Den.at_two, Den.at_three, Den.lim_lit, notin_natT, hm]
      · simp [Den.Cd.denD, Den.fsStar, Den.f1, Den.fExt, Den.fRep, Den.fTr, Den.fCh, Den.opI, Den.opB, Den.opC, Den.opM, Den.bodyRun, Den.Ss.den, Den.S.den, Den.C.den, Den.C.denT, Den.Cs.denA, Den.Cs.denO, Den.Cs.denAT, Den.Cs.denOT, Den.Cs.denV, Den.Cs.denF, Den.Co.den, Den.Co.denT, Den.Ci.den, Den.Tg.den, Den.Tg.dens, Den.Tg.slots, Den.Tg.slotsL, Den.parL, Den.fSeq, Den.fRet, Den.fRetN, Den.fNop, Den.fBk, Den.fCt, Den.fSet, Den.fO, Den.fDrop, Den.SlOf, Den.notBg, Den.fIfS, Den.fIf, Den.fT, Den.truth, Den.fAnd, Den.fOr, Den.fNot, Den.fAndV, Den.fOrV, Den.fNotV, Den.isB, Den.fV, Den.fF, Den.frz, Den.half, Den.vw, Den.vws, Den.f1, Den.f2, Den.fL, Den.fM, Den.fVar, Den.fC, Den.fTup, Den.fLst, Den.fsCons, Den.fsNil, Den.fSetIx, Den.fAugIx, Den.fAug, Den.asInt, Den.items, Den.putItems, Den.sameKind, Den.fMut, Den.φApp, Den.φIns, Den.fCall, Den.fCallM, Den.fPar, Den.fPar3, Den.fAsg, Den.gNm, Den.gTp, Den.gsCons, Den.gsNil, Den.fSl, Den.fPt, Den.φSl, Den.add_int, Den.sub_int, Den.φNeg, Den.φCmp, Den.φIs, Den.φIsNot, Den.isNone, Den.len_lst, Den.len_tup, Den.φAbs, Den.φInt, Den.φTuple, Den.φList, Den.fdmt, Den.fdnp, L2.ixN, Den.eq_str, Den.ne_str, Den.eq_int, Den.ne_int, Den.ix_lst, Den.ix_tup, Den.at_zero, Den.at_one, Den.at_two, Den.at_three, Den.lim_lit, notin_natT, hm, roomD, par_in]
  refine eqr ?_
  rw [r_rim_of]
  refine run_f ?_
  exact ok_last (r := .va (.tuple (((List.range rs.length).filter (rimB rs lot)).map nI))) (ρ1 := [.va (dunD rs k), .va (.tuple (nD lot)), .no, .no]) (by simp [Den.Cd.denD, Den.fsStar, Den.f1, Den.fExt, Den.fRep, Den.fTr, Den.fCh, Den.opI, Den.opB, Den.opC, Den.opM, Den.bodyRun, Den.Ss.den, Den.S.den, Den.C.den, Den.C.denT, Den.Cs.denA, Den.Cs.denO, Den.Cs.denAT, Den.Cs.denOT, Den.Cs.denV, Den.Cs.denF, Den.Co.den, Den.Co.denT, Den.Ci.den, Den.Tg.den, Den.Tg.dens, Den.Tg.slots, Den.Tg.slotsL, Den.parL, Den.fSeq, Den.fRet, Den.fRetN, Den.fNop, Den.fBk, Den.fCt, Den.fSet, Den.fO, Den.fDrop, Den.SlOf, Den.notBg, Den.fIfS, Den.fIf, Den.fT, Den.truth, Den.fAnd, Den.fOr, Den.fNot, Den.fAndV, Den.fOrV, Den.fNotV, Den.isB, Den.fV, Den.fF, Den.frz, Den.half, Den.vw, Den.vws, Den.f1, Den.f2, Den.fL, Den.fM, Den.fVar, Den.fC, Den.fTup, Den.fLst, Den.fsCons, Den.fsNil, Den.fSetIx, Den.fAugIx, Den.fAug, Den.asInt, Den.items, Den.putItems, Den.sameKind, Den.fMut, Den.φApp, Den.φIns, Den.fCall, Den.fCallM, Den.fPar, Den.fPar3, Den.fAsg, Den.gNm, Den.gTp, Den.gsCons, Den.gsNil, Den.fSl, Den.fPt, Den.φSl, Den.add_int, Den.sub_int, Den.φNeg, Den.φCmp, Den.φIs, Den.φIsNot, Den.isNone, Den.len_lst, Den.len_tup, Den.φAbs, Den.φInt, Den.φTuple, Den.φList, Den.fdmt, Den.fdnp, L2.ixN, Den.eq_str, Den.ne_str, Den.eq_int, Den.ne_int, Den.ix_lst, Den.ix_tup, Den.at_zero, Den.at_one, Den.at_two, Den.at_three, Den.lim_lit, q]) ⟨rfl, rfl⟩
/-- a lot that is drawn -/
theorem lot_ok {β : List D} {n : Nat} (hb : Bag β) (hn : n ≤ 1000) : Ans (d_lany_lot.run β [.int (n : Int)]) fun r β' => ∃ us : List Nat, r = .va (.tuple (nD us)) ∧ (∀ u ∈ us, u < n) ∧ us.length ≤ n ∧ Bag β' := by
  rw [r_lany_lot]
  refine run_t ?_
  obtain ⟨w, β1, w0, w1, hb1, e⟩ := take_ok (m := 3) hb (by omega) (by omega)
  refine ok_step (ρ1 := [.bg β1, .va (.int (n : Int)), .va (.int w), .no]) (by simp [Den.Cd.denD, Den.fsStar, Den.f1, Den.fExt, Den.fRep, Den.fTr, Den.fCh, Den.opI, Den.opB, Den.opC, Den.opM, Den.bodyRun, Den.Ss.den, Den.S.den, Den.C.den, Den.C.denT, Den.Cs.denA, Den.Cs.denO, Den.Cs.denAT, Den.Cs.denOT, Den.Cs.denV, Den.Cs.denF, Den.Co.den, Den.Co.denT, Den.Ci.den, Den.Tg.den, Den.Tg.dens, Den.Tg.slots, Den.Tg.slotsL, Den.parL, Den.fSeq, Den.fRet, Den.fRetN, Den.fNop, Den.fBk, Den.fCt, Den.fSet, Den.fO, Den.fDrop, Den.SlOf, Den.notBg, Den.fIfS, Den.fIf, Den.fT, Den.truth, Den.fAnd, Den.fOr, Den.fNot, Den.fAndV, Den.fOrV, Den.fNotV, Den.isB, Den.fV, Den.fF, Den.frz, Den.half, Den.vw, Den.vws, Den.f1, Den.f2, Den.fL, Den.fM, Den.fVar, Den.fC, Den.fTup, Den.fLst, Den.fsCons, Den.fsNil, Den.fSetIx, Den.fAugIx, Den.fAug, Den.asInt, Den.items, Den.putItems, Den.sameKind, Den.fMut, Den.φApp, Den.φIns, Den.fCall, Den.fCallM, Den.fPar, Den.fPar3, Den.fAsg, Den.gNm, Den.gTp, Den.gsCons, Den.gsNil, Den.fSl, Den.fPt, Den.φSl, Den.add_int, Den.sub_int, Den.φNeg, Den.φCmp, Den.φIs, Den.φIsNot, Den.isNone, Den.len_lst, Den.len_tup, Den.φAbs, Den.φInt, Den.φTuple, Den.φList, Den.fdmt, Den.fdnp, L2.ixN, Den.eq_str, Den.ne_str, Den.eq_int, Den.ne_int, Den.ix_lst, Den.ix_tup, Den.at_zero, Den.at_one, Den.at_two, Den.at_three, Den.lim_lit, g_lany_lot, mt_ltake, np_ltake, e]) ?_
  have hr : (-1000000 : Int) ≤ (n : Int) ∧ (n : Int) ≤ 1000000 := by omega
  obtain ⟨out, ρ2, e2, β2, us, e3, e4, e5, e6, e7⟩ := lc_inv (vs := [3]) (t := Tg.den (.nm 3)) (test := Co.denT g_lany_lot (.so (.cmp .eq (.callM 0 0 (.cons (.bin .add (.int 2) (.var 2)) .nil)) (.int 0)))) (elt := fF (C.den g_lany_lot (.var 3)))
    (fun ds acc ρ => ∃ β us, ρ = [.bg β, .va (.int (n : Int)), .va (.int w), .no] ∧ (∀ d ∈ ds, ∃ u : Nat, d = .int (u : Int) ∧ u < n) ∧ acc = nD us ∧ (∀ u ∈ us, u < n) ∧ us.length + ds.length ≤ n ∧ Bag β) (by
      rintro d ds acc ρ ⟨β, us, rfl, hd, rfl, hu, hl, hb⟩
      obtain ⟨u, rfl, hun⟩ := hd d List.mem_cons_self
      obtain ⟨x, β2, x0, x1, hb2, e2⟩ := take_ok (m := 2 + w) hb (by omega) (by omega)
      refine ⟨[.bg β, .va (.int (n : Int)), .va (.int w), .va (.int (u : Int))], x == 0, [.bg β2, .va (.int (n : Int)), .va (.int w), .va (.int (u : Int))], by rfl, ?_, fun _ => ⟨.int (u : Int), [.bg β2, .va (.int (n : Int)), .va (.int w), .va (.int (u : Int))], by rfl, β2, us ++ [u], by rfl, fun y hy => hd y (List.mem_cons_of_mem _ hy), by rw [nD_app, nD_one], ?_, ?_, hb2⟩, fun _ => ⟨β2, us, by rfl, fun y hy => hd y (List.mem_cons_of_mem _ hy), rfl, hu, ?_, hb2⟩⟩
      · simp [Den.Cd.denD, Den.fsStar, Den.f1, Den.fExt, Den.fRep, Den.fTr, Den.fCh, Den.opI, Den.opB, Den.opC, Den.opM, Den.bodyRun, Den.Ss.den, Den.S.den, Den.C.den, Den.C.denT, Den.Cs.denA, Den.Cs.denO, Den.Cs.denAT, Den.Cs.denOT, Den.Cs.denV, Den.Cs.denF, Den.Co.den, Den.Co.denT, Den.Ci.den, Den.Tg.den, Den.Tg.dens, Den.Tg.slots, Den.Tg.slotsL, Den.parL, Den.fSeq, Den.fRet, Den.fRetN, Den.fNop, Den.fBk, Den.fCt, Den.fSet, Den.fO, Den.fDrop, Den.SlOf, Den.notBg, Den.fIfS, Den.fIf, Den.fT, Den.truth, Den.fAnd, Den.fOr, Den.fNot, Den.fAndV, Den.fOrV, Den.fNotV, Den.isB, Den.fV, Den.fF, Den.frz, Den.half, Den.vw, Den.vws, Den.f1, Den.f2, Den.fL, Den.fM, Den.fVar, Den.fC, Den.fTup, Den.fLst, Den.fsCons, Den.fsNil, Den.fSetIx, Den.fAugIx, Den.fAug, Den.asInt, Den.items, Den.putItems, Den.sameKind, Den.fMut, Den.φApp, Den.φIns, Den.fCall, Den.fCallM, Den.fPar, Den.fPar3, Den.fAsg, Den.gNm, Den.gTp, Den.gsCons, Den.gsNil, Den.fSl, Den.fPt, Den.φSl, Den.add_int, Den.sub_int, Den.φNeg, Den.φCmp, Den.φIs, Den.φIsNot, Den.isNone, Den.len_lst, Den.len_tup, Den.φAbs, Den.φInt, Den.φTuple, Den.φList, Den.fdmt, Den.fdnp, L2.ixN, Den.eq_str, Den.ne_str, Den.eq_int, Den.ne_int, Den.ix_lst, Den.ix_tup, Den.at_zero, Den.at_one, Den.at_two, Den.at_three, Den.lim_lit, g_lany_lot, mt_ltake, np_ltake, e2]
      · intro y hy
        rcases List.mem_append.mp hy with z | z
        · exact hu y z
        · rw [List.mem_singleton.mp z]
          exact hun
      · simp at hl ⊢
        omega
      · simp at hl ⊢
        omega) (ds := nD (List.range n)) (acc := []) (ρ := [.bg β1, .va (.int (n : Int)), .va (.int w), .no]) ⟨β1, [], rfl, fun d hd => by
        obtain ⟨u, hu, rfl⟩ := List.mem_map.mp hd
        exact ⟨u, rfl, List.mem_range.mp hu⟩, rfl, (fun _ z => by cases z), by rw [nD_len, List.length_range]; simp, hb1⟩
  obtain ⟨e8, e9⟩ := e7
  subst e3
  have q : (q_lany_lot_0).den g_lany_lot [.bg β1, .va (.int (n : Int)), .va (.int w), .no] = some (.ls out, [.bg β2, .va (.int (n : Int)), .va (.int w), .no]) := by
    unfold q_lany_lot_0
    refine Eq.trans (lc_val (ds := nD (List.range n)) (ρ1 := [.bg β1, .va (.int (n : Int)), .va (.int w), .no]) (by rw [it_rng1 (x := n) (ρ1 := [.bg β1, .va (.int (n : Int)), .va (.int w), .no]) (by simp [Den.Cd.denD, Den.fsStar, Den.f1, Den.fExt, Den.fRep, Den.fTr, Den.fCh, Den.opI, Den.opB, Den.opC, Den.opM, Den.bodyRun, Den.Ss.den, Den.S.den, Den.C.den, Den.C.denT, Den.Cs.denA, Den.Cs.denO, Den.Cs.denAT, Den.Cs.denOT, Den.Cs.denV, Den.Cs.denF, Den.Co.den, Den.Co.denT, Den.Ci.den, Den.Tg.den, Den.Tg.dens, Den.Tg.slots, Den.Tg.slotsL, Den.parL, Den.fSeq, Den.fRet, Den.fRetN, Den.fNop, Den.fBk, Den.fCt, Den.fSet, Den.fO, Den.fDrop, Den.SlOf, Den.notBg, Den.fIfS, Den.fIf, Den.fT, Den.truth, Den.fAnd, Den.fOr, Den.fNot, Den.fAndV, Den.fOrV, Den.fNotV, Den.isB, Den.fV, Den.fF, Den.frz, Den.half, Den.vw, Den.vws, Den.f1, Den.f2, Den.fL, Den.fM, Den.fVar, Den.fC, Den.fTup, Den.fLst, Den.fsCons, Den.fsNil, Den.fSetIx, Den.fAugIx, Den.fAug, Den.asInt, Den.items, Den.putItems, Den.sameKind, Den.fMut, Den.φApp, Den.φIns, Den.fCall, Den.fCallM, Den.fPar, Den.fPar3, Den.fAsg, Den.gNm, Den.gTp, Den.gsCons, Den.gsNil, Den.fSl, Den.fPt, Den.φSl, Den.add_int, Den.sub_int, Den.φNeg, Den.φCmp, Den.φIs, Den.φIsNot, Den.isNone, Den.len_lst, Den.len_tup, Den.φAbs, Den.φInt, Den.φTuple, Den.φList, Den.fdmt, Den.fdnp, L2.ixN, Den.eq_str, Den.ne_str, Den.eq_int, Den.ne_int, Den.ix_lst, Den.ix_tup, Den.at_zero, Den.at_one, Den.at_two, Den.at_three, Den.lim_lit]) hr, rng_nat]) (by rw [nD_len, List.length_range]; show _ ≤ 1000000; omega) e2) ?_
    rfl
  subst e5
  exact ok_last (r := .va (.tuple (nD us))) (ρ1 := [.bg β2, .va (.int (n : Int)), .va (.int w), .no]) (by simp [Den.Cd.denD, Den.fsStar, Den.f1, Den.fExt, Den.fRep, Den.fTr, Den.fCh, Den.opI, Den.opB, Den.opC, Den.opM, Den.bodyRun, Den.Ss.den, Den.S.den, Den.C.den, Den.C.denT, Den.Cs.denA, Den.Cs.denO, Den.Cs.denAT, Den.Cs.denOT, Den.Cs.denV, Den.Cs.denF, Den.Co.den, Den.Co.denT, Den.Ci.den, Den.Tg.den, Den.Tg.dens, Den.Tg.slots, Den.Tg.slotsL, Den.parL, Den.fSeq, Den.fRet, Den.fRetN, Den.fNop, Den.fBk, Den.fCt, Den.fSet, Den.fO, Den.fDrop, Den.SlOf, Den.notBg, Den.fIfS, Den.fIf, Den.fT, Den.truth, Den.fAnd, Den.fOr, Den.fNot, Den.fAndV, Den.fOrV, Den.fNotV, Den.isB, Den.fV, Den.fF, Den.frz, Den.half, Den.vw, Den.vws, Den.f1, Den.f2, Den.fL, Den.fM, Den.fVar, Den.fC, Den.fTup, Den.fLst, Den.fsCons, Den.fsNil, Den.fSetIx, Den.fAugIx, Den.fAug, Den.asInt, Den.items, Den.putItems, Den.sameKind, Den.fMut, Den.φApp, Den.φIns, Den.fCall, Den.fCallM, Den.fPar, Den.fPar3, Den.fAsg, Den.gNm, Den.gTp, Den.gsCons, Den.gsNil, Den.fSl, Den.fPt, Den.φSl, Den.add_int, Den.sub_int, Den.φNeg, Den.φCmp, Den.φIs, Den.φIsNot, Den.isNone, Den.len_lst, Den.len_tup, Den.φAbs, Den.φInt, Den.φTuple, Den.φList, Den.fdmt, Den.fdnp, L2.ixN, Den.eq_str, Den.ne_str, Den.eq_int, Den.ne_int, Den.ix_lst, Den.ix_tup, Den.at_zero, Den.at_one, Den.at_two, Den.at_three, Den.lim_lit, q]) ⟨β2, rfl, us, rfl, e6, by simpa using e8, e9⟩
end W

set_option autoImplicit false
namespace W
open PySem PySem.Spec L2 Den
variable {rs : List Rm} {k : Int}
theorem some_p {β things : List D} (P : D → Prop) (hb : Bag β) (h0 : things ≠ []) (h1 : things.length ≤ 1000) (hp : ∀ x ∈ things, P x) : ∃ x β', P x ∧ Bag β' ∧ d_lsome.run β [.list things] = some (.va x, β') := by
  obtain ⟨v, x, β', e, b, r⟩ := some_ok hb h0 h1
  exact ⟨x, β', hp x (List.mem_of_getElem? e), b, r⟩
def WayOk (w : D) : Prop := w = .str "open" ∨ w = .str "lock" ∨ w = .str "bar"
theorem dun_app (h : Dun rs) (hl : rs.length < 11) {p : Nat} (hp : p < rs.length) {w : D} (hw : WayOk w) {c : Int} (hc : 0 ≤ c ∧ c ≤ 2) : Dun (rs ++ [⟨some p, w, c⟩]) := by
  have old : ∀ {i : Nat} {r : Rm}, (rs ++ [⟨some p, w, c⟩])[i]? = some r → (i < rs.length ∧ rs[i]? = some r) ∨ (i = rs.length ∧ r = ⟨some p, w, c⟩) := fun {i r} e => by
    by_cases hi : i < rs.length
    · rw [List.getElem?_append_left hi] at e
      exact .inl ⟨hi, e⟩
    · rw [List.getElem?_append_right (by omega)] at e
      by_cases h0 : i - rs.length = 0
      · rw [h0] at e
        cases e
        exact .inr ⟨by omega, rfl⟩
      · obtain ⟨m, hm⟩ : ∃ m, i - rs.length = m + 1 := ⟨i - rs.length - 1, by omega⟩
        rw [hm] at e
        cases e
  refine ⟨by simp, by simp; omega, fun r e => ?_, fun i r e hi => ?_, fun i r e hi => ?_, fun r hr => ?_⟩
  · rcases old e with ⟨_, e⟩ | ⟨e, _⟩
    · exact h.root r e
    · have := h.len0
      omega
  · rcases old e with ⟨_, e⟩ | ⟨rfl, rfl⟩
    · exact h.par i r e hi
    · exact ⟨p, rfl, hp⟩
  · rcases old e with ⟨_, e⟩ | ⟨rfl, rfl⟩
    · exact h.way i r e hi
    · exact hw
  · rcases List.mem_append.mp hr with z | z
    · exact h.ch r z
    · rw [List.mem_singleton.mp z]
      exact hc
theorem dun_one {c : Int} (hc : 0 ≤ c ∧ c ≤ 2) : Dun [⟨none, .none, c⟩] := by
  refine ⟨by simp, by simp, fun r e => ?_, fun i r e hi => ?_, fun i r e hi => ?_, fun r hr => ?_⟩
  · cases e
    exact ⟨rfl, rfl⟩
  · obtain ⟨m, rfl⟩ : ∃ m, i = m + 1 := ⟨i - 1, by omega⟩
    cases e
  · obtain ⟨m, rfl⟩ : ∃ m, i = m + 1 := ⟨i - 1, by omega⟩
    cases e
  · rw [List.mem_singleton.mp hr]
    exact hc
theorem dun_first (h : Dun rs) {c : Int} (hc : 0 ≤ c ∧ c ≤ 2) : Dun (⟨none, .none, c⟩ :: rs.drop 1) := by
  have hl := h.len0
  have hl1 := h.len1
  refine ⟨by simp, by simp; omega, fun r e => ?_, fun i r e hi => ?_, fun i r e hi => ?_, fun r hr => ?_⟩
  · cases e
    exact ⟨rfl, rfl⟩
  · obtain ⟨m, rfl⟩ : ∃ m, i = m + 1 := ⟨i - 1, by omega⟩
    rw [List.getElem?_cons_succ, List.getElem?_drop, Nat.add_comm] at e
    exact h.par _ r e (by omega)
  · obtain ⟨m, rfl⟩ : ∃ m, i = m + 1 := ⟨i - 1, by omega⟩
    rw [List.getElem?_cons_succ, List.getElem?_drop, Nat.add_comm] at e
    exact h.way _ r e (by omega)
  · rcases List.mem_cons.mp hr with z | z
    · rw [z]
      exact hc
    · exact h.ch r (List.mem_of_mem_drop z)
theorem sm_nat {n : Nat} (h : n ≤ 1000) : sm (.int (n : Int)) = true := by
  simp [sm]
  omega
theorem room_sm (h : Dun rs) {r : Rm} (hr : r ∈ rs) : sm (roomD r) = true ∧ (roomD r).depth ≤ 1 ∧ (roomD r).bulk ≤ 20 := by
  obtain ⟨i, hi, e⟩ := List.getElem_of_mem hr
  have e2 : rs[i]? = some r := by rw [List.getElem?_eq_getElem hi, e]
  obtain ⟨c0, c1⟩ := h.ch r hr
  have hc : sm (.int r.ch) = true := by
    simp [sm]
    omega
  have hl := h.len1
  have hp : sm (pD r.par) = true ∧ (pD r.par).depth = 0 ∧ (pD r.par).bulk = 0 := by
    by_cases h0 : i = 0
    · subst h0
      rw [(h.root r e2).1]
      exact ⟨rfl, by simp [pD, PyData.depth], by simp [pD, PyData.bulk]⟩
    · obtain ⟨p, e3, hp⟩ := h.par i r e2 (by omega)
      rw [e3]
      exact ⟨sm_nat (by omega), by simp [pD, PyData.depth], by simp [pD, PyData.bulk]⟩
  have hw : sm r.way = true ∧ r.way.depth = 0 ∧ r.way.bulk ≤ 4 := by
    by_cases h0 : i = 0
    · subst h0
      rw [(h.root r e2).2]
      exact ⟨rfl, by simp [PyData.depth], by simp [PyData.bulk]⟩
    · rcases h.way i r e2 (by omega) with z | z | z <;> rw [z]
      · exact ⟨by decide +kernel, by simp [PyData.depth], by decide +kernel⟩
      · exact ⟨by decide +kernel, by simp [PyData.depth], by decide +kernel⟩
      · exact ⟨by decide +kernel, by simp [PyData.depth], by decide +kernel⟩
  refine ⟨by simp [roomD, sm, sms, hp.1, hw.1, by simpa [sm] using hc], ?_, ?_⟩
  · simp only [roomD, PyData.depth, PyData.depthAll, hp.2.1, hw.2.1]
    omega
  · simp only [roomD, PyData.bulk, PyData.bulkAll, hp.2.2]
    have := hw.2.2
    omega
theorem fine_dun (h : Dun rs) (hk : 0 ≤ k ∧ k ≤ 6) : Fine (dunD rs k) := by
  have a : sms (rs.map roomD) = true := sms_iff.mpr fun x hx => by
    obtain ⟨r, hr, rfl⟩ := List.mem_map.mp hx
    exact (room_sm h hr).1
  have b : PyData.depthAll (rs.map roomD) ≤ 1 := depth_le fun x hx => by
    obtain ⟨r, hr, rfl⟩ := List.mem_map.mp hx
    exact (room_sm h hr).2.1
  have c : PyData.bulkAll (rs.map roomD) ≤ (20 + 1) * (rs.map roomD).length := bulk_le fun x hx => by
    obtain ⟨r, hr, rfl⟩ := List.mem_map.mp hx
    exact (room_sm h hr).2.2
  have hl := h.len1
  rw [List.length_map] at c
  have hks : sm (.int k) = true := by
    simp [sm]
    omega
  refine fine_of (by simp [dunD, sm, sms, a, by simpa [sm] using hks]) ?_ ?_
  · simp only [dunD, PyData.depth, PyData.depthAll]
    omega
  · simp only [dunD, PyData.bulk, PyData.bulkAll]
    omega
end W

set_option autoImplicit false
namespace W
open PySem PySem.Spec L2 Den
variable {rs : List Rm} {k : Int}
theorem ints_map {α : Type} {f : α → Int} : ∀ {l : List α}, intsOf (l.map fun a => .int (f a)) = some (l.map f)
  | [] => rfl
  | a :: l => by
    rw [List.map_cons, intsOf, ints_map]
    rfl
def isLockD : D → Bool
  | .str x => x == ("lock" : Str)
  | _ => false
theorem way_eq (h : Dun rs) {r : Rm} (hr : r ∈ rs) : φEq r.way (.str "lock") = some (.va (.bool (isLockD r.way))) ∧ φEq r.way (.str "bar") = some (.va (.bool (isBarD r.way))) := by
  obtain ⟨i, hi, e⟩ := List.getElem_of_mem hr
  have e2 : rs[i]? = some r := by rw [List.getElem?_eq_getElem hi, e]
  by_cases h0 : i = 0
  · subst h0
    rw [(h.root r e2).2]
    exact ⟨if_pos (.inl ⟨rfl, by decide +kernel⟩), if_pos (.inl ⟨rfl, by decide +kernel⟩)⟩
  · rcases h.way i r e2 (by omega) with z | z | z <;> rw [z] <;> exact ⟨eq_str, eq_str⟩
theorem ones_ne {n : Nat} : ∃ b : Bool, φNe (.list (nD (List.replicate n 1))) (.list []) = some (.va (.bool b)) := ⟨_, if_pos (.inl ⟨sh_nats.1, (sh_nats (ns := [])).1⟩)⟩
theorem ones {α : Type} {l : List α} {b : α → Bool} : ((l.filter b).map fun _ => (PyData.int 1)) = nD (List.replicate (l.filter b).length 1) := by
  rw [List.map_const', nD, List.map_replicate]
  rfl
theorem dungeon_ok {β : List D} {m : Int} (hb : Bag β) (h1 : 0 < m) (h2 : m ≤ 10) : Ans (d_ldungeon.run β [.int m]) fun r β' => ∃ rs k, r = .va (dunD rs k) ∧ Dun rs ∧ 0 ≤ k ∧ k ≤ 6 ∧ Bag β' := by
  rw [r_ldungeon]
  refine run_t ?_
  -- the first room
  obtain ⟨x1, β1, ⟨c1, rfl, hc1⟩, hb1, e1⟩ := some_p (things := [.int 1, .int 0, .int 1, .int 2]) (fun x => ∃ c : Int, x = .int c ∧ 0 ≤ c ∧ c ≤ 2) hb (by simp) (by simp) (by
    intro x hx
    simp only [List.mem_cons, List.not_mem_nil, or_false] at hx
    rcases hx with rfl | rfl | rfl | rfl <;> exact ⟨_, rfl, by omega, by omega⟩)
  obtain ⟨t2, β2, _, _, hb2, e2⟩ := take_ok (m := 2) hb1 (by omega) (by omega)
  refine ok_step (ρ1 := [.bg β2, .va (.int m), .ls ([⟨none, .none, c1⟩].map roomD), .va (.bool (t2 == 0)), .no, .no, .no, .no, .no, .no, .no]) (by simp [Den.Cd.denD, Den.fsStar, Den.f1, Den.fExt, Den.fRep, Den.fTr, Den.fCh, Den.opI, Den.opB, Den.opC, Den.opM, Den.bodyRun, Den.Ss.den, Den.S.den, Den.C.den, Den.C.denT, Den.Cs.denA, Den.Cs.denO, Den.Cs.denAT, Den.Cs.denOT, Den.Cs.denV, Den.Cs.denF, Den.Co.den, Den.Co.denT, Den.Ci.den, Den.Tg.den, Den.Tg.dens, Den.Tg.slots, Den.Tg.slotsL, Den.parL, Den.fSeq, Den.fRet, Den.fRetN, Den.fNop, Den.fBk, Den.fCt, Den.fSet, Den.fO, Den.fDrop, Den.SlOf, Den.notBg, Den.fIfS, Den.fIf, Den.fT, Den.truth, Den.fAnd, Den.fOr, Den.fNot, Den.fAndV, Den.fOrV, Den.fNotV, Den.isB, Den.fV, Den.fF, Den.frz, Den.half, Den.vw, Den.vws, Den.f1, Den.f2, Den.fL, Den.fM, Den.fVar, Den.fC, Den.fTup, Den.fLst, Den.fsCons, Den.fsNil, Den.fSetIx, Den.fAugIx, Den.fAug, Den.asInt, Den.items, Den.putItems, Den.sameKind, Den.fMut, Den.φApp, Den.φIns, Den.fCall, Den.fCallM, Den.fPar, Den.fPar3, Den.fAsg, Den.gNm, Den.gTp, Den.gsCons, Den.gsNil, Den.fSl, Den.fPt, Den.φSl, Den.add_int, Den.sub_int, Den.φNeg, Den.φCmp, Den.φIs, Den.φIsNot, Den.isNone, Den.len_lst, Den.len_tup, Den.φAbs, Den.φInt, Den.φTuple, Den.φList, Den.fdmt, Den.fdnp, L2.ixN, Den.eq_str, Den.ne_str, Den.eq_int, Den.ne_int, Den.ix_lst, Den.ix_tup, Den.at_zero, Den.at_one, Den.at_two, Den.at_three, Den.lim_lit, g_ldungeon, mt_lsome, np_lsome, mt_ltake, np_ltake, e1, e2, roomD, pD]) ?_
  obtain ⟨t3, β3, t30, t31, hb3, e3⟩ := take_ok (m := m) hb2 (by omega) (by omega)
  generalize hf : (t2 == 0) = f
  have hrg : rng 1 (1 + t3) = nD (List.range' 1 t3.toNat) := by
    have q := rng_nat2 (a := 1) (n := 1 + t3.toNat) (by omega)
    rw [← List.range'_eq_map_range] at q
    have e : ((1 + t3.toNat : Nat) : Int) = 1 + t3 := by omega
    rw [e] at q
    rw [show 1 + t3.toNat - 1 = t3.toNat by omega] at q
    exact q
  refine ok_cons (ok_for (ds := nD (List.range' 1 t3.toNat)) (ρ1 := [.bg β3, .va (.int m), .ls ([⟨none, .none, c1⟩].map roomD), .va (.bool f), .no, .no, .no, .no, .no, .no, .no])
    (fun ds ρ => ∃ β rs s4 s5, ρ = [.bg β, .va (.int m), .ls (rs.map roomD), .va (.bool f), s4, s5, .no, .no, .no, .no, .no] ∧ Bag β ∧ Dun rs ∧ Pl s4 ∧ Pl s5 ∧ rs.length ≤ 1 + t3.toNat ∧ ds = nD (List.range' rs.length (1 + t3.toNat - rs.length)))
    (by rw [it_rng2 (x := 1) (y := 1 + t3) (ρ1 := [.bg β2, .va (.int m), .ls ([⟨none, .none, c1⟩].map roomD), .va (.bool f), .no, .no, .no, .no, .no, .no, .no]) (ρ2 := [.bg β3, .va (.int m), .ls ([⟨none, .none, c1⟩].map roomD), .va (.bool f), .no, .no, .no, .no, .no, .no, .no]) (by simp [Den.Cd.denD, Den.fsStar, Den.f1, Den.fExt, Den.fRep, Den.fTr, Den.fCh, Den.opI, Den.opB, Den.opC, Den.opM, Den.bodyRun, Den.Ss.den, Den.S.den, Den.C.den, Den.C.denT, Den.Cs.denA, Den.Cs.denO, Den.Cs.denAT, Den.Cs.denOT, Den.Cs.denV, Den.Cs.denF, Den.Co.den, Den.Co.denT, Den.Ci.den, Den.Tg.den, Den.Tg.dens, Den.Tg.slots, Den.Tg.slotsL, Den.parL, Den.fSeq, Den.fRet, Den.fRetN, Den.fNop, Den.fBk, Den.fCt, Den.fSet, Den.fO, Den.fDrop, Den.SlOf, Den.notBg, Den.fIfS, Den.fIf, Den.fT, Den.truth, Den.fAnd, Den.fOr, Den.fNot, Den.fAndV, Den.fOrV, Den.fNotV, Den.isB, Den.fV, Den.fF, Den.frz, Den.half, Den.vw, Den.vws, Den.f1, Den.f2, Den.fL, Den.fM, Den.fVar, Den.fC, Den.fTup, Den.fLst, Den.fsCons, Den.fsNil, Den.fSetIx, Den.fAugIx, Den.fAug, Den.asInt, Den.items, Den.putItems, Den.sameKind, Den.fMut, Den.φApp, Den.φIns, Den.fCall, Den.fCallM, Den.fPar, Den.fPar3, Den.fAsg, Den.gNm, Den.gTp, Den.gsCons, Den.gsNil, Den.fSl, Den.fPt, Den.φSl, Den.add_int, Den.sub_int, Den.φNeg, Den.φCmp, Den.φIs, Den.φIsNot, Den.isNone, Den.len_lst, Den.len_tup, Den.φAbs, Den.φInt, Den.φTuple, Den.φList, Den.fdmt, Den.fdnp, L2.ixN, Den.eq_str, Den.ne_str, Den.eq_int, Den.ne_int, Den.ix_lst, Den.ix_tup, Den.at_zero, Den.at_one, Den.at_two, Den.at_three, Den.lim_lit]) (by simp [Den.Cd.denD, Den.fsStar, Den.f1, Den.fExt, Den.fRep, Den.fTr, Den.fCh, Den.opI, Den.opB, Den.opC, Den.opM, Den.bodyRun, Den.Ss.den, Den.S.den, Den.C.den, Den.C.denT, Den.Cs.denA, Den.Cs.denO, Den.Cs.denAT, Den.Cs.denOT, Den.Cs.denV, Den.Cs.denF, Den.Co.den, Den.Co.denT, Den.Ci.den, Den.Tg.den, Den.Tg.dens, Den.Tg.slots, Den.Tg.slotsL, Den.parL, Den.fSeq, Den.fRet, Den.fRetN, Den.fNop, Den.fBk, Den.fCt, Den.fSet, Den.fO, Den.fDrop, Den.SlOf, Den.notBg, Den.fIfS, Den.fIf, Den.fT, Den.truth, Den.fAnd, Den.fOr, Den.fNot, Den.fAndV, Den.fOrV, Den.fNotV, Den.isB, Den.fV, Den.fF, Den.frz, Den.half, Den.vw, Den.vws, Den.f1, Den.f2, Den.fL, Den.fM, Den.fVar, Den.fC, Den.fTup, Den.fLst, Den.fsCons, Den.fsNil, Den.fSetIx, Den.fAugIx, Den.fAug, Den.asInt, Den.items, Den.putItems, Den.sameKind, Den.fMut, Den.φApp, Den.φIns, Den.fCall, Den.fCallM, Den.fPar, Den.fPar3, Den.fAsg, Den.gNm, Den.gTp, Den.gsCons, Den.gsNil, Den.fSl, Den.fPt, Den.φSl, Den.add_int, Den.sub_int, Den.φNeg, Den.φCmp, Den.φIs, Den.φIsNot, Den.isNone, Den.len_lst, Den.len_tup, Den.φAbs, Den.φInt, Den.φTuple, Den.φList, Den.fdmt, Den.fdnp, L2.ixN, Den.eq_str, Den.ne_str, Den.eq_int, Den.ne_int, Den.ix_lst, Den.ix_tup, Den.at_zero, Den.at_one, Den.at_two, Den.at_three, Den.lim_lit, g_ldungeon, mt_ltake, np_ltake, e3]) (by omega), hrg])
    ⟨β3, [⟨none, .none, c1⟩], .no, .no, rfl, hb3, dun_one hc1, pl_no, pl_no, by simp, by simp⟩ ?_ ?_)
  · rintro d ds ρ ⟨β, rs, s4, s5, rfl, hb, hd, p4, p5, hl, hds⟩
    obtain ⟨n, hn⟩ : ∃ n, 1 + t3.toNat - rs.length = n + 1 := by
      cases e : 1 + t3.toNat - rs.length with
      | zero => rw [e] at hds; cases hds
      | succ n => exact ⟨n, rfl⟩
    rw [hn, List.range'_succ] at hds
    have hdv : d = .int (rs.length : Int) := (List.cons.inj hds).1
    have hds2 : ds = nD (List.range' (rs.length + 1) n) := (List.cons.inj hds).2
    subst hdv
    have hl0 := hd.len0
    refine ⟨[.bg β, .va (.int m), .ls (rs.map roomD), .va (.bool f), .va (.int (rs.length : Int)), s5, .no, .no, .no, .no, .no], by rcases p4 with rfl | ⟨x, rfl⟩ <;> simp [Den.Cd.denD, Den.fsStar, Den.f1, Den.fExt, Den.fRep, Den.fTr, Den.fCh, Den.opI, Den.opB, Den.opC, Den.opM, Den.bodyRun, Den.Ss.den, Den.S.den, Den.C.den, Den.C.denT, Den.Cs.denA, Den.Cs.denO, Den.Cs.denAT, Den.Cs.denOT, Den.Cs.denV, Den.Cs.denF, Den.Co.den, Den.Co.denT, Den.Ci.den, Den.Tg.den, Den.Tg.dens, Den.Tg.slots, Den.Tg.slotsL, Den.parL, Den.fSeq, Den.fRet, Den.fRetN, Den.fNop, Den.fBk, Den.fCt, Den.fSet, Den.fO, Den.fDrop, Den.SlOf, Den.notBg, Den.fIfS, Den.fIf, Den.fT, Den.truth, Den.fAnd, Den.fOr, Den.fNot, Den.fAndV, Den.fOrV, Den.fNotV, Den.isB, Den.fV, Den.fF, Den.frz, Den.half, Den.vw, Den.vws, Den.f1, Den.f2, Den.fL, Den.fM, Den.fVar, Den.fC, Den.fTup, Den.fLst, Den.fsCons, Den.fsNil, Den.fSetIx, Den.fAugIx, Den.fAug, Den.asInt, Den.items, Den.putItems, Den.sameKind, Den.fMut, Den.φApp, Den.φIns, Den.fCall, Den.fCallM, Den.fPar, Den.fPar3, Den.fAsg, Den.gNm, Den.gTp, Den.gsCons, Den.gsNil, Den.fSl, Den.fPt, Den.φSl, Den.add_int, Den.sub_int, Den.φNeg, Den.φCmp, Den.φIs, Den.φIsNot, Den.isNone, Den.len_lst, Den.len_tup, Den.φAbs, Den.φInt, Den.φTuple, Den.φList, Den.fdmt, Den.fdnp, L2.ixN, Den.eq_str, Den.ne_str, Den.eq_int, Den.ne_int, Den.ix_lst, Den.ix_tup, Den.at_zero, Den.at_one, Den.at_two, Den.at_three, Den.lim_lit], ?_⟩
    obtain ⟨w, β4, hw, hb4, e4⟩ := some_p (things := [.str "open", .str "lock", .str "lock", .str (if f then "bar" else "lock")]) WayOk hb (by simp) (by simp) (by
      intro x hx
      simp only [List.mem_cons, List.not_mem_nil, or_false] at hx
      rcases hx with rfl | rfl | rfl | rfl
      · exact .inl rfl
      · exact .inr (.inl rfl)
      · exact .inr (.inl rfl)
      · cases f
        · exact .inr (.inl rfl)
        · exact .inr (.inr rfl))
    refine ok_step (ρ1 := [.bg β4, .va (.int m), .ls (rs.map roomD), .va (.bool f), .va (.int (rs.length : Int)), .va w, .no, .no, .no, .no, .no]) ?_ ?_
    · rcases p5 with rfl | ⟨x, rfl⟩ <;> cases f <;> (simp only [if_true, if_false, Bool.false_eq_true] at e4; simp [Den.Cd.denD, Den.fsStar, Den.f1, Den.fExt, Den.fRep, Den.fTr, Den.fCh, Den.opI, Den.opB, Den.opC, Den.opM, Den.bodyRun, Den.Ss.den, Den.S.den, Den.C.den, Den.C.denT, Den.Cs.denA, Den.Cs.denO, Den.Cs.denAT, Den.Cs.denOT, Den.Cs.denV, Den.Cs.denF, Den.Co.den, Den.Co.denT, Den.Ci.den, Den.Tg.den, Den.Tg.dens, Den.Tg.slots, Den.Tg.slotsL, Den.parL, Den.fSeq, Den.fRet, Den.fRetN, Den.fNop, Den.fBk, Den.fCt, Den.fSet, Den.fO, Den.fDrop, Den.SlOf, Den.notBg, Den.fIfS, Den.fIf, Den.fT, Den.truth, Den.fAnd, Den.fOr, Den.fNot, Den.fAndV, Den.fOrV, Den.fNotV, Den.isB, Den.fV, Den.fF, Den.frz, Den.half, Den.vw, Den.vws, Den.f1, Den.f2, Den.fL, Den.fM, Den.fVar, Den.fC, Den.fTup, Den.fLst, Den.fsCons, Den.fsNil, Den.fSetIx, Den.fAugIx, Den.fAug, Den.asInt, Den.items, Den.putItems, Den.sameKind, Den.fMut, Den.φApp, Den.φIns, Den.fCall, Den.fCallM, Den.fPar, Den.fPar3, Den.fAsg, Den.gNm, Den.gTp, Den.gsCons, Den.gsNil, Den.fSl, Den.fPt, Den.φSl, Den.add_int, Den.sub_int, Den.φNeg, Den.φCmp, Den.φIs, Den.φIsNot, Den.isNone, Den.len_lst, Den.len_tup, Den.φAbs, Den.φInt, Den.φTuple, Den.φList, Den.fdmt, Den.fdnp, L2.ixN, Den.eq_str, Den.ne_str, Den.eq_int, Den.ne_int, Den.ix_lst, Den.ix_tup, Den.at_zero, Den.at_one, Den.at_two, Den.at_three, Den.lim_lit, g_ldungeon, mt_lsome, np_lsome, e4])
    obtain ⟨t5, β5, t50, t51, hb5, e5⟩ := take_ok (m := rs.length) hb4 (by omega) (by omega)
    obtain ⟨x6, β6, ⟨p, rfl, hp⟩, hb6, e6⟩ := some_p (things := [.int ((rs.length : Int) - 1), .int t5]) (fun x => ∃ p : Nat, x = .int (p : Int) ∧ p < rs.length) hb5 (by simp) (by simp) (by
      intro x hx
      simp only [List.mem_cons, List.not_mem_nil, or_false] at hx
      rcases hx with rfl | rfl
      · exact ⟨rs.length - 1, by congr 1; omega, by omega⟩
      · exact ⟨t5.toNat, by congr 1; omega, by omega⟩)
    obtain ⟨x7, β7, ⟨c7, rfl, hc7⟩, hb7, e7⟩ := some_p (things := [.int 1, .int 0, .int 1, .int 1, .int 2]) (fun x => ∃ c : Int, x = .int c ∧ 0 ≤ c ∧ c ≤ 2) hb6 (by simp) (by simp) (by
      intro x hx
      simp only [List.mem_cons, List.not_mem_nil, or_false] at hx
      rcases hx with rfl | rfl | rfl | rfl | rfl <;> exact ⟨_, rfl, by omega, by omega⟩)
    have cl : rs.length < lim := by
      show _ < 1000000
      omega
    refine ok_step (ρ1 := [.bg β7, .va (.int m), .ls ((rs ++ [(⟨some p, w, c7⟩ : Rm)]).map roomD), .va (.bool f), .va (.int (rs.length : Int)), .va w, .no, .no, .no, .no, .no]) (by simp [Den.Cd.denD, Den.fsStar, Den.f1, Den.fExt, Den.fRep, Den.fTr, Den.fCh, Den.opI, Den.opB, Den.opC, Den.opM, Den.bodyRun, Den.Ss.den, Den.S.den, Den.C.den, Den.C.denT, Den.Cs.denA, Den.Cs.denO, Den.Cs.denAT, Den.Cs.denOT, Den.Cs.denV, Den.Cs.denF, Den.Co.den, Den.Co.denT, Den.Ci.den, Den.Tg.den, Den.Tg.dens, Den.Tg.slots, Den.Tg.slotsL, Den.parL, Den.fSeq, Den.fRet, Den.fRetN, Den.fNop, Den.fBk, Den.fCt, Den.fSet, Den.fO, Den.fDrop, Den.SlOf, Den.notBg, Den.fIfS, Den.fIf, Den.fT, Den.truth, Den.fAnd, Den.fOr, Den.fNot, Den.fAndV, Den.fOrV, Den.fNotV, Den.isB, Den.fV, Den.fF, Den.frz, Den.half, Den.vw, Den.vws, Den.f1, Den.f2, Den.fL, Den.fM, Den.fVar, Den.fC, Den.fTup, Den.fLst, Den.fsCons, Den.fsNil, Den.fSetIx, Den.fAugIx, Den.fAug, Den.asInt, Den.items, Den.putItems, Den.sameKind, Den.fMut, Den.φApp, Den.φIns, Den.fCall, Den.fCallM, Den.fPar, Den.fPar3, Den.fAsg, Den.gNm, Den.gTp, Den.gsCons, Den.gsNil, Den.fSl, Den.fPt, Den.φSl, Den.add_int, Den.sub_int, Den.φNeg, Den.φCmp, Den.φIs, Den.φIsNot, Den.isNone, Den.len_lst, Den.len_tup, Den.φAbs, Den.φInt, Den.φTuple, Den.φList, Den.fdmt, Den.fdnp, L2.ixN, Den.eq_str, Den.ne_str, Den.eq_int, Den.ne_int, Den.ix_lst, Den.ix_tup, Den.at_zero, Den.at_one, Den.at_two, Den.at_three, Den.lim_lit, g_ldungeon, mt_lsome, np_lsome, mt_ltake, np_ltake, e5, e6, e7, roomD, pD, cl]) ?_
    refine ok_nil ⟨β7, rs ++ [⟨some p, w, c7⟩], _, _, rfl, hb7, dun_app hd (by omega) hp hw hc7, pl_va, pl_va, by simp; omega, ?_⟩
    rw [hds2, List.length_append]
    simp
    congr 2
    omega
  · rintro ρ ⟨β, rs, s4, s5, rfl, hb, hd, p4, p5, hl, hds⟩
    have hl1 := hd.len1
    have q0 : (q_ldungeon_0).den g_ldungeon [.bg β, .va (.int m), .ls (rs.map roomD), .va (.bool f), s4, s5, .no, .no, .no, .no, .no] = some (.ls ((rs.filter fun r => isLockD r.way).map fun _ => .int 1), [.bg β, .va (.int m), .va (.list (rs.map roomD)), .va (.bool f), s4, s5, .no, .no, .no, .no, .no]) := by
      unfold q_ldungeon_0
      refine lc_of (l := rs) (f := roomD) (ρ1 := [.bg β, .va (.int m), .va (.list (rs.map roomD)), .va (.bool f), s4, s5, .no, .no, .no, .no, .no]) (by simp [Den.Cd.denD, Den.fsStar, Den.f1, Den.fExt, Den.fRep, Den.fTr, Den.fCh, Den.opI, Den.opB, Den.opC, Den.opM, Den.bodyRun, Den.Ss.den, Den.S.den, Den.C.den, Den.C.denT, Den.Cs.denA, Den.Cs.denO, Den.Cs.denAT, Den.Cs.denOT, Den.Cs.denV, Den.Cs.denF, Den.Co.den, Den.Co.denT, Den.Ci.den, Den.Tg.den, Den.Tg.dens, Den.Tg.slots, Den.Tg.slotsL, Den.parL, Den.fSeq, Den.fRet, Den.fRetN, Den.fNop, Den.fBk, Den.fCt, Den.fSet, Den.fO, Den.fDrop, Den.SlOf, Den.notBg, Den.fIfS, Den.fIf, Den.fT, Den.truth, Den.fAnd, Den.fOr, Den.fNot, Den.fAndV, Den.fOrV, Den.fNotV, Den.isB, Den.fV, Den.fF, Den.frz, Den.half, Den.vw, Den.vws, Den.f1, Den.f2, Den.fL, Den.fM, Den.fVar, Den.fC, Den.fTup, Den.fLst, Den.fsCons, Den.fsNil, Den.fSetIx, Den.fAugIx, Den.fAug, Den.asInt, Den.items, Den.putItems, Den.sameKind, Den.fMut, Den.φApp, Den.φIns, Den.fCall, Den.fCallM, Den.fPar, Den.fPar3, Den.fAsg, Den.gNm, Den.gTp, Den.gsCons, Den.gsNil, Den.fSl, Den.fPt, Den.φSl, Den.add_int, Den.sub_int, Den.φNeg, Den.φCmp, Den.φIs, Den.φIsNot, Den.isNone, Den.len_lst, Den.len_tup, Den.φAbs, Den.φInt, Den.φTuple, Den.φList, Den.fdmt, Den.fdnp, L2.ixN, Den.eq_str, Den.ne_str, Den.eq_int, Den.ne_int, Den.ix_lst, Den.ix_tup, Den.at_zero, Den.at_one, Den.at_two, Den.at_three, Den.lim_lit, fIt, its]) (lim_11 hl1) (by rfl) (fun r hr => ?_)
      refine ⟨[.bg β, .va (.int m), .va (.list (rs.map roomD)), .va (.bool f), s4, s5, .no, .va (roomD r), .no, .no, .no], [.bg β, .va (.int m), .va (.list (rs.map roomD)), .va (.bool f), s4, s5, .no, .va (roomD r), .no, .no, .no], by rfl, ?_, fun _ => ⟨[.bg β, .va (.int m), .va (.list (rs.map roomD)), .va (.bool f), s4, s5, .no, .va (roomD r), .no, .no, .no], by rfl, by rfl⟩, fun _ => by rfl⟩
      simp [Den.Cd.denD, Den.fsStar, Den.f1, Den.fExt, Den.fRep, Den.fTr, Den.fCh, Den.opI, Den.opB, Den.opC, Den.opM, Den.bodyRun, Den.Ss.den, Den.S.den, Den.C.den, Den.C.denT, Den.Cs.denA, Den.Cs.denO, Den.Cs.denAT, Den.Cs.denOT, Den.Cs.denV, Den.Cs.denF, Den.Co.den, Den.Co.denT, Den.Ci.den, Den.Tg.den, Den.Tg.dens, Den.Tg.slots, Den.Tg.slotsL, Den.parL, Den.fSeq, Den.fRet, Den.fRetN, Den.fNop, Den.fBk, Den.fCt, Den.fSet, Den.fO, Den.fDrop, Den.SlOf, Den.notBg, Den.fIfS, Den.fIf, Den.fT, Den.truth, Den.fAnd, Den.fOr, Den.fNot, Den.fAndV, Den.fOrV, Den.fNotV, Den.isB, Den.fV, Den.fF, Den.frz, Den.half, Den.vw, Den.vws, Den.f1, Den.f2, Den.fL, Den.fM, Den.fVar, Den.fC, Den.fTup, Den.fLst, Den.fsCons, Den.fsNil, Den.fSetIx, Den.fAugIx, Den.fAug, Den.asInt, Den.items, Den.putItems, Den.sameKind, Den.fMut, Den.φApp, Den.φIns, Den.fCall, Den.fCallM, Den.fPar, Den.fPar3, Den.fAsg, Den.gNm, Den.gTp, Den.gsCons, Den.gsNil, Den.fSl, Den.fPt, Den.φSl, Den.add_int, Den.sub_int, Den.φNeg, Den.φCmp, Den.φIs, Den.φIsNot, Den.isNone, Den.len_lst, Den.len_tup, Den.φAbs, Den.φInt, Den.φTuple, Den.φList, Den.fdmt, Den.fdnp, L2.ixN, Den.eq_str, Den.ne_str, Den.eq_int, Den.ne_int, Den.ix_lst, Den.ix_tup, Den.at_zero, Den.at_one, Den.at_two, Den.at_three, Den.lim_lit, roomD, (way_eq hd hr).1]
    rw [ones] at q0
    generalize hL : (rs.filter fun r => isLockD r.way).length = L at q0
    have hL2 : L ≤ 11 := by
      rw [← hL]
      exact Nat.le_trans (List.length_filter_le _ _) hl1
    refine ok_step (ρ1 := [.bg β, .va (.int m), .va (.list (rs.map roomD)), .va (.bool f), s4, s5, .va (.int (L : Int)), .no, .no, .no, .no]) (by simp [Den.Cd.denD, Den.fsStar, Den.f1, Den.fExt, Den.fRep, Den.fTr, Den.fCh, Den.opI, Den.opB, Den.opC, Den.opM, Den.bodyRun, Den.Ss.den, Den.S.den, Den.C.den, Den.C.denT, Den.Cs.denA, Den.Cs.denO, Den.Cs.denAT, Den.Cs.denOT, Den.Cs.denV, Den.Cs.denF, Den.Co.den, Den.Co.denT, Den.Ci.den, Den.Tg.den, Den.Tg.dens, Den.Tg.slots, Den.Tg.slotsL, Den.parL, Den.fSeq, Den.fRet, Den.fRetN, Den.fNop, Den.fBk, Den.fCt, Den.fSet, Den.fO, Den.fDrop, Den.SlOf, Den.notBg, Den.fIfS, Den.fIf, Den.fT, Den.truth, Den.fAnd, Den.fOr, Den.fNot, Den.fAndV, Den.fOrV, Den.fNotV, Den.isB, Den.fV, Den.fF, Den.frz, Den.half, Den.vw, Den.vws, Den.f1, Den.f2, Den.fL, Den.fM, Den.fVar, Den.fC, Den.fTup, Den.fLst, Den.fsCons, Den.fsNil, Den.fSetIx, Den.fAugIx, Den.fAug, Den.asInt, Den.items, Den.putItems, Den.sameKind, Den.fMut, Den.φApp, Den.φIns, Den.fCall, Den.fCallM, Den.fPar, Den.fPar3, Den.fAsg, Den.gNm, Den.gTp, Den.gsCons, Den.gsNil, Den.fSl, Den.fPt, Den.φSl, Den.add_int, Den.sub_int, Den.φNeg, Den.φCmp, Den.φIs, Den.φIsNot, Den.isNone, Den.len_lst, Den.len_tup, Den.φAbs, Den.φInt, Den.φTuple, Den.φList, Den.fdmt, Den.fdnp, L2.ixN, Den.eq_str, Den.ne_str, Den.eq_int, Den.ne_int, Den.ix_lst, Den.ix_tup, Den.at_zero, Den.at_one, Den.at_two, Den.at_three, Den.lim_lit, q0, nD_len]) ?_
    have q1 : (q_ldungeon_1).den g_ldungeon [.bg β, .va (.int m), .va (.list (rs.map roomD)), .va (.bool f), s4, s5, .va (.int (L : Int)), .no, .no, .no, .no] = some (.ls ((rs.filter fun r => isBarD r.way).map fun _ => .int 1), [.bg β, .va (.int m), .va (.list (rs.map roomD)), .va (.bool f), s4, s5, .va (.int (L : Int)), .no, .no, .no, .no]) := by
      unfold q_ldungeon_1
      refine lc_of (l := rs) (f := roomD) (ρ1 := [.bg β, .va (.int m), .va (.list (rs.map roomD)), .va (.bool f), s4, s5, .va (.int (L : Int)), .no, .no, .no, .no]) (by simp [Den.Cd.denD, Den.fsStar, Den.f1, Den.fExt, Den.fRep, Den.fTr, Den.fCh, Den.opI, Den.opB, Den.opC, Den.opM, Den.bodyRun, Den.Ss.den, Den.S.den, Den.C.den, Den.C.denT, Den.Cs.denA, Den.Cs.denO, Den.Cs.denAT, Den.Cs.denOT, Den.Cs.denV, Den.Cs.denF, Den.Co.den, Den.Co.denT, Den.Ci.den, Den.Tg.den, Den.Tg.dens, Den.Tg.slots, Den.Tg.slotsL, Den.parL, Den.fSeq, Den.fRet, Den.fRetN, Den.fNop, Den.fBk, Den.fCt, Den.fSet, Den.fO, Den.fDrop, Den.SlOf, Den.notBg, Den.fIfS, Den.fIf, Den.fT, Den.truth, Den.fAnd, Den.fOr, Den.fNot, Den.fAndV, Den.fOrV, Den.fNotV, Den.isB, Den.fV, Den.fF, Den.frz, Den.half, Den.vw, Den.vws, Den.f1, Den.f2, Den.fL, Den.fM, Den.fVar, Den.fC, Den.fTup, Den.fLst, Den.fsCons, Den.fsNil, Den.fSetIx, Den.fAugIx, Den.fAug, Den.asInt, Den.items, Den.putItems, Den.sameKind, Den.fMut, Den.φApp, Den.φIns, Den.fCall, Den.fCallM, Den.fPar, Den.fPar3, Den.fAsg, Den.gNm, Den.gTp, Den.gsCons, Den.gsNil, Den.fSl, Den.fPt, Den.φSl, Den.add_int, Den.sub_int, Den.φNeg, Den.φCmp, Den.φIs, Den.φIsNot, Den.isNone, Den.len_lst, Den.len_tup, Den.φAbs, Den.φInt, Den.φTuple, Den.φList, Den.fdmt, Den.fdnp, L2.ixN, Den.eq_str, Den.ne_str, Den.eq_int, Den.ne_int, Den.ix_lst, Den.ix_tup, Den.at_zero, Den.at_one, Den.at_two, Den.at_three, Den.lim_lit, fIt, its]) (lim_11 hl1) (by rfl) (fun r hr => ?_)
      refine ⟨[.bg β, .va (.int m), .va (.list (rs.map roomD)), .va (.bool f), s4, s5, .va (.int (L : Int)), .va (roomD r), .no, .no, .no], [.bg β, .va (.int m), .va (.list (rs.map roomD)), .va (.bool f), s4, s5, .va (.int (L : Int)), .va (roomD r), .no, .no, .no], by rfl, ?_, fun _ => ⟨[.bg β, .va (.int m), .va (.list (rs.map roomD)), .va (.bool f), s4, s5, .va (.int (L : Int)), .va (roomD r), .no, .no, .no], by rfl, by rfl⟩, fun _ => by rfl⟩
      simp [Den.Cd.denD, Den.fsStar, Den.f1, Den.fExt, Den.fRep, Den.fTr, Den.fCh, Den.opI, Den.opB, Den.opC, Den.opM, Den.bodyRun, Den.Ss.den, Den.S.den, Den.C.den, Den.C.denT, Den.Cs.denA, Den.Cs.denO, Den.Cs.denAT, Den.Cs.denOT, Den.Cs.denV, Den.Cs.denF, Den.Co.den, Den.Co.denT, Den.Ci.den, Den.Tg.den, Den.Tg.dens, Den.Tg.slots, Den.Tg.slotsL, Den.parL, Den.fSeq, Den.fRet, Den.fRetN, Den.fNop, Den.fBk, Den.fCt, Den.fSet, Den.fO, Den.fDrop, Den.SlOf, Den.notBg, Den.fIfS, Den.fIf, Den.fT, Den.truth, Den.fAnd, Den.fOr, Den.fNot, Den.fAndV, Den.fOrV, Den.fNotV, Den.isB, Den.fV, Den.fF, Den.frz, Den.half, Den.vw, Den.vws, Den.f1, Den.f2, Den.fL, Den.fM, Den.fVar, Den.fC, Den.fTup, Den.fLst, Den.fsCons, Den.fsNil, Den.fSetIx, Den.fAugIx, Den.fAug, Den.asInt, Den.items, Den.putItems, Den.sameKind, Den.fMut, Den.φApp, Den.φIns, Den.fCall, Den.fCallM, Den.fPar, Den.fPar3, Den.fAsg, Den.gNm, Den.gTp, Den.gsCons, Den.gsNil, Den.fSl, Den.fPt, Den.φSl, Den.add_int, Den.sub_int, Den.φNeg, Den.φCmp, Den.φIs, Den.φIsNot, Den.isNone, Den.len_lst, Den.len_tup, Den.φAbs, Den.φInt, Den.φTuple, Den.φList, Den.fdmt, Den.fdnp, L2.ixN, Den.eq_str, Den.ne_str, Den.eq_int, Den.ne_int, Den.ix_lst, Den.ix_tup, Den.at_zero, Den.at_one, Den.at_two, Den.at_three, Den.lim_lit, roomD, (way_eq hd hr).2]
    rw [ones] at q1
    obtain ⟨b, hne⟩ := ones_ne (n := (rs.filter fun r => isBarD r.way).length)
    refine ok_step (ρ1 := [.bg β, .va (.int m), .va (.list (rs.map roomD)), .va (.bool f), s4, s5, .va (.int (L : Int)), .no, .va (.int (if b then 1 else 0)), .no, .no]) (by simp [Den.Cd.denD, Den.fsStar, Den.f1, Den.fExt, Den.fRep, Den.fTr, Den.fCh, Den.opI, Den.opB, Den.opC, Den.opM, Den.bodyRun, Den.Ss.den, Den.S.den, Den.C.den, Den.C.denT, Den.Cs.denA, Den.Cs.denO, Den.Cs.denAT, Den.Cs.denOT, Den.Cs.denV, Den.Cs.denF, Den.Co.den, Den.Co.denT, Den.Ci.den, Den.Tg.den, Den.Tg.dens, Den.Tg.slots, Den.Tg.slotsL, Den.parL, Den.fSeq, Den.fRet, Den.fRetN, Den.fNop, Den.fBk, Den.fCt, Den.fSet, Den.fO, Den.fDrop, Den.SlOf, Den.notBg, Den.fIfS, Den.fIf, Den.fT, Den.truth, Den.fAnd, Den.fOr, Den.fNot, Den.fAndV, Den.fOrV, Den.fNotV, Den.isB, Den.fV, Den.fF, Den.frz, Den.half, Den.vw, Den.vws, Den.f1, Den.f2, Den.fL, Den.fM, Den.fVar, Den.fC, Den.fTup, Den.fLst, Den.fsCons, Den.fsNil, Den.fSetIx, Den.fAugIx, Den.fAug, Den.asInt, Den.items, Den.putItems, Den.sameKind, Den.fMut, Den.φApp, Den.φIns, Den.fCall, Den.fCallM, Den.fPar, Den.fPar3, Den.fAsg, Den.gNm, Den.gTp, Den.gsCons, Den.gsNil, Den.fSl, Den.fPt, Den.φSl, Den.add_int, Den.sub_int, Den.φNeg, Den.φCmp, Den.φIs, Den.φIsNot, Den.isNone, Den.len_lst, Den.len_tup, Den.φAbs, Den.φInt, Den.φTuple, Den.φList, Den.fdmt, Den.fdnp, L2.ixN, Den.eq_str, Den.ne_str, Den.eq_int, Den.ne_int, Den.ix_lst, Den.ix_tup, Den.at_zero, Den.at_one, Den.at_two, Den.at_three, Den.lim_lit, q1, hne]) ?_
    generalize hB : (if b then (1 : Int) else 0) = B
    have hB2 : 0 ≤ B ∧ B ≤ 1 := by
      rw [← hB]
      cases b <;> simp
    have q2 : (q_ldungeon_2).den g_ldungeon [.bg β, .va (.int m), .va (.list (rs.map roomD)), .va (.bool f), s4, s5, .va (.int (L : Int)), .no, .va (.int B), .no, .no] = some (.ls ((rs.filter fun _ => true).map fun r => .int r.ch), [.bg β, .va (.int m), .va (.list (rs.map roomD)), .va (.bool f), s4, s5, .va (.int (L : Int)), .no, .va (.int B), .no, .no]) := by
      unfold q_ldungeon_2
      refine lc_of (l := rs) (f := roomD) (ρ1 := [.bg β, .va (.int m), .va (.list (rs.map roomD)), .va (.bool f), s4, s5, .va (.int (L : Int)), .no, .va (.int B), .no, .no]) (by simp [Den.Cd.denD, Den.fsStar, Den.f1, Den.fExt, Den.fRep, Den.fTr, Den.fCh, Den.opI, Den.opB, Den.opC, Den.opM, Den.bodyRun, Den.Ss.den, Den.S.den, Den.C.den, Den.C.denT, Den.Cs.denA, Den.Cs.denO, Den.Cs.denAT, Den.Cs.denOT, Den.Cs.denV, Den.Cs.denF, Den.Co.den, Den.Co.denT, Den.Ci.den, Den.Tg.den, Den.Tg.dens, Den.Tg.slots, Den.Tg.slotsL, Den.parL, Den.fSeq, Den.fRet, Den.fRetN, Den.fNop, Den.fBk, Den.fCt, Den.fSet, Den.fO, Den.fDrop, Den.SlOf, Den.notBg, Den.fIfS, Den.fIf, Den.fT, Den.truth, Den.fAnd, Den.fOr, Den.fNot, Den.fAndV, Den.fOrV, Den.fNotV, Den.isB, Den.fV, Den.fF, Den.frz, Den.half, Den.vw, Den.vws, Den.f1, Den.f2, Den.fL, Den.fM, Den.fVar, Den.fC, Den.fTup, Den.fLst, Den.fsCons, Den.fsNil, Den.fSetIx, Den.fAugIx, Den.fAug, Den.asInt, Den.items, Den.putItems, Den.sameKind, Den.fMut, Den.φApp, Den.φIns, Den.fCall, Den.fCallM, Den.fPar, Den.fPar3, Den.fAsg, Den.gNm, Den.gTp, Den.gsCons, Den.gsNil, Den.fSl, Den.fPt, Den.φSl, Den.add_int, Den.sub_int, Den.φNeg, Den.φCmp, Den.φIs, Den.φIsNot, Den.isNone, Den.len_lst, Den.len_tup, Den.φAbs, Den.φInt, Den.φTuple, Den.φList, Den.fdmt, Den.fdnp, L2.ixN, Den.eq_str, Den.ne_str, Den.eq_int, Den.ne_int, Den.ix_lst, Den.ix_tup, Den.at_zero, Den.at_one, Den.at_two, Den.at_three, Den.lim_lit, fIt, its]) (lim_11 hl1) (by rfl) (fun r hr => ?_)
      exact ⟨[.bg β, .va (.int m), .va (.list (rs.map roomD)), .va (.bool f), s4, s5, .va (.int (L : Int)), .va (roomD r), .va (.int B), .no, .no], [.bg β, .va (.int m), .va (.list (rs.map roomD)), .va (.bool f), s4, s5, .va (.int (L : Int)), .va (roomD r), .va (.int B), .no, .no], by rfl, by rfl, fun _ => ⟨[.bg β, .va (.int m), .va (.list (rs.map roomD)), .va (.bool f), s4, s5, .va (.int (L : Int)), .va (roomD r), .va (.int B), .no, .no], by simp [Den.Cd.denD, Den.fsStar, Den.f1, Den.fExt, Den.fRep, Den.fTr, Den.fCh, Den.opI, Den.opB, Den.opC, Den.opM, Den.bodyRun, Den.Ss.den, Den.S.den, Den.C.den, Den.C.denT, Den.Cs.denA, Den.Cs.denO, Den.Cs.denAT, Den.Cs.denOT, Den.Cs.denV, Den.Cs.denF, Den.Co.den, Den.Co.denT, Den.Ci.den, Den.Tg.den, Den.Tg.dens, Den.Tg.slots, Den.Tg.slotsL, Den.parL, Den.fSeq, Den.fRet, Den.fRetN, Den.fNop, Den.fBk, Den.fCt, Den.fSet, Den.fO, Den.fDrop, Den.SlOf, Den.notBg, Den.fIfS, Den.fIf, Den.fT, Den.truth, Den.fAnd, Den.fOr, Den.fNot, Den.fAndV, Den.fOrV, Den.fNotV, Den.isB, Den.fV, Den.fF, Den.frz, Den.half, Den.vw, Den.vws, Den.f1, Den.f2, Den.fL, Den.fM, Den.fVar, Den.fC, Den.fTup, Den.fLst, Den.fsCons, Den.fsNil, Den.fSetIx, Den.fAugIx, Den.fAug, Den.asInt, Den.items, Den.putItems, Den.sameKind, Den.fMut, Den.φApp, Den.φIns, Den.fCall, Den.fCallM, Den.fPar, Den.fPar3, Den.fAsg, Den.gNm, Den.gTp, Den.gsCons, Den.gsNil, Den.fSl, Den.fPt, Den.φSl, Den.add_int, Den.sub_int, Den.φNeg, Den.φCmp, Den.φIs, Den.φIsNot, Den.isNone, Den.len_lst, Den.len_tup, Den.φAbs, Den.φInt, Den.φTuple, Den.φList, Den.fdmt, Den.fdnp, L2.ixN, Den.eq_str, Den.ne_str, Den.eq_int, Den.ne_int, Den.ix_lst, Den.ix_tup, Den.at_zero, Den.at_one, Den.at_two, Den.at_three, Den.lim_lit, roomD], by rfl⟩, fun _ => by rfl⟩
    rw [List.filter_eq_self.mpr (fun _ _ => rfl)] at q2
    generalize hM : (rs.map fun r => r.ch).sum = M
    refine ok_step (ρ1 := [.bg β, .va (.int m), .va (.list (rs.map roomD)), .va (.bool f), s4, s5, .va (.int (L : Int)), .no, .va (.int B), .va (.int M), .no]) (by simp [Den.Cd.denD, Den.fsStar, Den.f1, Den.fExt, Den.fRep, Den.fTr, Den.fCh, Den.opI, Den.opB, Den.opC, Den.opM, Den.bodyRun, Den.Ss.den, Den.S.den, Den.C.den, Den.C.denT, Den.Cs.denA, Den.Cs.denO, Den.Cs.denAT, Den.Cs.denOT, Den.Cs.denV, Den.Cs.denF, Den.Co.den, Den.Co.denT, Den.Ci.den, Den.Tg.den, Den.Tg.dens, Den.Tg.slots, Den.Tg.slotsL, Den.parL, Den.fSeq, Den.fRet, Den.fRetN, Den.fNop, Den.fBk, Den.fCt, Den.fSet, Den.fO, Den.fDrop, Den.SlOf, Den.notBg, Den.fIfS, Den.fIf, Den.fT, Den.truth, Den.fAnd, Den.fOr, Den.fNot, Den.fAndV, Den.fOrV, Den.fNotV, Den.isB, Den.fV, Den.fF, Den.frz, Den.half, Den.vw, Den.vws, Den.f1, Den.f2, Den.fL, Den.fM, Den.fVar, Den.fC, Den.fTup, Den.fLst, Den.fsCons, Den.fsNil, Den.fSetIx, Den.fAugIx, Den.fAug, Den.asInt, Den.items, Den.putItems, Den.sameKind, Den.fMut, Den.φApp, Den.φIns, Den.fCall, Den.fCallM, Den.fPar, Den.fPar3, Den.fAsg, Den.gNm, Den.gTp, Den.gsCons, Den.gsNil, Den.fSl, Den.fPt, Den.φSl, Den.add_int, Den.sub_int, Den.φNeg, Den.φCmp, Den.φIs, Den.φIsNot, Den.isNone, Den.len_lst, Den.len_tup, Den.φAbs, Den.φInt, Den.φTuple, Den.φList, Den.fdmt, Den.fdnp, L2.ixN, Den.eq_str, Den.ne_str, Den.eq_int, Den.ne_int, Den.ix_lst, Den.ix_tup, Den.at_zero, Den.at_one, Den.at_two, Den.at_three, Den.lim_lit, q2, φSum, ints_map, hM]) ?_
    -- at least one chest where a big key is needed
    have mid : Ok (Ss.den g_ldungeon (.cons (.ife (.cmp .lt (.var 9) (.var 8))
        (.cons (.par 2 9 (.bin .add (.lst (.cons (.tup (.cons .non (.cons .non (.cons (.int 1) .nil)))) .nil)) (.sl (.var 2) (.so (.int 1)) .no)) (.int 1)) .nil)
        .nil) .nil) [.bg β, .va (.int m), .va (.list (rs.map roomD)), .va (.bool f), s4, s5, .va (.int (L : Int)), .no, .va (.int B), .va (.int M), .no])
        (fun o ρ => o = .nx ∧ ∃ rs' s2 M', ρ = [.bg β, .va (.int m), s2, .va (.bool f), s4, s5, .va (.int (L : Int)), .no, .va (.int B), .va (.int M'), .no] ∧ (s2 = .va (.list (rs'.map roomD)) ∨ s2 = .ls (rs'.map roomD)) ∧ Dun rs') := by
      refine ok_cons (ok_if (v := decide (M < B)) (ρ1 := [.bg β, .va (.int m), .va (.list (rs.map roomD)), .va (.bool f), s4, s5, .va (.int (L : Int)), .no, .va (.int B), .va (.int M), .no]) (by simp [Den.Cd.denD, Den.fsStar, Den.f1, Den.fExt, Den.fRep, Den.fTr, Den.fCh, Den.opI, Den.opB, Den.opC, Den.opM, Den.bodyRun, Den.Ss.den, Den.S.den, Den.C.den, Den.C.denT, Den.Cs.denA, Den.Cs.denO, Den.Cs.denAT, Den.Cs.denOT, Den.Cs.denV, Den.Cs.denF, Den.Co.den, Den.Co.denT, Den.Ci.den, Den.Tg.den, Den.Tg.dens, Den.Tg.slots, Den.Tg.slotsL, Den.parL, Den.fSeq, Den.fRet, Den.fRetN, Den.fNop, Den.fBk, Den.fCt, Den.fSet, Den.fO, Den.fDrop, Den.SlOf, Den.notBg, Den.fIfS, Den.fIf, Den.fT, Den.truth, Den.fAnd, Den.fOr, Den.fNot, Den.fAndV, Den.fOrV, Den.fNotV, Den.isB, Den.fV, Den.fF, Den.frz, Den.half, Den.vw, Den.vws, Den.f1, Den.f2, Den.fL, Den.fM, Den.fVar, Den.fC, Den.fTup, Den.fLst, Den.fsCons, Den.fsNil, Den.fSetIx, Den.fAugIx, Den.fAug, Den.asInt, Den.items, Den.putItems, Den.sameKind, Den.fMut, Den.φApp, Den.φIns, Den.fCall, Den.fCallM, Den.fPar, Den.fPar3, Den.fAsg, Den.gNm, Den.gTp, Den.gsCons, Den.gsNil, Den.fSl, Den.fPt, Den.φSl, Den.add_int, Den.sub_int, Den.φNeg, Den.φCmp, Den.φIs, Den.φIsNot, Den.isNone, Den.len_lst, Den.len_tup, Den.φAbs, Den.φInt, Den.φTuple, Den.φList, Den.fdmt, Den.fdnp, L2.ixN, Den.eq_str, Den.ne_str, Den.eq_int, Den.ne_int, Den.ix_lst, Den.ix_tup, Den.at_zero, Den.at_one, Den.at_two, Den.at_three, Den.lim_lit]) (fun _ => ?_) (fun _ => ?_))
      · have ecut : cutD (rs.map roomD) (some 1) none = (rs.map roomD).tail := by
          unfold cutD
          rw [sIx_int (by omega), HT.sIx_none, List.length_map]
          have hl0 := hd.len0
          rw [show min (Int.toNat 1) rs.length = 1 by simp; omega, List.drop_one]
          exact List.take_of_length_le (by simp)
        have hadd : φAdd (.list [.tuple [.none, .none, .int 1]]) (.list (rs.map roomD).tail) = some (.ls (.tuple [.none, .none, .int 1] :: (rs.map roomD).tail)) := add_lst (by
          simp
          show _ ≤ 1000000
          omega)
        refine ok_step (ρ1 := [.bg β, .va (.int m), .ls ((⟨none, .none, 1⟩ :: rs.drop 1).map roomD), .va (.bool f), s4, s5, .va (.int (L : Int)), .no, .va (.int B), .va (.int 1), .no]) (by simp [Den.Cd.denD, Den.fsStar, Den.f1, Den.fExt, Den.fRep, Den.fTr, Den.fCh, Den.opI, Den.opB, Den.opC, Den.opM, Den.bodyRun, Den.Ss.den, Den.S.den, Den.C.den, Den.C.denT, Den.Cs.denA, Den.Cs.denO, Den.Cs.denAT, Den.Cs.denOT, Den.Cs.denV, Den.Cs.denF, Den.Co.den, Den.Co.denT, Den.Ci.den, Den.Tg.den, Den.Tg.dens, Den.Tg.slots, Den.Tg.slotsL, Den.parL, Den.fSeq, Den.fRet, Den.fRetN, Den.fNop, Den.fBk, Den.fCt, Den.fSet, Den.fO, Den.fDrop, Den.SlOf, Den.notBg, Den.fIfS, Den.fIf, Den.fT, Den.truth, Den.fAnd, Den.fOr, Den.fNot, Den.fAndV, Den.fOrV, Den.fNotV, Den.isB, Den.fV, Den.fF, Den.frz, Den.half, Den.vw, Den.vws, Den.f1, Den.f2, Den.fL, Den.fM, Den.fVar, Den.fC, Den.fTup, Den.fLst, Den.fsCons, Den.fsNil, Den.fSetIx, Den.fAugIx, Den.fAug, Den.asInt, Den.items, Den.putItems, Den.sameKind, Den.fMut, Den.φApp, Den.φIns, Den.fCall, Den.fCallM, Den.fPar, Den.fPar3, Den.fAsg, Den.gNm, Den.gTp, Den.gsCons, Den.gsNil, Den.fSl, Den.fPt, Den.φSl, Den.add_int, Den.sub_int, Den.φNeg, Den.φCmp, Den.φIs, Den.φIsNot, Den.isNone, Den.len_lst, Den.len_tup, Den.φAbs, Den.φInt, Den.φTuple, Den.φList, Den.fdmt, Den.fdnp, L2.ixN, Den.eq_str, Den.ne_str, Den.eq_int, Den.ne_int, Den.ix_lst, Den.ix_tup, Den.at_zero, Den.at_one, Den.at_two, Den.at_three, Den.lim_lit, ecut, hadd, roomD, pD]) ?_
        exact ok_nil (ok_nil ⟨rfl, _, _, _, rfl, .inr rfl, dun_first hd (by omega)⟩)
      · exact ok_nil (ok_nil ⟨rfl, rs, _, _, rfl, .inl rfl, hd⟩)
    obtain ⟨o, ρ5, em, rfl, rs', s2, M', rfl, hs2, hd'⟩ := mid
    have em2 : S.den g_ldungeon (.ife (.cmp .lt (.var 9) (.var 8))
        (.cons (.par 2 9 (.bin .add (.lst (.cons (.tup (.cons .non (.cons .non (.cons (.int 1) .nil)))) .nil)) (.sl (.var 2) (.so (.int 1)) .no)) (.int 1)) .nil)
        .nil) [.bg β, .va (.int m), .va (.list (rs.map roomD)), .va (.bool f), s4, s5, .va (.int (L : Int)), .no, .va (.int B), .va (.int M), .no] = some (.nx, [.bg β, .va (.int m), s2, .va (.bool f), s4, s5, .va (.int (L : Int)), .no, .va (.int B), .va (.int M'), .no]) := by
      simp only [Ss.den, fSeq, fNop] at em
      obtain ⟨x, e1, e2⟩ := Option.bind_eq_some_iff.mp em
      obtain ⟨o, ρ6⟩ := x
      cases o with
      | nx =>
        cases e2
        exact e1
      | bk => cases e2
      | ct => cases e2
      | rt r => cases e2
    refine ok_step em2 ?_
    obtain ⟨x8, β8, ⟨c8, rfl, hc8⟩, hb8, e8⟩ := some_p (things := [.int (L : Int), .int (L : Int), .int (L : Int), .int ((L : Int) + 1), .int (if 1 < (L : Int) then (L : Int) - 1 else 0)]) (fun x => ∃ c : Int, x = .int c ∧ 0 ≤ c ∧ c ≤ 12) hb (by simp) (by simp) (by
      intro x hx
      simp only [List.mem_cons, List.not_mem_nil, or_false] at hx
      rcases hx with rfl | rfl | rfl | rfl | rfl
      · exact ⟨_, rfl, by omega, by omega⟩
      · exact ⟨_, rfl, by omega, by omega⟩
      · exact ⟨_, rfl, by omega, by omega⟩
      · exact ⟨_, rfl, by omega, by omega⟩
      · exact ⟨_, rfl, by split <;> omega, by split <;> omega⟩)
    refine ok_step (ρ1 := [.bg β8, .va (.int m), s2, .va (.bool f), s4, s5, .va (.int (L : Int)), .no, .va (.int B), .va (.int M'), .va (.int c8)]) (by simp [Den.Cd.denD, Den.fsStar, Den.f1, Den.fExt, Den.fRep, Den.fTr, Den.fCh, Den.opI, Den.opB, Den.opC, Den.opM, Den.bodyRun, Den.Ss.den, Den.S.den, Den.C.den, Den.C.denT, Den.Cs.denA, Den.Cs.denO, Den.Cs.denAT, Den.Cs.denOT, Den.Cs.denV, Den.Cs.denF, Den.Co.den, Den.Co.denT, Den.Ci.den, Den.Tg.den, Den.Tg.dens, Den.Tg.slots, Den.Tg.slotsL, Den.parL, Den.fSeq, Den.fRet, Den.fRetN, Den.fNop, Den.fBk, Den.fCt, Den.fSet, Den.fO, Den.fDrop, Den.SlOf, Den.notBg, Den.fIfS, Den.fIf, Den.fT, Den.truth, Den.fAnd, Den.fOr, Den.fNot, Den.fAndV, Den.fOrV, Den.fNotV, Den.isB, Den.fV, Den.fF, Den.frz, Den.half, Den.vw, Den.vws, Den.f1, Den.f2, Den.fL, Den.fM, Den.fVar, Den.fC, Den.fTup, Den.fLst, Den.fsCons, Den.fsNil, Den.fSetIx, Den.fAugIx, Den.fAug, Den.asInt, Den.items, Den.putItems, Den.sameKind, Den.fMut, Den.φApp, Den.φIns, Den.fCall, Den.fCallM, Den.fPar, Den.fPar3, Den.fAsg, Den.gNm, Den.gTp, Den.gsCons, Den.gsNil, Den.fSl, Den.fPt, Den.φSl, Den.add_int, Den.sub_int, Den.φNeg, Den.φCmp, Den.φIs, Den.φIsNot, Den.isNone, Den.len_lst, Den.len_tup, Den.φAbs, Den.φInt, Den.φTuple, Den.φList, Den.fdmt, Den.fdnp, L2.ixN, Den.eq_str, Den.ne_str, Den.eq_int, Den.ne_int, Den.ix_lst, Den.ix_tup, Den.at_zero, Den.at_one, Den.at_two, Den.at_three, Den.lim_lit, g_ldungeon, mt_lsome, np_lsome, φMax, e8]) ?_
    generalize hk : (if (if 6 < (if M' - B < c8 then M' - B else c8) then 6 else (if M' - B < c8 then M' - B else c8)) > 0 then (if 6 < (if M' - B < c8 then M' - B else c8) then 6 else (if M' - B < c8 then M' - B else c8)) else (0 : Int)) = kk
    have hk2 : 0 ≤ kk ∧ kk ≤ 6 := by
      rw [← hk]
      repeat' split
      all_goals omega
    refine ok_last (r := .va (dunD rs' kk)) (ρ1 := [.bg β8, .va (.int m), s2, .va (.bool f), s4, s5, .va (.int (L : Int)), .no, .va (.int B), .va (.int M'), .va (.int c8)]) ?_ ⟨β8, rfl, rs', kk, rfl, hd', hk2.1, hk2.2, hb8⟩
    rcases hs2 with rfl | rfl <;> simp [Den.Cd.denD, Den.fsStar, Den.f1, Den.fExt, Den.fRep, Den.fTr, Den.fCh, Den.opI, Den.opB, Den.opC, Den.opM, Den.bodyRun, Den.Ss.den, Den.S.den, Den.C.den, Den.C.denT, Den.Cs.denA, Den.Cs.denO, Den.Cs.denAT, Den.Cs.denOT, Den.Cs.denV, Den.Cs.denF, Den.Co.den, Den.Co.denT, Den.Ci.den, Den.Tg.den, Den.Tg.dens, Den.Tg.slots, Den.Tg.slotsL, Den.parL, Den.fSeq, Den.fRet, Den.fRetN, Den.fNop, Den.fBk, Den.fCt, Den.fSet, Den.fO, Den.fDrop, Den.SlOf, Den.notBg, Den.fIfS, Den.fIf, Den.fT, Den.truth, Den.fAnd, Den.fOr, Den.fNot, Den.fAndV, Den.fOrV, Den.fNotV, Den.isB, Den.fV, Den.fF, Den.frz, Den.half, Den.vw, Den.vws, Den.f1, Den.f2, Den.fL, Den.fM, Den.fVar, Den.fC, Den.fTup, Den.fLst, Den.fsCons, Den.fsNil, Den.fSetIx, Den.fAugIx, Den.fAug, Den.asInt, Den.items, Den.putItems, Den.sameKind, Den.fMut, Den.φApp, Den.φIns, Den.fCall, Den.fCallM, Den.fPar, Den.fPar3, Den.fAsg, Den.gNm, Den.gTp, Den.gsCons, Den.gsNil, Den.fSl, Den.fPt, Den.φSl, Den.add_int, Den.sub_int, Den.φNeg, Den.φCmp, Den.φIs, Den.φIsNot, Den.isNone, Den.len_lst, Den.len_tup, Den.φAbs, Den.φInt, Den.φTuple, Den.φList, Den.fdmt, Den.fdnp, L2.ixN, Den.eq_str, Den.ne_str, Den.eq_int, Den.ne_int, Den.ix_lst, Den.ix_tup, Den.at_zero, Den.at_one, Den.at_two, Den.at_three, Den.lim_lit, φMax, φMin, dunD, ← hk]
end W

set_option autoImplicit false
namespace W
open PySem PySem.Spec L2 Den
def q_must_have_0 : C := .lc [("u", 7)] (.ix (.ix (.ix (.var 0) (.int 0)) (.var 7)) (.int 0)) (.nm 7) (.seq (.var 2)) .no
def q_must_have_1 : C := .lc [("u", 7)] (.ix (.ix (.ix (.var 0) (.int 0)) (.var 7)) (.int 1)) (.nm 7) (.seq (.var 2)) .no
def c_must_have : Ss :=
  (.cons (.asg (.tp [(.nm 4), (.nm 5), (.nm 6)]) (.ix (.ix (.var 0) (.int 0)) (.var 3)))
  (.cons (.ife (.or (.cons (.cmp .isin (.var 3) (.var 2)) (.cons (.cmp .isin (.var 3) q_must_have_0) .nil)))
    (.cons (.ret (.bool true)) .nil)
    .nil)
  (.cons (.ife (.and (.cons (.cmp .eq (.var 3) (.ix (.var 1) (.int 0))) (.cons (.cmp .isin (.str "bar") q_must_have_1) .nil)))
    (.cons (.ret (.bool true)) .nil)
    .nil)
  (.cons (.ret (.and (.cons (.cmp .isin (.var 4) (.var 2)) (.cons (.or (.cons (.cmp .eq (.var 5) (.str "open")) (.cons (.and (.cons (.cmp .eq (.var 5) (.str "bar")) (.cons (.cmp .isin (.ix (.var 1) (.int 0)) (.var 2)) .nil))) .nil))) .nil)))) .nil))))
def g_must_have : Gam := ⟨[], [], []⟩
def d_must_have : FD := fdOf g_must_have false 4 4 c_must_have
theorem mt_must_have : d_must_have.mt = false := nr rfl
theorem np_must_have : d_must_have.np = 4 := nr rfl
theorem r_must_have {β ds : List D} : d_must_have.run β ds = bodyRun false 4 (c_must_have.den g_must_have) β ds := by unfold d_must_have; exact fdrun
def q_closed_part_0 : C := .lc [("v", 5)] (.var 5) (.nm 5) (.rng1 (.blt .len (.cons (.ix (.var 0) (.int 0)) .nil))) (.so (.call 0 (.cons (.var 0) (.cons (.var 1) (.cons (.var 3) (.cons (.var 5) .nil))))))
def b_closed_part_0 : Ss :=
  (.cons (.set 3 (.var 4))
  (.cons (.set 4 (.blt .tuple (.cons q_closed_part_0 .nil))) .nil))
def c_closed_part : Ss :=
  (.cons (.set 3 (.tup .nil))
  (.cons (.set 4 (.ite (.cmp .isin (.int 0) (.var 2)) (.var 2) (.tupD (.one (.int 0) (.star (.var 2) .nil)))))
  (.cons (.whl (.cmp .ne (.var 3) (.var 4))
    b_closed_part_0)
  (.cons (.ret (.var 3)) .nil))))
def g_closed_part : Gam := ⟨[("must_have", d_must_have)], [], ["tuple", "range", "len"]⟩
def d_closed_part : FD := fdOf g_closed_part false 3 3 c_closed_part
theorem f_closed_part_0 : g_closed_part.fns[0]? = some (("must_have" : Str), d_must_have) := rfl
theorem mt_closed_part : d_closed_part.mt = false := nr rfl
theorem np_closed_part : d_closed_part.np = 3 := nr rfl
theorem r_closed_part {β ds : List D} : d_closed_part.run β ds = bodyRun false 3 (c_closed_part.den g_closed_part) β ds := by unfold d_closed_part; exact fdrun
def c_way_is_free : Ss :=
  (.cons (.set 5 (.ix (.ix (.ix (.var 0) (.int 0)) (.var 4)) (.int 1)))
  (.cons (.ife (.cmp .eq (.var 5) (.str "lock"))
    (.cons (.ret (.cmp .isin (.var 4) (.var 2))) .nil)
    .nil)
  (.cons (.ret (.or (.cons (.cmp .eq (.var 5) (.str "open")) (.cons (.cmp .isin (.ix (.var 1) (.int 0)) (.var 3)) .nil)))) .nil)))
def g_way_is_free : Gam := ⟨[], [], []⟩
def d_way_is_free : FD := fdOf g_way_is_free false 5 1 c_way_is_free
theorem mt_way_is_free : d_way_is_free.mt = false := nr rfl
theorem np_way_is_free : d_way_is_free.np = 5 := nr rfl
theorem r_way_is_free {β ds : List D} : d_way_is_free.run β ds = bodyRun false 1 (c_way_is_free.den g_way_is_free) β ds := by unfold d_way_is_free; exact fdrun
def q_opened_part_0 : C := .lc [("v", 5)] (.var 5) (.nm 5) (.seq (.call 0 (.cons (.var 0) (.cons (.var 3) .nil)))) (.so (.call 1 (.cons (.var 0) (.cons (.var 1) (.cons (.var 2) (.cons (.var 3) (.cons (.var 5) .nil)))))))
def b_opened_part_0 : Ss :=
  (.cons (.set 3 (.blt .tuple (.cons (.blt .sorted (.cons (.bin .add (.var 3) (.var 4)) .nil)) .nil)))
  (.cons (.set 4 (.blt .tuple (.cons q_opened_part_0 .nil))) .nil))
def c_opened_part : Ss :=
  (.cons (.set 3 (.tup .nil))
  (.cons (.set 4 (.tup (.cons (.int 0) .nil)))
  (.cons (.whl (.cmp .ne (.var 4) (.tup .nil))
    b_opened_part_0)
  (.cons (.ret (.var 3)) .nil))))
def g_opened_part : Gam := ⟨[("rim_of", d_rim_of), ("way_is_free", d_way_is_free)], [], ["tuple", "sorted"]⟩
def d_opened_part : FD := fdOf g_opened_part false 3 3 c_opened_part
theorem f_opened_part_0 : g_opened_part.fns[0]? = some (("rim_of" : Str), d_rim_of) := rfl
theorem f_opened_part_1 : g_opened_part.fns[1]? = some (("way_is_free" : Str), d_way_is_free) := rfl
theorem mt_opened_part : d_opened_part.mt = false := nr rfl
theorem np_opened_part : d_opened_part.np = 3 := nr rfl
theorem r_opened_part {β ds : List D} : d_opened_part.run β ds = bodyRun false 3 (c_opened_part.den g_opened_part) β ds := by unfold d_opened_part; exact fdrun
def q_lis_barred_0 : C := .lc [("room", 1)] (.int 1) (.nm 1) (.seq (.ix (.var 0) (.int 0))) (.so (.cmp .eq (.ix (.var 1) (.int 1)) (.str "bar")))
def c_lis_barred : Ss :=
  (.cons (.ret (.cmp .ne q_lis_barred_0 (.lst .nil))) .nil)
def g_lis_barred : Gam := ⟨[], [], []⟩
def d_lis_barred : FD := fdOf g_lis_barred false 1 1 c_lis_barred
theorem mt_lis_barred : d_lis_barred.mt = false := nr rfl
theorem np_lis_barred : d_lis_barred.np = 1 := nr rfl
theorem r_lis_barred {β ds : List D} : d_lis_barred.run β ds = bodyRun false 1 (c_lis_barred.den g_lis_barred) β ds := by unfold d_lis_barred; exact fdrun
def q_lparts_0 : C := .lc [("v", 3), ("room", 11)] (.var 3) (.tp [(.nm 3), (.nm 11)]) (.enum (.ix (.var 0) (.int 0))) (.so (.and (.cons (.cmp .eq (.ix (.var 11) (.int 1)) (.str "bar")) (.cons (.cmp .isin (.ix (.var 11) (.int 0)) (.var 8)) .nil))))
def q_lparts_1 : C := .lc [("v", 3)] (.var 3) (.nm 3) (.seq (.var 10)) (.so (.cmp .isin (.var 3) (.var 8)))
def b_lparts_0 : Ss :=
  (.cons (.ife (.or (.cons (.cmp .notin (.var 4) (.var 8)) (.cons (.cmp .ne (.var 5) (.str "open")) .nil)))
    (.cons (.exp (.mut .append 7 (.cons (.var 8) .nil))) .nil)
    .nil)
  (.cons (.ife (.cmp .isin (.var 4) (.var 8))
    (.cons (.exp (.mut .append 7 (.cons (.bin .add (.var 8) (.tup (.cons (.var 3) .nil))) .nil))) .nil)
    .nil) .nil))
def b_lparts_1 : Ss :=
  (.cons (.ife (.cmp .gt (.var 3) (.int 0))
    (.cons (.set 7 (.lst .nil))
    (.cons (.fors (.nm 8) (.seq (.var 2))
      b_lparts_0)
    (.cons (.set 2 (.var 7)) .nil)))
    .nil) .nil)
def b_lparts_2 : Ss :=
  (.cons (.set 10 q_lparts_0)
  (.cons (.set 12 q_lparts_1)
  (.cons (.ife (.cmp .eq (.var 12) (.ite (.cmp .isin (.var 1) (.var 8)) (.var 10) (.lst .nil)))
    (.cons (.exp (.mut .append 9 (.cons (.var 8) .nil))) .nil)
    .nil) .nil)))
def c_lparts : Ss :=
  (.cons (.set 2 (.lst (.cons (.tup (.cons (.int 0) .nil)) .nil)))
  (.cons (.fors (.tp [(.nm 3), (.tp [(.nm 4), (.nm 5), (.nm 6)])]) (.enum (.ix (.var 0) (.int 0)))
    b_lparts_1)
  (.cons (.set 9 (.lst .nil))
  (.cons (.fors (.nm 8) (.seq (.var 2))
    b_lparts_2)
  (.cons (.ret (.blt .sorted (.cons (.var 9) .nil))) .nil)))))
def g_lparts : Gam := ⟨[], [], ["enumerate", "sorted"]⟩
def d_lparts : FD := fdOf g_lparts false 2 11 c_lparts
theorem mt_lparts : d_lparts.mt = false := nr rfl
theorem np_lparts : d_lparts.np = 2 := nr rfl
theorem r_lparts {β ds : List D} : d_lparts.run β ds = bodyRun false 11 (c_lparts.den g_lparts) β ds := by unfold d_lparts; exact fdrun
def b_lway_has_bar_0 : Ss :=
  (.cons (.ife (.cmp .eq (.ix (.ix (.ix (.var 0) (.int 0)) (.var 1)) (.int 1)) (.str "bar"))
    (.cons (.ret (.bool true)) .nil)
    .nil)
  (.cons (.set 1 (.ix (.ix (.ix (.var 0) (.int 0)) (.var 1)) (.int 0))) .nil))
def c_lway_has_bar : Ss :=
  (.cons (.whl (.and (.cons (.cmp .isnot (.var 1) .non) (.cons (.cmp .gt (.var 1) (.int 0)) .nil)))
    b_lway_has_bar_0)
  (.cons (.ret (.bool false)) .nil))
def g_lway_has_bar : Gam := ⟨[], [], []⟩
def d_lway_has_bar : FD := fdOf g_lway_has_bar false 2 0 c_lway_has_bar
theorem mt_lway_has_bar : d_lway_has_bar.mt = false := nr rfl
theorem np_lway_has_bar : d_lway_has_bar.np = 2 := nr rfl
theorem r_lway_has_bar {β ds : List D} : d_lway_has_bar.run β ds = bodyRun false 0 (c_lway_has_bar.den g_lway_has_bar) β ds := by unfold d_lway_has_bar; exact fdrun
def q_lany_laid_0 : C := .lc [("v", 5)] (.var 5) (.nm 5) (.rng1 (.blt .len (.cons (.var 2) .nil))) (.so (.not (.call 1 (.cons (.var 1) (.cons (.var 5) .nil)))))
def q_lany_laid_1 : C := .lc [("room", 9)] (.var 9) (.nm 9) (.seq (.var 2)) (.so (.cmp .eq (.ix (.var 9) (.int 1)) (.str "lock")))
def b_lany_laid_0 : Ss :=
  (.cons (.set 5 (.ite (.and (.cons (.cmp .gt (.var 5) (.int 0)) (.cons (.cmp .eq (.callM 3 0 (.cons (.int 2) .nil)) (.int 0)) .nil))) (.ix (.ix (.var 2) (.var 5)) (.int 0)) (.var 5))) .nil)
def b_lany_laid_1 : Ss :=
  (.cons (.set 5 (.callM 3 0 (.cons (.blt .len (.cons (.var 2) .nil)) .nil)))
  (.cons (.fors (.nm 11) (.rng1 (.var 7))
    b_lany_laid_0)
  (.cons (.augIx 6 (.var 5) (.int 1)) .nil)))
def c_lany_laid : Ss :=
  (.cons (.par 2 3 (.ix (.var 1) (.int 0)) .non)
  (.cons (.ife (.call 0 (.cons (.var 1) .nil))
    (.cons (.set 4 q_lany_laid_0)
    (.cons (.set 3 (.callM 2 0 (.cons (.ite (.cmp .gt (.callM 3 0 (.cons (.int 4) .nil)) (.int 0)) (.var 4) (.lr (.blt .len (.cons (.var 2) .nil)))) .nil))) .nil))
    .nil)
  (.cons (.par 6 7 (.rep (.lst (.cons (.int 0) .nil)) (.blt .len (.cons (.var 2) .nil))) (.callM 3 0 (.cons (.int 4) .nil)))
  (.cons (.set 8 (.blt .len (.cons q_lany_laid_1 .nil)))
  (.cons (.fors (.nm 10) (.rng1 (.callM 2 0 (.cons (.lst (.cons (.var 8) (.cons (.var 8) (.cons (.bin .add (.var 8) (.int 1)) (.cons (.blt .max (.cons (.int 0) (.cons (.bin .sub (.var 8) (.int 1)) .nil))) (.cons (.callM 3 0 (.cons (.int 4) .nil)) .nil)))))) .nil)))
    b_lany_laid_1)
  (.cons (.ret (.tup (.cons (.var 3) (.cons (.blt .tuple (.cons (.var 6) .nil)) .nil)))) .nil))))))
def g_lany_laid : Gam := ⟨[("_law_is_barred", d_lis_barred), ("_law_way_has_bar", d_lway_has_bar), ("_law_some", d_lsome), ("_law_take", d_ltake)], [], ["range", "len", "list", "max", "tuple"]⟩
def d_lany_laid : FD := fdOf g_lany_laid true 2 10 c_lany_laid
theorem f_lany_laid_0 : g_lany_laid.fns[0]? = some (("_law_is_barred" : Str), d_lis_barred) := rfl
theorem f_lany_laid_1 : g_lany_laid.fns[1]? = some (("_law_way_has_bar" : Str), d_lway_has_bar) := rfl
theorem f_lany_laid_2 : g_lany_laid.fns[2]? = some (("_law_some" : Str), d_lsome) := rfl
theorem f_lany_laid_3 : g_lany_laid.fns[3]? = some (("_law_take" : Str), d_ltake) := rfl
theorem mt_lany_laid : d_lany_laid.mt = true := nr rfl
theorem np_lany_laid : d_lany_laid.np = 2 := nr rfl
theorem r_lany_laid {β ds : List D} : d_lany_laid.run β ds = bodyRun true 10 (c_lany_laid.den g_lany_laid) β ds := by unfold d_lany_laid; exact fdrun
def b_lcome_to_0 : Ss :=
  (.cons (.set 9 (.or (.cons (.cmp .eq (.var 7) (.str "open")) (.cons (.and (.cons (.cmp .eq (.var 7) (.str "lock")) (.cons (.cmp .isin (.var 5) (.var 2)) .nil))) (.cons (.and (.cons (.cmp .eq (.var 7) (.str "bar")) (.cons (.cmp .isin (.var 1) (.var 3)) .nil))) .nil)))))
  (.cons (.ife (.and (.cons (.cmp .notin (.var 5) (.var 3)) (.cons (.cmp .isin (.var 6) (.var 3)) (.cons (.var 9) .nil))))
    (.cons (.exp (.mut .append 3 (.cons (.var 5) .nil))) .nil)
    .nil) .nil))
def b_lcome_to_1 : Ss :=
  (.cons (.fors (.tp [(.nm 5), (.tp [(.nm 6), (.nm 7), (.nm 8)])]) (.enum (.ix (.var 0) (.int 0)))
    b_lcome_to_0) .nil)
def c_lcome_to : Ss :=
  (.cons (.set 3 (.lst (.cons (.int 0) .nil)))
  (.cons (.fors (.nm 4) (.rng1 (.blt .len (.cons (.ix (.var 0) (.int 0)) .nil)))
    b_lcome_to_1)
  (.cons (.ret (.blt .tuple (.cons (.blt .sorted (.cons (.var 3) .nil)) .nil))) .nil)))
def g_lcome_to : Gam := ⟨[], [], ["range", "len", "enumerate", "tuple", "sorted"]⟩
def d_lcome_to : FD := fdOf g_lcome_to false 3 7 c_lcome_to
theorem mt_lcome_to : d_lcome_to.mt = false := nr rfl
theorem np_lcome_to : d_lcome_to.np = 3 := nr rfl
theorem r_lcome_to {β ds : List D} : d_lcome_to.run β ds = bodyRun false 7 (c_lcome_to.den g_lcome_to) β ds := by unfold d_lcome_to; exact fdrun
end W

set_option autoImplicit false
/-! lots of numbers, their equality as data, lots of lots -/
namespace W
open PySem PySem.Spec L2 Den
def lot (n : Nat) (s : Nat → Bool) : List Nat := (List.range n).filter s
theorem mem_lot {n u : Nat} {s : Nat → Bool} : u ∈ lot n s ↔ u < n ∧ s u = true := by
  unfold lot
  rw [List.mem_filter, List.mem_range]
theorem lot_congr {n : Nat} {s t : Nat → Bool} (h : ∀ u, u < n → s u = t u) : lot n s = lot n t :=
  List.filter_congr fun u hu => h u (List.mem_range.mp hu)
theorem lot_inj {n : Nat} {s t : Nat → Bool} (h : lot n s = lot n t) {u : Nat} (hu : u < n) : s u = t u := by
  have a : u ∈ lot n s ↔ u ∈ lot n t := by rw [h]
  rw [mem_lot, mem_lot] at a
  cases hs : s u <;> cases ht : t u <;> simp_all
theorem lot_succ {n : Nat} {s : Nat → Bool} : lot (n + 1) s = lot n s ++ (if s n then [n] else []) := by
  unfold lot
  rw [List.range_succ, List.filter_append]
  cases h : s n <;> simp [List.filter_cons, h]
theorem lot_len {n : Nat} {s : Nat → Bool} : (lot n s).length ≤ n := by
  have := List.length_filter_le s (List.range n)
  rw [List.length_range] at this
  exact this
theorem lot_asc {n : Nat} {s : Nat → Bool} : (lot n s).Pairwise (· < ·) := List.Pairwise.filter _ List.pairwise_lt_range
theorem asc_nodup {l : List Nat} (h : l.Pairwise (· < ·)) : l.Nodup := h.imp fun h => by omega
theorem asc_eq {l m : List Nat} (hl : l.Pairwise (· < ·)) (hm : m.Pairwise (· < ·)) (h : ∀ u, u ∈ l ↔ u ∈ m) : l = m := by
  refine List.Perm.eq_of_pairwise (le := fun a b => a < b) (fun a b _ _ h1 h2 => by omega) hl hm ?_
  exact (List.perm_ext_iff_of_nodup (asc_nodup hl) (asc_nodup hm)).mpr h
theorem lot_of {n : Nat} {l : List Nat} (hl : l.Pairwise (· < ·)) (hb : ∀ u ∈ l, u < n) : l = lot n fun u => decide (u ∈ l) := asc_eq hl lot_asc fun u => by
  rw [mem_lot]
  simp only [decide_eq_true_eq]
  exact ⟨fun h => ⟨hb u h, h⟩, fun h => h.2⟩
/-! ### equality -/
theorem eqv_nat {a b : Nat} : PyData.eqv (nI a) (nI b) = decide (a = b) := by
  simp only [PyData.eqv, nI]
  by_cases h : a = b
  · simp [h]
  · have : ((a : Int) == (b : Int)) = false := by
      rw [beq_eq_false_iff_ne]
      omega
    simp [this, h]
theorem eqvAll_nats : ∀ {a b : List Nat}, PyData.eqvAll (nD a) (nD b) = decide (a = b)
  | [], [] => by simp [nD, PyData.eqvAll]
  | [], y :: ys => by simp [nD, PyData.eqvAll]
  | x :: xs, [] => by simp [nD, PyData.eqvAll]
  | x :: xs, y :: ys => by
    have ih := eqvAll_nats (a := xs) (b := ys)
    have e : ∀ (z : Nat) (zs : List Nat), nD (z :: zs) = nI z :: nD zs := fun _ _ => rfl
    rw [e, e, PyData.eqvAll, ih, eqv_nat]
    by_cases h : x = y <;> by_cases h2 : xs = ys <;> simp [h, h2]
def tN (a : List Nat) : D := .tuple (nD a)
theorem eqv_tN {a b : List Nat} : PyData.eqv (tN a) (tN b) = decide (a = b) := by
  simp only [tN, PyData.eqv, eqvAll_nats]
theorem sh_tN {a : List Nat} : SeqAt.shaped (tN a) = true := sh_nats.2
theorem eq_tN {a b : List Nat} : φEq (.tuple (nD a)) (.tuple (nD b)) = some (.va (.bool (decide (a = b)))) := by
  have q : φEq (.tuple (nD a)) (.tuple (nD b)) = some (.va (.bool (PyData.eqv (tN a) (tN b)))) := if_pos (.inl ⟨sh_tN, sh_tN⟩)
  rw [q, eqv_tN]
theorem ne_tN {a b : List Nat} : φNe (.tuple (nD a)) (.tuple (nD b)) = some (.va (.bool (!decide (a = b)))) := by
  have q : φNe (.tuple (nD a)) (.tuple (nD b)) = some (.va (.bool (!PyData.eqv (tN a) (tN b)))) := if_pos (.inl ⟨sh_tN, sh_tN⟩)
  rw [q, eqv_tN]
theorem eq_lN {a b : List Nat} : φEq (.list (nD a)) (.list (nD b)) = some (.va (.bool (decide (a = b)))) := by
  have q : φEq (.list (nD a)) (.list (nD b)) = some (.va (.bool (PyData.eqv (.list (nD a)) (.list (nD b))))) := if_pos (.inl ⟨sh_nats.1, sh_nats.1⟩)
  rw [q]
  simp only [PyData.eqv, eqvAll_nats]
theorem canLay_all {l : List D} (h : ∀ x ∈ l, x.canLay0 = true) : PyData.canLayAll0 l = true := by
  induction l with
  | nil => simp [PyData.canLayAll0]
  | cons x l ih =>
    rw [PyData.canLayAll0, h x List.mem_cons_self, ih fun y hy => h y (List.mem_cons_of_mem _ hy)]
    rfl
theorem sh_list {l : List D} (h : ∀ x ∈ l, x.canLay0 = true ∧ x.depth ≤ 60) : SeqAt.shaped (.list l) = true ∧ SeqAt.shaped (.tuple l) = true := by
  have a := canLay_all fun x hx => (h x hx).1
  have b : PyData.depthAll l ≤ 60 := depth_le fun x hx => (h x hx).2
  have e1 : PyData.depth (.list l) ≤ 64 := by
    simp only [PyData.depth]
    omega
  have e2 : PyData.depth (.tuple l) ≤ 64 := by
    simp only [PyData.depth]
    omega
  constructor
  · unfold SeqAt.shaped
    simp only [PyData.canLay0, a, Bool.true_and, decide_eq_true_eq]
    exact e1
  · unfold SeqAt.shaped
    simp only [PyData.canLay0, a, Bool.true_and, decide_eq_true_eq]
    exact e2
theorem tN_lay {a : List Nat} : (tN a).canLay0 = true ∧ (tN a).depth ≤ 1 := by
  refine ⟨SeqAt.canLay_of_shaped sh_tN, ?_⟩
  have b : PyData.depthAll (nD a) ≤ 0 := depth_le fun x hx => by
    obtain ⟨n, hn, rfl⟩ := List.mem_map.mp hx
    simp [PyData.depth, nI]
  simp only [tN, PyData.depth]
  omega
theorem sh_tNs {L : List (List Nat)} : SeqAt.shaped (.list (L.map tN)) = true ∧ SeqAt.shaped (.tuple (L.map tN)) = true := sh_list fun x hx => by
  obtain ⟨a, _, rfl⟩ := List.mem_map.mp hx
  have := tN_lay (a := a)
  exact ⟨this.1, by omega⟩
theorem any_tN {a : List Nat} {L : List (List Nat)} : ((L.map tN).any fun z => PyData.eqv z (tN a)) = decide (a ∈ L) := by
  rw [List.any_map]
  by_cases h : a ∈ L
  · rw [decide_eq_true h, List.any_eq_true]
    exact ⟨a, h, by simp [eqv_tN]⟩
  · rw [decide_eq_false h, List.any_eq_false]
    intro x hx
    have : x ≠ a := fun z => h (z ▸ hx)
    simp [eqv_tN, this]
theorem notin_tN {a : List Nat} {L : List (List Nat)} : φNotIn (.tuple (nD a)) (.list (L.map tN)) = some (.va (.bool (!decide (a ∈ L)))) := by
  have q : φNotIn (tN a) (.list (L.map tN)) = some (.va (.bool (!((L.map tN).any fun z => PyData.eqv z (tN a))))) := if_pos ⟨sh_tN, sh_tNs.1⟩
  rw [any_tN] at q
  exact q
theorem in_noneL {ns : List Nat} : φIn .none (.list (nD ns)) = some (.va (.bool false)) := by
  unfold φIn
  simp only [sh_nats.1, any_none]
  exact if_pos ⟨rfl, trivial⟩
def oin (o : Option Nat) (l : List Nat) : Bool := match o with
  | none => false
  | some p => decide (p ∈ l)
theorem in_pD {l : List Nat} : ∀ o : Option Nat, φIn (pD o) (.tuple (nD l)) = some (.va (.bool (oin o l)))
  | none => in_noneT
  | some p => in_natT
theorem in_pDL {l : List Nat} : ∀ o : Option Nat, φIn (pD o) (.list (nD l)) = some (.va (.bool (oin o l)))
  | none => in_noneL
  | some p => in_nat
theorem notin_noneT {ns : List Nat} : φNotIn .none (.tuple (nD ns)) = some (.va (.bool true)) := by
  unfold φNotIn
  simp only [sh_nats.2, any_none]
  exact if_pos ⟨rfl, trivial⟩
theorem notin_pD {l : List Nat} : ∀ o : Option Nat, φNotIn (pD o) (.tuple (nD l)) = some (.va (.bool (!oin o l)))
  | none => notin_noneT
  | some p => notin_natT
theorem notin_natL {p : Nat} {ns : List Nat} : φNotIn (.int (p : Int)) (.list (nD ns)) = some (.va (.bool (!decide (p ∈ ns)))) := by
  unfold φNotIn
  simp only [sh_nats.1, any_nat]
  exact if_pos ⟨rfl, trivial⟩
/-! ### sorted numbers -/
theorem le_nats {a b : Nat} : PySem.W.dataLe false (fun d => d) (nI a) (nI b) = decide (a ≤ b) := by
  have q := congrFun (congrFun (PySem.W.dataLe_int (fun n : Nat => (n : Int))) a) b
  have e : PySem.W.dataLe false (fun d => d) (nI a) (nI b) = PySem.W.dataLe false (fun n : Nat => PyData.int (n : Int)) a b := rfl
  rw [e, q]
  by_cases h : a ≤ b
  · have : (a : Int) ≤ (b : Int) := by omega
    simp [h]
  · have : ¬ (a : Int) ≤ (b : Int) := by omega
    simp [h]
theorem sortD_nats {ns : List Nat} : sortD (nD ns) = nD (ns.mergeSort fun a b => decide (a ≤ b)) := by
  unfold sortD nD
  exact (List.map_mergeSort (r := fun a b : Nat => decide (a ≤ b)) (s := PySem.W.dataLe false fun d => d) (f := nI) (l := ns) fun a _ b _ => (le_nats (a := a) (b := b)).symm).symm
theorem sortD_asc {ns ms : List Nat} (hm : ms.Pairwise (· < ·)) (hp : ns.Perm ms) : sortD (nD ns) = nD ms := by
  rw [sortD_nats]
  congr 1
  refine List.Perm.eq_of_pairwise (le := fun a b => a ≤ b) (fun a b _ _ h1 h2 => by omega) ?_ (hm.imp fun h => by omega) ((List.mergeSort_perm _ _).trans hp)
  have q := List.pairwise_mergeSort (le := fun a b : Nat => decide (a ≤ b)) (fun a b c h1 h2 => by simp at *; omega) (fun a b => by simp; omega) ns
  exact q.imp fun h => by simpa using h
theorem sortD_lot {n : Nat} {ns : List Nat} (hn : ns.Nodup) (hb : ∀ u ∈ ns, u < n) : sortD (nD ns) = nD (lot n fun u => decide (u ∈ ns)) := by
  refine sortD_asc lot_asc ((List.perm_ext_iff_of_nodup hn (asc_nodup lot_asc)).mpr fun u => ?_)
  rw [mem_lot]
  simp only [decide_eq_true_eq]
  exact ⟨fun h => ⟨hb u h, h⟩, fun h => h.2⟩
end W

set_option autoImplicit false
/-! parts, what is come to: plain mathematics -/
namespace W
open PySem PySem.Spec L2 Den
variable {rs : List Rm}
def isOpenD : D → Bool
  | .str x => x == ("open" : Str)
  | _ => false
def isOpn (rs : List Rm) (v : Nat) : Bool := match rs[v]? with
  | some r => isOpenD r.way
  | none => false
def isLck (rs : List Rm) (v : Nat) : Bool := match rs[v]? with
  | some r => isLockD r.way
  | none => false
def oinS (o : Option Nat) (s : Nat → Bool) : Bool := match o with
  | none => false
  | some p => s p
theorem oin_lot {n : Nat} {s : Nat → Bool} {o : Option Nat} (h : ∀ p, o = some p → p < n) : oin o (lot n s) = oinS o s := by
  cases o with
  | none => rfl
  | some p =>
    have hp := h p rfl
    show decide (p ∈ lot n s) = s p
    cases hs : s p with
    | true => exact decide_eq_true (mem_lot.mpr ⟨hp, hs⟩)
    | false =>
      refine decide_eq_false fun z => ?_
      rw [mem_lot, hs] at z
      cases z.2
theorem par_pos (h : Dun rs) {v p : Nat} (e : parOf rs v = some p) : 0 < v := by
  have := par_lt h e
  omega
theorem par_lt2 (h : Dun rs) {v p : Nat} (hv : v < rs.length) (e : parOf rs v = some p) : p < rs.length := by
  have := par_lt h e
  omega
theorem par_root (h : Dun rs) : parOf rs 0 = none := by
  have h0 := h.len0
  rw [parOf_at h0]
  exact (h.root _ (List.getElem?_eq_getElem h0)).1
theorem way_root (h : Dun rs) : isOpn rs 0 = false ∧ isLck rs 0 = false ∧ isBar rs 0 = false := by
  have h0 := h.len0
  have e := (h.root _ (List.getElem?_eq_getElem h0)).2
  unfold isOpn isLck isBar
  rw [List.getElem?_eq_getElem h0]
  simp only [e]
  exact ⟨rfl, rfl, rfl⟩
theorem way_one (h : Dun rs) {v : Nat} (hv : v < rs.length) (h0 : 0 < v) : (isOpn rs v = true ∧ isLck rs v = false ∧ isBar rs v = false) ∨ (isOpn rs v = false ∧ isLck rs v = true ∧ isBar rs v = false) ∨ (isOpn rs v = false ∧ isLck rs v = false ∧ isBar rs v = true) := by
  unfold isOpn isLck isBar
  have e := h.way v _ (List.getElem?_eq_getElem hv) h0
  rw [List.getElem?_eq_getElem hv]
  rcases e with e | e | e <;> simp only [e]
  · exact .inl ⟨by decide +kernel, by decide +kernel, by decide +kernel⟩
  · exact .inr (.inl ⟨by decide +kernel, by decide +kernel, by decide +kernel⟩)
  · exact .inr (.inr ⟨by decide +kernel, by decide +kernel, by decide +kernel⟩)
/-! ### counting -/
theorem cnt_mono {n : Nat} {g g' : Nat → Bool} (h : ∀ u, u < n → g u = true → g' u = true) : (lot n g).length ≤ (lot n g').length ∧ ((lot n g).length = (lot n g').length → ∀ u, u < n → g u = g' u) := by
  induction n with
  | zero => exact ⟨by simp [lot], fun _ u hu => by omega⟩
  | succ n ih =>
    obtain ⟨i1, i2⟩ := ih fun u hu => h u (by omega)
    have hn := h n (by omega)
    rw [lot_succ, lot_succ, List.length_append, List.length_append]
    cases a : g n <;> cases b : g' n <;> simp [a, b] at hn ⊢
    · exact ⟨i1, fun e u hu => by
        by_cases z : u = n
        · rw [z, a, b]
        · exact i2 e u (by omega)⟩
    · exact ⟨by omega, fun e => by omega⟩
    · exact ⟨i1, fun e u hu => by
        by_cases z : u = n
        · rw [z, a, b]
        · exact i2 e u (by omega)⟩
theorem cnt_lt {n : Nat} {g g' : Nat → Bool} (h : ∀ u, u < n → g u = true → g' u = true) (hne : lot n g ≠ lot n g') : (lot n g).length < (lot n g').length := by
  obtain ⟨a, b⟩ := cnt_mono h
  rcases Nat.lt_or_eq_of_le a with z | z
  · exact z
  · exact absurd (lot_congr (b z)) hne
theorem nodup_len {n : Nat} {l : List Nat} (hn : l.Nodup) (hb : ∀ u ∈ l, u < n) : l.length = (lot n fun u => decide (u ∈ l)).length :=
  ((List.perm_ext_iff_of_nodup hn (asc_nodup lot_asc)).mpr fun u => by
    rw [mem_lot]
    simp only [decide_eq_true_eq]
    exact ⟨fun h => ⟨hb u h, h⟩, fun h => h.2⟩).length_eq
/-! ### parts -/
structure IsP (rs : List Rm) (big : Option Nat) (s : Nat → Bool) : Prop where
  root : s 0 = true
  par : ∀ v p, v < rs.length → parOf rs v = some p → s v = true → s p = true
  opn : ∀ v p, v < rs.length → parOf rs v = some p → isOpn rs v = true → s p = true → s v = true
  bar : ∀ v p, v < rs.length → parOf rs v = some p → isBar rs v = true → s p = true → s v = oinS big s
def ext (rs : List Rm) (v : Nat) (part : List Nat) : List (List Nat) :=
  (if (!oin (parOf rs v) part || !isOpn rs v) = true then [part] else []) ++ (if oin (parOf rs v) part = true then [part ++ [v]] else [])
def grow (rs : List Rm) : Nat → List (List Nat)
  | 0 => [[0]]
  | m + 1 => (grow rs m).flatMap (ext rs (m + 1))
def Gr (rs : List Rm) (m : Nat) (s : Nat → Bool) : Prop := s 0 = true ∧ ∀ v p, v ≤ m → parOf rs v = some p → (s v = true → s p = true) ∧ (isOpn rs v = true → s p = true → s v = true)
theorem mem_grow (h : Dun rs) : ∀ {m : Nat} {part : List Nat}, m < rs.length → (part ∈ grow rs m ↔ ∃ s, part = lot (m + 1) s ∧ Gr rs m s)
  | 0, part, hm => by
    rw [grow, List.mem_singleton]
    constructor
    · rintro rfl
      refine ⟨fun u => u == 0, by decide +kernel, rfl, fun v p hv e => ?_⟩
      have := par_pos h e
      omega
    · rintro ⟨s, rfl, h0, _⟩
      rw [lot_succ, h0]
      simp [lot]
  | m + 1, part, hm => by
    obtain ⟨q, eq, hq, _⟩ := par_some h hm (by omega)
    have ho : ∀ s : Nat → Bool, oin (parOf rs (m + 1)) (lot (m + 1) s) = s q := fun s => by
      rw [oin_lot (n := m + 1) (fun p e => by rw [eq] at e; cases e; exact hq), eq]
      rfl
    rw [grow, List.mem_flatMap]
    constructor
    · rintro ⟨old, hold, hx⟩
      obtain ⟨s, rfl, h0, hs⟩ := (mem_grow h (by omega)).mp hold
      unfold ext at hx
      rw [ho] at hx
      rcases List.mem_append.mp hx with hx | hx
      · by_cases hc : (!s q || !isOpn rs (m + 1)) = true
        · rw [if_pos hc, List.mem_singleton] at hx
          subst hx
          refine ⟨fun u => if u = m + 1 then false else s u, ?_, by simpa using h0, fun v p hv e => ?_⟩
          · rw [lot_succ (n := m + 1)]
            simp only [if_true, Bool.false_eq_true, if_false, List.append_nil]
            exact lot_congr fun u hu => by
              have : u ≠ m + 1 := by omega
              simp [this]
          · have hpv := par_lt h e
            have hp1 : p ≠ m + 1 := by omega
            by_cases hv1 : v = m + 1
            · subst hv1
              rw [eq] at e
              cases e
              simp only [if_true, hp1, if_false]
              refine ⟨(fun z => by cases z), fun a b => ?_⟩
              simp [a, b] at hc
            · simp only [hv1, hp1, if_false]
              exact hs v p (by omega) e
        · rw [if_neg hc] at hx
          cases hx
      · by_cases hc : s q = true
        · rw [if_pos hc, List.mem_singleton] at hx
          subst hx
          refine ⟨fun u => if u = m + 1 then true else s u, ?_, by simpa using h0, fun v p hv e => ?_⟩
          · rw [lot_succ (n := m + 1)]
            simp only [if_true]
            congr 1
            exact lot_congr fun u hu => by
              have : u ≠ m + 1 := by omega
              simp [this]
          · have hpv := par_lt h e
            have hp1 : p ≠ m + 1 := by omega
            by_cases hv1 : v = m + 1
            · subst hv1
              rw [eq] at e
              cases e
              simp [hp1, hc]
            · simp only [hv1, hp1, if_false]
              exact hs v p (by omega) e
        · rw [if_neg hc] at hx
          cases hx
    · rintro ⟨s, rfl, h0, hs⟩
      refine ⟨lot (m + 1) s, (mem_grow h (by omega)).mpr ⟨s, rfl, h0, fun v p hv e => hs v p (by omega) e⟩, ?_⟩
      obtain ⟨h1, h2⟩ := hs (m + 1) q (Nat.le_refl _) eq
      unfold ext
      rw [ho, lot_succ (n := m + 1)]
      cases a : s (m + 1) with
      | true => simp [h1 a]
      | false =>
        have : (!s q || !isOpn rs (m + 1)) = true := by
          cases b : s q <;> cases c : isOpn rs (m + 1) <;> simp
          have := h2 c b
          rw [a] at this
          cases this
        simp [this]
def barred (rs : List Rm) (part : List Nat) : List Nat := (List.range rs.length).filter fun v => isBar rs v && oin (parOf rs v) part
def keepB (rs : List Rm) (big : Option Nat) (part : List Nat) : Bool := decide ((barred rs part).filter (fun v => decide (v ∈ part)) = if oin big part = true then barred rs part else [])
def partsL (rs : List Rm) (big : Option Nat) : List (List Nat) := (grow rs (rs.length - 1)).filter (keepB rs big)
theorem mem_parts (h : Dun rs) {big : Option Nat} (hb : ∀ b, big = some b → b < rs.length) {part : List Nat} : part ∈ partsL rs big ↔ ∃ s, part = lot rs.length s ∧ IsP rs big s := by
  have hl := h.len0
  have hn : rs.length - 1 + 1 = rs.length := by omega
  unfold partsL
  rw [List.mem_filter, mem_grow h (by omega), hn]
  have key : ∀ s : Nat → Bool, keepB rs big (lot rs.length s) = true ↔ ∀ v p, v < rs.length → parOf rs v = some p → isBar rs v = true → s p = true → s v = oinS big s := fun s => by
    unfold keepB
    rw [decide_eq_true_eq, oin_lot hb]
    have hin : ∀ v, v ∈ barred rs (lot rs.length s) ↔ v < rs.length ∧ isBar rs v = true ∧ oinS (parOf rs v) s = true := fun v => by
      unfold barred
      rw [List.mem_filter, List.mem_range, Bool.and_eq_true]
      constructor
      · rintro ⟨a, b, c⟩
        rw [oin_lot (fun p e => par_lt2 h a e)] at c
        exact ⟨a, b, c⟩
      · rintro ⟨a, b, c⟩
        rw [oin_lot (fun p e => par_lt2 h a e)]
        exact ⟨a, b, c⟩
    cases hbg : oinS big s with
    | true =>
      simp only [if_true]
      rw [List.filter_eq_self]
      constructor
      · intro hh v p hv e b c
        have := hh v ((hin v).mpr ⟨hv, b, by rw [e]; exact c⟩)
        exact (mem_lot.mp (of_decide_eq_true this)).2
      · intro hh v hv
        obtain ⟨a, b, c⟩ := (hin v).mp hv
        cases e : parOf rs v with
        | none => rw [e] at c; cases c
        | some p =>
          rw [e] at c
          exact decide_eq_true (mem_lot.mpr ⟨a, hh v p a e b c⟩)
    | false =>
      simp only [Bool.false_eq_true, if_false]
      rw [List.filter_eq_nil_iff]
      constructor
      · intro hh v p hv e b c
        have := hh v ((hin v).mpr ⟨hv, b, by rw [e]; exact c⟩)
        cases hs : s v with
        | false => rfl
        | true => exact absurd (decide_eq_true (mem_lot.mpr ⟨hv, hs⟩)) this
      · intro hh v hv
        obtain ⟨a, b, c⟩ := (hin v).mp hv
        cases e : parOf rs v with
        | none => rw [e] at c; cases c
        | some p =>
          rw [e] at c
          have := hh v p a e b c
          intro z
          have z2 := (mem_lot.mp (of_decide_eq_true z)).2
          rw [this] at z2
          cases z2
  constructor
  · rintro ⟨⟨s, rfl, h0, hs⟩, hk⟩
    exact ⟨s, rfl, h0, fun v p hv e => (hs v p (by omega) e).1, fun v p hv e => (hs v p (by omega) e).2, (key s).mp hk⟩
  · rintro ⟨s, rfl, hp⟩
    exact ⟨⟨s, rfl, hp.root, fun v p hv e => ⟨hp.par v p (by omega) e, hp.opn v p (by omega) e⟩⟩, (key s).mpr hp.bar⟩
/-! ### the least part that has some rooms -/
def mustB (rs : List Rm) (big : Option Nat) (S : List Nat) (v : Nat) : Bool :=
  (decide (v ∈ S) || S.any fun u => decide (parOf rs u = some v)) || ((decide (big = some v) && S.any (isBar rs)) || (oin (parOf rs v) S && (isOpn rs v || (isBar rs v && oin big S))))
theorem must_up {big : Option Nat} {S : List Nat} {v : Nat} (h : v ∈ S) : mustB rs big S v = true := by
  unfold mustB
  simp [h]
theorem must_in (h : Dun rs) {big : Option Nat} (hb : ∀ b, big = some b → b < rs.length) {g t : Nat → Bool} (ht : IsP rs big t) (hg : ∀ v, v < rs.length → g v = true → t v = true) {v : Nat} (hv : v < rs.length) (hm : mustB rs big (lot rs.length g) v = true) : t v = true := by
  have ing : ∀ u, u ∈ lot rs.length g → t u = true := fun u hu => hg u (mem_lot.mp hu).1 (mem_lot.mp hu).2
  have oing : ∀ o : Option Nat, oin o (lot rs.length g) = true → oinS o t = true := fun o ho => by
    cases o with
    | none => cases ho
    | some p => exact ing p (of_decide_eq_true ho)
  unfold mustB at hm
  simp only [Bool.or_eq_true, Bool.and_eq_true, decide_eq_true_eq, List.any_eq_true] at hm
  rcases hm with (hm | ⟨u, hu, e⟩) | ⟨e, u, hu, hbar⟩ | ⟨hp, hw⟩
  · exact ing v hm
  · exact ht.par u v (mem_lot.mp hu).1 e (ing u hu)
  · have hul := (mem_lot.mp hu).1
    have hu0 : 0 < u := by
      rcases Nat.eq_zero_or_pos u with z | z
      · subst z
        rw [(way_root h).2.2] at hbar
        cases hbar
      · exact z
    obtain ⟨p, ep, _, _⟩ := par_some h hul hu0
    have hup := ht.par u p hul ep (ing u hu)
    have := ht.bar u p hul ep hbar hup
    rw [ing u hu, e] at this
    exact this.symm
  · cases ep : parOf rs v with
    | none => rw [ep] at hp; cases hp
    | some p =>
      rw [ep] at hp
      have hpt := oing _ hp
      rcases hw with hw | ⟨hw, hbig⟩
      · exact ht.opn v p hv ep hw hpt
      · rw [ht.bar v p hv ep hw hpt]
        exact oing _ hbig
theorem must_fix (h : Dun rs) {big : Option Nat} (hb : ∀ b, big = some b → b < rs.length) (hbn : big = none → ∀ v, v < rs.length → isBar rs v = false) {g : Nat → Bool} (h0 : g 0 = true) (hf : ∀ v, v < rs.length → mustB rs big (lot rs.length g) v = g v) : IsP rs big g := by
  have m : ∀ {u}, u < rs.length → g u = true → u ∈ lot rs.length g := fun a b => mem_lot.mpr ⟨a, b⟩
  refine ⟨h0, fun v p hv e hg => ?_, fun v p hv e ho hp => ?_, fun v p hv e hbar hp => ?_⟩
  · have hpl := par_lt2 h hv e
    rw [← hf p hpl]
    unfold mustB
    have : ((lot rs.length g).any fun u => decide (parOf rs u = some p)) = true := List.any_eq_true.mpr ⟨v, m hv hg, decide_eq_true e⟩
    simp [this]
  · have hpl := par_lt2 h hv e
    rw [← hf v hv]
    unfold mustB
    have : oin (parOf rs v) (lot rs.length g) = true := by
      rw [e]
      exact decide_eq_true (m hpl hp)
    simp [this, ho]
  · have hpl := par_lt2 h hv e
    cases hbg : oinS big g with
    | true =>
      rw [← hf v hv]
      unfold mustB
      have h1 : oin (parOf rs v) (lot rs.length g) = true := by
        rw [e]
        exact decide_eq_true (m hpl hp)
      have h2 : oin big (lot rs.length g) = true := by
        rw [oin_lot hb]
        exact hbg
      simp [h1, h2, hbar]
    | false =>
      cases hg : g v with
      | false => rfl
      | true =>
        cases big with
        | none => rw [hbn rfl v hv] at hbar; cases hbar
        | some b =>
          have hbl := hb b rfl
          have h1 : ((lot rs.length g).any (isBar rs)) = true := List.any_eq_true.mpr ⟨v, m hv hg, hbar⟩
          have h2 : g b = true := by
            rw [← hf b hbl]
            unfold mustB
            simp [h1]
          have h3 : g b = false := hbg
          rw [h2] at h3
          cases h3
/-! ### what is come to -/
def frS (rs : List Rm) (big : Option Nat) (lk : List Nat) (s : Nat → Bool) (v : Nat) : Bool := isOpn rs v || (isLck rs v && decide (v ∈ lk)) || (isBar rs v && oinS big s)
def Cl (rs : List Rm) (big : Option Nat) (lk : List Nat) (s : Nat → Bool) : Prop := s 0 = true ∧ ∀ v p, v < rs.length → parOf rs v = some p → s p = true → frS rs big lk s v = true → s v = true
def Lst (rs : List Rm) (big : Option Nat) (lk : List Nat) (s : Nat → Bool) : Prop := Cl rs big lk s ∧ ∀ t, Cl rs big lk t → ∀ v, v < rs.length → s v = true → t v = true
theorem oinS_mono {big : Option Nat} {s t : Nat → Bool} (hb : ∀ b, big = some b → b < rs.length) (h : ∀ v, v < rs.length → s v = true → t v = true) (e : oinS big s = true) : oinS big t = true := by
  cases big with
  | none => cases e
  | some b => exact h b (hb b rfl) e
theorem fr_mono {big : Option Nat} {lk : List Nat} {s t : Nat → Bool} {v : Nat} (hb : ∀ b, big = some b → b < rs.length) (h : ∀ v, v < rs.length → s v = true → t v = true) (e : frS rs big lk s v = true) : frS rs big lk t v = true := by
  unfold frS at *
  simp only [Bool.or_eq_true, Bool.and_eq_true] at *
  rcases e with e | ⟨e1, e2⟩
  · exact .inl e
  · exact .inr ⟨e1, oinS_mono hb h e2⟩
theorem lst_one {big : Option Nat} {lk : List Nat} {s t : Nat → Bool} (hs : Lst rs big lk s) (ht : Lst rs big lk t) : lot rs.length s = lot rs.length t := lot_congr fun u hu => by
  have a := hs.2 t ht.1 u hu
  have b := ht.2 s hs.1 u hu
  cases c : s u <;> cases d : t u <;> simp_all
theorem lst_part (h : Dun rs) {big : Option Nat} {lk : List Nat} {s : Nat → Bool} (hb : ∀ b, big = some b → b < rs.length) (hs : Lst rs big lk s) : IsP rs big s := by
  obtain ⟨⟨h0, hc⟩, hm⟩ := hs
  -- each room but the first one was come to from its parent
  have why : ∀ v p, v < rs.length → parOf rs v = some p → s v = true → s p = true ∧ frS rs big lk s v = true := fun v p hv e hsv => by
    have q := hm (fun u => s u && (match parOf rs u with
      | none => true
      | some p => s p && frS rs big lk s u)) ⟨by simp [h0, par_root h], fun u q hu eu hq hf => by
        simp only [Bool.and_eq_true] at hq
        have hf2 : frS rs big lk s u = true := fr_mono hb (fun w hw z => by
          simp only [Bool.and_eq_true] at z
          exact z.1) hf
        simp only [eu, hq.1, hf2, hc u q hu eu hq.1 hf2, Bool.and_self]⟩ v hv hsv
    simp only [e, Bool.and_eq_true] at q
    exact q.2
  refine ⟨h0, fun v p hv e hsv => (why v p hv e hsv).1, fun v p hv e ho hp => hc v p hv e hp (by unfold frS; simp [ho]), fun v p hv e hbar hp => ?_⟩
  have h1 := way_one h hv (par_pos h e)
  rw [hbar] at h1
  have h2 : isOpn rs v = false ∧ isLck rs v = false := by
    rcases h1 with ⟨_, _, z⟩ | ⟨_, _, z⟩ | ⟨a, b, _⟩
    · cases z
    · cases z
    · exact ⟨a, b⟩
  have ef : frS rs big lk s v = oinS big s := by
    unfold frS
    simp [h2.1, h2.2, hbar]
  cases hbg : oinS big s with
  | true => exact hc v p hv e hp (by rw [ef]; exact hbg)
  | false =>
    cases hsv : s v with
    | false => rfl
    | true =>
      have := (why v p hv e hsv).2
      rw [ef, hbg] at this
      cases this
end W

set_option autoImplicit false
/-! comprehensions by their items; drawn laids -/
namespace W
open PySem PySem.Spec L2 Den
variable {rs : List Rm} {k : Int}
def isBgB : Sl → Bool
  | .bg _ => true
  | _ => false
/-- no list lent from without -/
def Nb (s : Sl) : Prop := isBgB s = false
theorem nb_at {ρ : Lo} {i : Nat} {s : Sl} (p : Nb s) (e : ρ[i]? = some s) : notBg ρ i = true := by
  unfold notBg
  rw [e]
  cases s <;> first | rfl | cases p
section
variable {Γ : Gam} {it : Ci} {ifs : Co} {elt c : C} {t : Tg} {ρ ρ1 ρ2 : Lo} {i j : Nat} {s s2 : Sl}
theorem set_get {x : Sl} (h : ρ[i]? = some s) : (ρ.set i x)[i]? = some x := by
  have hl := (List.getElem?_eq_some_iff.mp h).1
  exact List.getElem?_set_self hl
theorem set_back (h : ρ[i]? = some s) {x : Sl} : (ρ.set i x).set i s = ρ := by
  obtain ⟨hl, e⟩ := List.getElem?_eq_some_iff.mp h
  rw [List.set_set, ← e, List.set_getElem_self]
theorem nm_ok {d : D} (p : Nb s) (e : ρ[i]? = some s) (q : ρ.set i (.va d) = ρ2) : (Tg.nm i).den d ρ = some ρ2 := by
  simp only [Tg.den, gNm, nb_at p e, if_true, q]
/-- one name -/
theorem lc1 {α : Type} {f g : α → D} {b : α → Bool} {l : List α} {x : Str} (hi : it.den Γ ρ = some (l.map f, ρ1)) (hl : l.length ≤ lim) (hs : ρ1[i]? = some s)
    (ht : ∀ a ∈ l, ifs.denT Γ (ρ1.set i (.va (f a))) = some (b a, ρ1.set i (.va (f a))))
    (he : ∀ a ∈ l, b a = true → fF (elt.den Γ) (ρ1.set i (.va (f a))) = some (g a, ρ1.set i (.va (f a)))) :
    (C.lc [(x, i)] elt (.nm i) it ifs).den Γ ρ = some (.ls ((l.filter b).map g), ρ1) := by
  have w : wipeL ρ1 (([(x, i)] : List (Str × Nat)).map (·.2)) = ρ1.set i .no := rfl
  refine lc_of (l := l) (f := f) (g := g) (ρ1 := ρ1) hi hl ?_ (fun a ha => ?_)
  · rw [w]
    show (restL ρ1 (ρ1.set i .no) []).set i (ρ1[i]?.getD .no) = ρ1
    rw [hs]
    exact set_back hs
  · rw [w]
    have e : (Tg.nm i).den (f a) (ρ1.set i .no) = some (ρ1.set i (.va (f a))) := nm_ok (s := .no) rfl (set_get hs) (List.set_set ..)
    have bk : wipeL (ρ1.set i (.va (f a))) (([(x, i)] : List (Str × Nat)).map (·.2)) = ρ1.set i .no := List.set_set ..
    exact ⟨_, _, e, ht a ha, fun hb => ⟨_, he a ha hb, bk⟩, fun _ => bk⟩
/-- two names, of pairs -/
theorem lc2 {α : Type} {f1 f2 g : α → D} {b : α → Bool} {l : List α} {x y : Str} (hij : i ≠ j) (hi : it.den Γ ρ = some (l.map (fun a => .tuple [f1 a, f2 a]), ρ1)) (hl : l.length ≤ lim) (hs : ρ1[i]? = some s) (hs2 : ρ1[j]? = some s2)
    (ht : ∀ a ∈ l, ifs.denT Γ ((ρ1.set i (.va (f1 a))).set j (.va (f2 a))) = some (b a, (ρ1.set i (.va (f1 a))).set j (.va (f2 a))))
    (he : ∀ a ∈ l, b a = true → fF (elt.den Γ) ((ρ1.set i (.va (f1 a))).set j (.va (f2 a))) = some (g a, (ρ1.set i (.va (f1 a))).set j (.va (f2 a)))) :
    (C.lc [(x, i), (y, j)] elt (.tp [.nm i, .nm j]) it ifs).den Γ ρ = some (.ls ((l.filter b).map g), ρ1) := by
  have w : ∀ ρ : Lo, wipeL ρ (([(x, i), (y, j)] : List (Str × Nat)).map (·.2)) = (ρ.set j .no).set i .no := fun _ => rfl
  have i1 : ∀ z, (ρ1.set j z)[i]? = some s := fun z => by rw [List.getElem?_set_ne (Ne.symm hij)]; exact hs
  refine lc_of (l := l) (f := fun a => .tuple [f1 a, f2 a]) (g := g) (ρ1 := ρ1) hi hl ?_ (fun a ha => ?_)
  · rw [w]
    show ((restL ρ1 ((ρ1.set j .no).set i .no) []).set j (ρ1[j]?.getD .no)).set i (ρ1[i]?.getD .no) = ρ1
    rw [hs, hs2]
    show (((ρ1.set j .no).set i .no).set j s2).set i s = ρ1
    have e1 : ((ρ1.set j .no).set i .no).set j s2 = ρ1.set i .no := by
      rw [List.set_comm _ _ hij (l := ρ1.set j .no), set_back hs2]
    rw [e1, set_back hs]
  · rw [w]
    have e1 : (((ρ1.set j .no).set i .no).set i (.va (f1 a))).set j (.va (f2 a)) = (ρ1.set i (.va (f1 a))).set j (.va (f2 a)) := by
      rw [List.set_set, List.set_comm _ _ (Ne.symm hij) (l := ρ1), List.set_set]
    have g1 : ((ρ1.set j .no).set i .no)[i]? = some .no := set_get (i1 _)
    have g2 : (((ρ1.set j .no).set i .no).set i (.va (f1 a)))[j]? = some .no := by
      rw [List.set_set, List.getElem?_set_ne hij]
      exact set_get hs2
    have e : (Tg.tp [.nm i, .nm j]).den (.tuple [f1 a, f2 a]) ((ρ1.set j .no).set i .no) = some ((ρ1.set i (.va (f1 a))).set j (.va (f2 a))) := by
      simp only [Tg.den, Tg.dens, gTp, gsCons, gsNil, gNm, nb_at (s := .no) rfl g1, nb_at (s := .no) rfl g2, if_true, Option.bind_some, e1]
      rfl
    have bk : wipeL ((ρ1.set i (.va (f1 a))).set j (.va (f2 a))) (([(x, i), (y, j)] : List (Str × Nat)).map (·.2)) = (ρ1.set j .no).set i .no := by
      rw [w, List.set_set, List.set_comm _ _ hij (l := ρ1), List.set_set]
    exact ⟨_, _, e, ht a ha, fun hb => ⟨_, he a ha hb, bk⟩, fun _ => bk⟩
end
section
variable {Γ : Gam} {c : C} {t : Tg} {ρ ρ1 ρ2 : Lo} {i : Nat}
theorem step_set {r : RR} {s : Sl} (h : fO (c.den Γ) ρ = some (r, ρ1)) (p : Nb s) (e : ρ1[i]? = some s) (q : ρ1.set i (SlOf r) = ρ2) : (S.set i c).den Γ ρ = some (.nx, ρ2) := by
  simp only [S.den, fSet]
  rw [h, Option.bind_some]
  simp only [nb_at p e, if_true, q]
theorem step_setX {r : RR} {s : Sl} (h : c.den Γ ρ = some (r, ρ1)) (nb : ∀ j, r ≠ .br j) (p : Nb s) (e : ρ1[i]? = some s) (q : ρ1.set i (SlOf r) = ρ2) : (S.set i c).den Γ ρ = some (.nx, ρ2) := by
  refine step_set (r := r) (ρ1 := ρ1) ?_ p e q
  unfold fO
  rw [h, Option.bind_some]
  cases r with
  | br j => exact absurd rfl (nb j)
  | va d => rfl
  | ls ds => rfl
/-- a new list is stored -/
theorem set_ls {ds : List D} {s : Sl} (h : c.den Γ ρ = some (.ls ds, ρ1)) (p : Nb s) (e : ρ1[i]? = some s) (q : ρ1.set i (.ls ds) = ρ2) : (S.set i c).den Γ ρ = some (.nx, ρ2) := step_setX h (fun _ => nofun) p e q
/-- a datum is stored -/
theorem set_va {d : D} {s : Sl} (h : c.den Γ ρ = some (.va d, ρ1)) (p : Nb s) (e : ρ1[i]? = some s) (q : ρ1.set i (.va d) = ρ2) : (S.set i c).den Γ ρ = some (.nx, ρ2) := step_setX h (fun _ => nofun) p e q
theorem step_asg {d : D} (h : fF (c.den Γ) ρ = some (d, ρ1)) (ht : t.den d ρ1 = some ρ2) : (S.asg t c).den Γ ρ = some (.nx, ρ2) := by
  simp only [S.den, fAsg]
  rw [h, Option.bind_some]
  simp only [ht]
  rfl
theorem den_lr {a : C} {x : Int} (ha : a.den Γ ρ = some (.va (.int x), ρ1)) (h : -1000000 ≤ x ∧ x ≤ 1000000) : (C.lr a).den Γ ρ = some (.ls (rng 0 x), ρ1) := by
  have q := it_rng1 (Γ := Γ) ha h
  simp only [Ci.den] at q
  simp only [C.den, fLr]
  rw [q]
  rfl
theorem den_callM {j i : Nat} {es : Cs} {x : Str} {d : FD} {ds β β' : List D} {r : RR} (hf : Γ.fns[j]? = some (x, d)) (ha : es.denF Γ ρ = some (ds, ρ1)) (h0 : (items ρ i).isSome = true) (hi : items ρ1 i = some β) (hr : d.run β ds = some (r, β')) (hm : d.mt = true) (hn : d.np = ds.length + 1) :
    (C.callM j i es).den Γ ρ = some (r, putItems ρ1 i β') := by
  simp only [C.den, hf]
  rw [fCallM_eq, if_pos h0, ha, Option.bind_some]
  exact cm hr hm hn hi
theorem den_call {j : Nat} {es : Cs} {x : Str} {d : FD} {ds β : List D} {r : RR} (hf : Γ.fns[j]? = some (x, d)) (ha : es.denF Γ ρ = some (ds, ρ1)) (hr : d.run [] ds = some (r, β)) (hm : d.mt = false) (hn : d.np = ds.length) :
    (C.call j es).den Γ ρ = some (r, ρ1) := by
  simp only [C.den, hf]
  rw [fCall_eq, ha, Option.bind_some]
  exact cf hr hm hn ρ1
theorem den_tuple {c : C} {ds : List D} (h : c.den Γ ρ = some (.ls ds, ρ1)) : (C.blt .tuple (.cons c .nil)).den Γ ρ = some (.va (.tuple ds), ρ1) := by
  simp only [C.den, Cs.denV, fL, fsCons, fsNil, fV, h, Option.map_some, Option.bind_some, half, vws, vw, Den.opI, φTuple]
theorem den_tupleV {c : C} {ds : List D} (h : c.den Γ ρ = some (.va (.tuple ds), ρ1)) : (C.blt .tuple (.cons c .nil)).den Γ ρ = some (.va (.tuple ds), ρ1) := by
  simp only [C.den, Cs.denV, fL, fsCons, fsNil, fV, h, Option.map_some, Option.bind_some, half, vws, vw, Den.opI, φTuple]
theorem denF_one {c : C} {r : RR} {d : D} (h : c.den Γ ρ = some (r, ρ1)) (hz : frz r ρ1 = some (d, ρ2)) : (Cs.cons c .nil).denF Γ ρ = some ([d], ρ2) := by
  simp only [Cs.denF, fsCons, fsNil, fF]
  rw [h, Option.bind_some, hz]
  rfl
end
end W

set_option autoImplicit false
/-! drawn laids -/
namespace W
open PySem PySem.Spec L2 Den
variable {rs : List Rm} {k : Int}
theorem ne_nil {l : List Nat} : φNe (.list (nD l)) (.list []) = some (.va (.bool (!l.isEmpty))) := by
  have q : φNe (.list (nD l)) (.list []) = some (.va (.bool (!PyData.eqv (.list (nD l)) (.list [])))) := if_pos (.inl ⟨sh_nats.1, (sh_nats (ns := [])).1⟩)
  rw [q]
  cases l <;> simp [PyData.eqv, PyData.eqvAll, nD]
theorem any_filter {α : Type} {l : List α} {p : α → Bool} : l.any p = !(l.filter p).isEmpty := by
  induction l with
  | nil => rfl
  | cons a l ih => cases h : p a <;> simp [List.filter_cons, h, ih]
def barredB (rs : List Rm) : Bool := rs.any fun r => isBarD r.way
theorem lis_barred_ok (h : Dun rs) : d_lis_barred.run [] [dunD rs k] = some (.va (.bool (barredB rs)), []) := by
  have q : q_lis_barred_0.den g_lis_barred [.va (dunD rs k), .no] = some (.ls ((rs.filter fun r => isBarD r.way).map fun _ => .int 1), [.va (dunD rs k), .no]) := by
    unfold q_lis_barred_0
    refine lc1 (l := rs) (f := roomD) (b := fun r => isBarD r.way) (g := fun _ => .int 1) (s := .no) (by simp [Den.Cd.denD, Den.fsStar, Den.f1, Den.fExt, Den.fRep, Den.fTr, Den.fCh, Den.opI, Den.opB, Den.opC, Den.opM, Den.bodyRun, Den.Ss.den, Den.S.den, Den.C.den, Den.C.denT, Den.Cs.denA, Den.Cs.denO, Den.Cs.denAT, Den.Cs.denOT, Den.Cs.denV, Den.Cs.denF, Den.Co.den, Den.Co.denT, Den.Ci.den, Den.Tg.den, Den.Tg.dens, Den.Tg.slots, Den.Tg.slotsL, Den.parL, Den.fSeq, Den.fRet, Den.fRetN, Den.fNop, Den.fBk, Den.fCt, Den.fSet, Den.fO, Den.fDrop, Den.SlOf, Den.notBg, Den.fIfS, Den.fIf, Den.fT, Den.truth, Den.fAnd, Den.fOr, Den.fNot, Den.fAndV, Den.fOrV, Den.fNotV, Den.isB, Den.fV, Den.fF, Den.frz, Den.half, Den.vw, Den.vws, Den.f1, Den.f2, Den.fL, Den.fM, Den.fVar, Den.fC, Den.fTup, Den.fLst, Den.fsCons, Den.fsNil, Den.fSetIx, Den.fAugIx, Den.fAug, Den.asInt, Den.items, Den.putItems, Den.sameKind, Den.fMut, Den.φApp, Den.φIns, Den.fCall, Den.fCallM, Den.fPar, Den.fPar3, Den.fAsg, Den.gNm, Den.gTp, Den.gsCons, Den.gsNil, Den.fSl, Den.fPt, Den.φSl, Den.add_int, Den.sub_int, Den.φNeg, Den.φCmp, Den.φIs, Den.φIsNot, Den.isNone, Den.len_lst, Den.len_tup, Den.φAbs, Den.φInt, Den.φTuple, Den.φList, Den.fdmt, Den.fdnp, L2.ixN, Den.eq_str, Den.ne_str, Den.eq_int, Den.ne_int, Den.ix_lst, Den.ix_tup, Den.at_zero, Den.at_one, Den.at_two, Den.at_three, Den.lim_lit, fIt, its, dunD]) (lim_11 h.len1) rfl (fun r hr => ?_) (fun r hr _ => by simp [Den.Cd.denD, Den.fsStar, Den.f1, Den.fExt, Den.fRep, Den.fTr, Den.fCh, Den.opI, Den.opB, Den.opC, Den.opM, Den.bodyRun, Den.Ss.den, Den.S.den, Den.C.den, Den.C.denT, Den.Cs.denA, Den.Cs.denO, Den.Cs.denAT, Den.Cs.denOT, Den.Cs.denV, Den.Cs.denF, Den.Co.den, Den.Co.denT, Den.Ci.den, Den.Tg.den, Den.Tg.dens, Den.Tg.slots, Den.Tg.slotsL, Den.parL, Den.fSeq, Den.fRet, Den.fRetN, Den.fNop, Den.fBk, Den.fCt, Den.fSet, Den.fO, Den.fDrop, Den.SlOf, Den.notBg, Den.fIfS, Den.fIf, Den.fT, Den.truth, Den.fAnd, Den.fOr, Den.fNot, Den.fAndV, Den.fOrV, Den.fNotV, Den.isB, Den.fV, Den.fF, Den.frz, Den.half, Den.vw, Den.vws, Den.f1, Den.f2, Den.fL, Den.fM, Den.fVar, Den.fC, Den.fTup, Den.fLst, Den.fsCons, Den.fsNil, Den.fSetIx, Den.fAugIx, Den.fAug, Den.asInt, Den.items, Den.putItems, Den.sameKind, Den.fMut, Den.φApp, Den.φIns, Den.fCall, Den.fCallM, Den.fPar, Den.fPar3, Den.fAsg, Den.gNm, Den.gTp, Den.gsCons, Den.gsNil, Den.fSl, Den.fPt, Den.φSl, Den.add_int, Den.sub_int, Den.φNeg, Den.φCmp, Den.φIs, Den.φIsNot, Den.isNone, Den.len_lst, Den.len_tup, Den.φAbs, Den.φInt, Den.φTuple, Den.φList, Den.fdmt, Den.fdnp, L2.ixN, Den.eq_str, Den.ne_str, Den.eq_int, Den.ne_int, Den.ix_lst, Den.ix_tup, Den.at_zero, Den.at_one, Den.at_two, Den.at_three, Den.lim_lit])
    simp [Den.Cd.denD, Den.fsStar, Den.f1, Den.fExt, Den.fRep, Den.fTr, Den.fCh, Den.opI, Den.opB, Den.opC, Den.opM, Den.bodyRun, Den.Ss.den, Den.S.den, Den.C.den, Den.C.denT, Den.Cs.denA, Den.Cs.denO, Den.Cs.denAT, Den.Cs.denOT, Den.Cs.denV, Den.Cs.denF, Den.Co.den, Den.Co.denT, Den.Ci.den, Den.Tg.den, Den.Tg.dens, Den.Tg.slots, Den.Tg.slotsL, Den.parL, Den.fSeq, Den.fRet, Den.fRetN, Den.fNop, Den.fBk, Den.fCt, Den.fSet, Den.fO, Den.fDrop, Den.SlOf, Den.notBg, Den.fIfS, Den.fIf, Den.fT, Den.truth, Den.fAnd, Den.fOr, Den.fNot, Den.fAndV, Den.fOrV, Den.fNotV, Den.isB, Den.fV, Den.fF, Den.frz, Den.half, Den.vw, Den.vws, Den.f1, Den.f2, Den.fL, Den.fM, Den.fVar, Den.fC, Den.fTup, Den.fLst, Den.fsCons, Den.fsNil, Den.fSetIx, Den.fAugIx, Den.fAug, Den.asInt, Den.items, Den.putItems, Den.sameKind, Den.fMut, Den.φApp, Den.φIns, Den.fCall, Den.fCallM, Den.fPar, Den.fPar3, Den.fAsg, Den.gNm, Den.gTp, Den.gsCons, Den.gsNil, Den.fSl, Den.fPt, Den.φSl, Den.add_int, Den.sub_int, Den.φNeg, Den.φCmp, Den.φIs, Den.φIsNot, Den.isNone, Den.len_lst, Den.len_tup, Den.φAbs, Den.φInt, Den.φTuple, Den.φList, Den.fdmt, Den.fdnp, L2.ixN, Den.eq_str, Den.ne_str, Den.eq_int, Den.ne_int, Den.ix_lst, Den.ix_tup, Den.at_zero, Den.at_one, Den.at_two, Den.at_three, Den.lim_lit, roomD, (way_eq h hr).2]
  rw [ones] at q
  have e : barredB rs = !(List.replicate (rs.filter fun r => isBarD r.way).length 1).isEmpty := by
    unfold barredB
    rw [any_filter]
    cases rs.filter fun r => isBarD r.way <;> rfl
  rw [e, r_lis_barred]
  simp [Den.Cd.denD, Den.fsStar, Den.f1, Den.fExt, Den.fRep, Den.fTr, Den.fCh, Den.opI, Den.opB, Den.opC, Den.opM, Den.bodyRun, Den.Ss.den, Den.S.den, Den.C.den, Den.C.denT, Den.Cs.denA, Den.Cs.denO, Den.Cs.denAT, Den.Cs.denOT, Den.Cs.denV, Den.Cs.denF, Den.Co.den, Den.Co.denT, Den.Ci.den, Den.Tg.den, Den.Tg.dens, Den.Tg.slots, Den.Tg.slotsL, Den.parL, Den.fSeq, Den.fRet, Den.fRetN, Den.fNop, Den.fBk, Den.fCt, Den.fSet, Den.fO, Den.fDrop, Den.SlOf, Den.notBg, Den.fIfS, Den.fIf, Den.fT, Den.truth, Den.fAnd, Den.fOr, Den.fNot, Den.fAndV, Den.fOrV, Den.fNotV, Den.isB, Den.fV, Den.fF, Den.frz, Den.half, Den.vw, Den.vws, Den.f1, Den.f2, Den.fL, Den.fM, Den.fVar, Den.fC, Den.fTup, Den.fLst, Den.fsCons, Den.fsNil, Den.fSetIx, Den.fAugIx, Den.fAug, Den.asInt, Den.items, Den.putItems, Den.sameKind, Den.fMut, Den.φApp, Den.φIns, Den.fCall, Den.fCallM, Den.fPar, Den.fPar3, Den.fAsg, Den.gNm, Den.gTp, Den.gsCons, Den.gsNil, Den.fSl, Den.fPt, Den.φSl, Den.add_int, Den.sub_int, Den.φNeg, Den.φCmp, Den.φIs, Den.φIsNot, Den.isNone, Den.len_lst, Den.len_tup, Den.φAbs, Den.φInt, Den.φTuple, Den.φList, Den.fdmt, Den.fdnp, L2.ixN, Den.eq_str, Den.ne_str, Den.eq_int, Den.ne_int, Den.ix_lst, Den.ix_tup, Den.at_zero, Den.at_one, Den.at_two, Den.at_three, Den.lim_lit, c_lis_barred, q, ne_nil]
theorem barred_iff (h : Dun rs) : barredB rs = true ↔ ∃ v, v < rs.length ∧ isBar rs v = true := by
  unfold barredB
  rw [List.any_eq_true]
  constructor
  · rintro ⟨r, hr, hb⟩
    obtain ⟨i, hi, e⟩ := List.getElem_of_mem hr
    refine ⟨i, hi, ?_⟩
    unfold isBar
    rw [List.getElem?_eq_getElem hi, e]
    exact hb
  · rintro ⟨v, hv, hb⟩
    unfold isBar at hb
    rw [List.getElem?_eq_getElem hv] at hb
    exact ⟨_, List.getElem_mem hv, hb⟩
def msr : Option Nat → Nat
  | none => 0
  | some p => p
def upBar (rs : List Rm) (o : Option Nat) : Bool := (upO rs o).any (isBar rs)
theorem lway_has_bar_ok (h : Dun rs) {o : Option Nat} (ho : ∀ v, o = some v → v < rs.length) : d_lway_has_bar.run [] [dunD rs k, pD o] = some (.va (.bool (upBar rs o)), []) := by
  refine eqr ?_
  rw [r_lway_has_bar]
  refine run_f ?_
  refine ok_cons (ok_while (n := msr o) (fun n ρ => ∃ o', ρ = [.va (dunD rs k), .va (pD o')] ∧ (∀ v, o' = some v → v < rs.length) ∧ upBar rs o' = upBar rs o ∧ msr o' ≤ n) ⟨o, rfl, ho, rfl, Nat.le_refl _⟩ ?_ ?_)
  · have := h.len1
    cases o with
    | none => decide
    | some p =>
      have := ho p rfl
      show p < 1000000
      omega
  rintro n ρ ⟨o', rfl, ho', hu, hn⟩
  cases o' with
  | none =>
    refine ⟨false, [.va (dunD rs k), .va (pD none)], by simp [Den.Cd.denD, Den.fsStar, Den.f1, Den.fExt, Den.fRep, Den.fTr, Den.fCh, Den.opI, Den.opB, Den.opC, Den.opM, Den.bodyRun, Den.Ss.den, Den.S.den, Den.C.den, Den.C.denT, Den.Cs.denA, Den.Cs.denO, Den.Cs.denAT, Den.Cs.denOT, Den.Cs.denV, Den.Cs.denF, Den.Co.den, Den.Co.denT, Den.Ci.den, Den.Tg.den, Den.Tg.dens, Den.Tg.slots, Den.Tg.slotsL, Den.parL, Den.fSeq, Den.fRet, Den.fRetN, Den.fNop, Den.fBk, Den.fCt, Den.fSet, Den.fO, Den.fDrop, Den.SlOf, Den.notBg, Den.fIfS, Den.fIf, Den.fT, Den.truth, Den.fAnd, Den.fOr, Den.fNot, Den.fAndV, Den.fOrV, Den.fNotV, Den.isB, Den.fV, Den.fF, Den.frz, Den.half, Den.vw, Den.vws, Den.f1, Den.f2, Den.fL, Den.fM, Den.fVar, Den.fC, Den.fTup, Den.fLst, Den.fsCons, Den.fsNil, Den.fSetIx, Den.fAugIx, Den.fAug, Den.asInt, Den.items, Den.putItems, Den.sameKind, Den.fMut, Den.φApp, Den.φIns, Den.fCall, Den.fCallM, Den.fPar, Den.fPar3, Den.fAsg, Den.gNm, Den.gTp, Den.gsCons, Den.gsNil, Den.fSl, Den.fPt, Den.φSl, Den.add_int, Den.sub_int, Den.φNeg, Den.φCmp, Den.φIs, Den.φIsNot, Den.isNone, Den.len_lst, Den.len_tup, Den.φAbs, Den.φInt, Den.φTuple, Den.φList, Den.fdmt, Den.fdnp, L2.ixN, Den.eq_str, Den.ne_str, Den.eq_int, Den.ne_int, Den.ix_lst, Den.ix_tup, Den.at_zero, Den.at_one, Den.at_two, Den.at_three, Den.lim_lit, pD], fun _ => ?_, fun z => by cases z⟩
    exact ok_last (r := .va (.bool (upBar rs o))) (ρ1 := [.va (dunD rs k), .va (pD none)]) (by rw [← hu]; simp [Den.Cd.denD, Den.fsStar, Den.f1, Den.fExt, Den.fRep, Den.fTr, Den.fCh, Den.opI, Den.opB, Den.opC, Den.opM, Den.bodyRun, Den.Ss.den, Den.S.den, Den.C.den, Den.C.denT, Den.Cs.denA, Den.Cs.denO, Den.Cs.denAT, Den.Cs.denOT, Den.Cs.denV, Den.Cs.denF, Den.Co.den, Den.Co.denT, Den.Ci.den, Den.Tg.den, Den.Tg.dens, Den.Tg.slots, Den.Tg.slotsL, Den.parL, Den.fSeq, Den.fRet, Den.fRetN, Den.fNop, Den.fBk, Den.fCt, Den.fSet, Den.fO, Den.fDrop, Den.SlOf, Den.notBg, Den.fIfS, Den.fIf, Den.fT, Den.truth, Den.fAnd, Den.fOr, Den.fNot, Den.fAndV, Den.fOrV, Den.fNotV, Den.isB, Den.fV, Den.fF, Den.frz, Den.half, Den.vw, Den.vws, Den.f1, Den.f2, Den.fL, Den.fM, Den.fVar, Den.fC, Den.fTup, Den.fLst, Den.fsCons, Den.fsNil, Den.fSetIx, Den.fAugIx, Den.fAug, Den.asInt, Den.items, Den.putItems, Den.sameKind, Den.fMut, Den.φApp, Den.φIns, Den.fCall, Den.fCallM, Den.fPar, Den.fPar3, Den.fAsg, Den.gNm, Den.gTp, Den.gsCons, Den.gsNil, Den.fSl, Den.fPt, Den.φSl, Den.add_int, Den.sub_int, Den.φNeg, Den.φCmp, Den.φIs, Den.φIsNot, Den.isNone, Den.len_lst, Den.len_tup, Den.φAbs, Den.φInt, Den.φTuple, Den.φList, Den.fdmt, Den.fdnp, L2.ixN, Den.eq_str, Den.ne_str, Den.eq_int, Den.ne_int, Den.ix_lst, Den.ix_tup, Den.at_zero, Den.at_one, Den.at_two, Den.at_three, Den.lim_lit, upBar, upO]) ⟨rfl, rfl⟩
  | some v =>
    have hv := ho' v rfl
    by_cases h0 : v = 0
    · subst h0
      refine ⟨false, [.va (dunD rs k), .va (pD (some 0))], by simp [Den.Cd.denD, Den.fsStar, Den.f1, Den.fExt, Den.fRep, Den.fTr, Den.fCh, Den.opI, Den.opB, Den.opC, Den.opM, Den.bodyRun, Den.Ss.den, Den.S.den, Den.C.den, Den.C.denT, Den.Cs.denA, Den.Cs.denO, Den.Cs.denAT, Den.Cs.denOT, Den.Cs.denV, Den.Cs.denF, Den.Co.den, Den.Co.denT, Den.Ci.den, Den.Tg.den, Den.Tg.dens, Den.Tg.slots, Den.Tg.slotsL, Den.parL, Den.fSeq, Den.fRet, Den.fRetN, Den.fNop, Den.fBk, Den.fCt, Den.fSet, Den.fO, Den.fDrop, Den.SlOf, Den.notBg, Den.fIfS, Den.fIf, Den.fT, Den.truth, Den.fAnd, Den.fOr, Den.fNot, Den.fAndV, Den.fOrV, Den.fNotV, Den.isB, Den.fV, Den.fF, Den.frz, Den.half, Den.vw, Den.vws, Den.f1, Den.f2, Den.fL, Den.fM, Den.fVar, Den.fC, Den.fTup, Den.fLst, Den.fsCons, Den.fsNil, Den.fSetIx, Den.fAugIx, Den.fAug, Den.asInt, Den.items, Den.putItems, Den.sameKind, Den.fMut, Den.φApp, Den.φIns, Den.fCall, Den.fCallM, Den.fPar, Den.fPar3, Den.fAsg, Den.gNm, Den.gTp, Den.gsCons, Den.gsNil, Den.fSl, Den.fPt, Den.φSl, Den.add_int, Den.sub_int, Den.φNeg, Den.φCmp, Den.φIs, Den.φIsNot, Den.isNone, Den.len_lst, Den.len_tup, Den.φAbs, Den.φInt, Den.φTuple, Den.φList, Den.fdmt, Den.fdnp, L2.ixN, Den.eq_str, Den.ne_str, Den.eq_int, Den.ne_int, Den.ix_lst, Den.ix_tup, Den.at_zero, Den.at_one, Den.at_two, Den.at_three, Den.lim_lit, pD], fun _ => ?_, fun z => by cases z⟩
      have e : upBar rs (some 0) = false := by
        unfold upBar upO
        simp only
        rw [up_cons2 h hv, par_root h]
        simp [upO, (way_root h).2.2]
      exact ok_last (r := .va (.bool (upBar rs o))) (ρ1 := [.va (dunD rs k), .va (pD (some 0))]) (by rw [← hu, e]; simp [Den.Cd.denD, Den.fsStar, Den.f1, Den.fExt, Den.fRep, Den.fTr, Den.fCh, Den.opI, Den.opB, Den.opC, Den.opM, Den.bodyRun, Den.Ss.den, Den.S.den, Den.C.den, Den.C.denT, Den.Cs.denA, Den.Cs.denO, Den.Cs.denAT, Den.Cs.denOT, Den.Cs.denV, Den.Cs.denF, Den.Co.den, Den.Co.denT, Den.Ci.den, Den.Tg.den, Den.Tg.dens, Den.Tg.slots, Den.Tg.slotsL, Den.parL, Den.fSeq, Den.fRet, Den.fRetN, Den.fNop, Den.fBk, Den.fCt, Den.fSet, Den.fO, Den.fDrop, Den.SlOf, Den.notBg, Den.fIfS, Den.fIf, Den.fT, Den.truth, Den.fAnd, Den.fOr, Den.fNot, Den.fAndV, Den.fOrV, Den.fNotV, Den.isB, Den.fV, Den.fF, Den.frz, Den.half, Den.vw, Den.vws, Den.f1, Den.f2, Den.fL, Den.fM, Den.fVar, Den.fC, Den.fTup, Den.fLst, Den.fsCons, Den.fsNil, Den.fSetIx, Den.fAugIx, Den.fAug, Den.asInt, Den.items, Den.putItems, Den.sameKind, Den.fMut, Den.φApp, Den.φIns, Den.fCall, Den.fCallM, Den.fPar, Den.fPar3, Den.fAsg, Den.gNm, Den.gTp, Den.gsCons, Den.gsNil, Den.fSl, Den.fPt, Den.φSl, Den.add_int, Den.sub_int, Den.φNeg, Den.φCmp, Den.φIs, Den.φIsNot, Den.isNone, Den.len_lst, Den.len_tup, Den.φAbs, Den.φInt, Den.φTuple, Den.φList, Den.fdmt, Den.fdnp, L2.ixN, Den.eq_str, Den.ne_str, Den.eq_int, Den.ne_int, Den.ix_lst, Den.ix_tup, Den.at_zero, Den.at_one, Den.at_two, Den.at_three, Den.lim_lit]) ⟨rfl, rfl⟩
    · have hpos : 0 < v := by omega
      refine ⟨true, [.va (dunD rs k), .va (pD (some v))], by simp [Den.Cd.denD, Den.fsStar, Den.f1, Den.fExt, Den.fRep, Den.fTr, Den.fCh, Den.opI, Den.opB, Den.opC, Den.opM, Den.bodyRun, Den.Ss.den, Den.S.den, Den.C.den, Den.C.denT, Den.Cs.denA, Den.Cs.denO, Den.Cs.denAT, Den.Cs.denOT, Den.Cs.denV, Den.Cs.denF, Den.Co.den, Den.Co.denT, Den.Ci.den, Den.Tg.den, Den.Tg.dens, Den.Tg.slots, Den.Tg.slotsL, Den.parL, Den.fSeq, Den.fRet, Den.fRetN, Den.fNop, Den.fBk, Den.fCt, Den.fSet, Den.fO, Den.fDrop, Den.SlOf, Den.notBg, Den.fIfS, Den.fIf, Den.fT, Den.truth, Den.fAnd, Den.fOr, Den.fNot, Den.fAndV, Den.fOrV, Den.fNotV, Den.isB, Den.fV, Den.fF, Den.frz, Den.half, Den.vw, Den.vws, Den.f1, Den.f2, Den.fL, Den.fM, Den.fVar, Den.fC, Den.fTup, Den.fLst, Den.fsCons, Den.fsNil, Den.fSetIx, Den.fAugIx, Den.fAug, Den.asInt, Den.items, Den.putItems, Den.sameKind, Den.fMut, Den.φApp, Den.φIns, Den.fCall, Den.fCallM, Den.fPar, Den.fPar3, Den.fAsg, Den.gNm, Den.gTp, Den.gsCons, Den.gsNil, Den.fSl, Den.fPt, Den.φSl, Den.add_int, Den.sub_int, Den.φNeg, Den.φCmp, Den.φIs, Den.φIsNot, Den.isNone, Den.len_lst, Den.len_tup, Den.φAbs, Den.φInt, Den.φTuple, Den.φList, Den.fdmt, Den.fdnp, L2.ixN, Den.eq_str, Den.ne_str, Den.eq_int, Den.ne_int, Den.ix_lst, Den.ix_tup, Den.at_zero, Den.at_one, Den.at_two, Den.at_three, Den.lim_lit, pD, hpos], (fun z => by cases z), fun _ => ?_⟩
      obtain ⟨p, e1, hp, e2⟩ := par_some h hv hpos
      have hn2 : v ≤ n := hn
      refine ⟨n - 1, by omega, ?_⟩
      have eu : upBar rs (some v) = (isBar rs v || upBar rs (some p)) := by
        unfold upBar
        show (up rs v).any _ = _
        rw [up_cons2 h hv, e1]
        rfl
      unfold b_lway_has_bar_0
      refine ok_cons (ok_if (v := isBar rs v) (ρ1 := [.va (dunD rs k), .va (pD (some v))]) (by simp [Den.Cd.denD, Den.fsStar, Den.f1, Den.fExt, Den.fRep, Den.fTr, Den.fCh, Den.opI, Den.opB, Den.opC, Den.opM, Den.bodyRun, Den.Ss.den, Den.S.den, Den.C.den, Den.C.denT, Den.Cs.denA, Den.Cs.denO, Den.Cs.denAT, Den.Cs.denOT, Den.Cs.denV, Den.Cs.denF, Den.Co.den, Den.Co.denT, Den.Ci.den, Den.Tg.den, Den.Tg.dens, Den.Tg.slots, Den.Tg.slotsL, Den.parL, Den.fSeq, Den.fRet, Den.fRetN, Den.fNop, Den.fBk, Den.fCt, Den.fSet, Den.fO, Den.fDrop, Den.SlOf, Den.notBg, Den.fIfS, Den.fIf, Den.fT, Den.truth, Den.fAnd, Den.fOr, Den.fNot, Den.fAndV, Den.fOrV, Den.fNotV, Den.isB, Den.fV, Den.fF, Den.frz, Den.half, Den.vw, Den.vws, Den.f1, Den.f2, Den.fL, Den.fM, Den.fVar, Den.fC, Den.fTup, Den.fLst, Den.fsCons, Den.fsNil, Den.fSetIx, Den.fAugIx, Den.fAug, Den.asInt, Den.items, Den.putItems, Den.sameKind, Den.fMut, Den.φApp, Den.φIns, Den.fCall, Den.fCallM, Den.fPar, Den.fPar3, Den.fAsg, Den.gNm, Den.gTp, Den.gsCons, Den.gsNil, Den.fSl, Den.fPt, Den.φSl, Den.add_int, Den.sub_int, Den.φNeg, Den.φCmp, Den.φIs, Den.φIsNot, Den.isNone, Den.len_lst, Den.len_tup, Den.φAbs, Den.φInt, Den.φTuple, Den.φList, Den.fdmt, Den.fdnp, L2.ixN, Den.eq_str, Den.ne_str, Den.eq_int, Den.ne_int, Den.ix_lst, Den.ix_tup, Den.at_zero, Den.at_one, Den.at_two, Den.at_three, Den.lim_lit, pD, dunD, roomD, room_at hv, bar_at h hv]) (fun hb => ?_) (fun hb => ?_))
      · exact ok_last (r := .va (.bool (upBar rs o))) (ρ1 := [.va (dunD rs k), .va (pD (some v))]) (by rw [← hu, eu, hb]; simp [Den.Cd.denD, Den.fsStar, Den.f1, Den.fExt, Den.fRep, Den.fTr, Den.fCh, Den.opI, Den.opB, Den.opC, Den.opM, Den.bodyRun, Den.Ss.den, Den.S.den, Den.C.den, Den.C.denT, Den.Cs.denA, Den.Cs.denO, Den.Cs.denAT, Den.Cs.denOT, Den.Cs.denV, Den.Cs.denF, Den.Co.den, Den.Co.denT, Den.Ci.den, Den.Tg.den, Den.Tg.dens, Den.Tg.slots, Den.Tg.slotsL, Den.parL, Den.fSeq, Den.fRet, Den.fRetN, Den.fNop, Den.fBk, Den.fCt, Den.fSet, Den.fO, Den.fDrop, Den.SlOf, Den.notBg, Den.fIfS, Den.fIf, Den.fT, Den.truth, Den.fAnd, Den.fOr, Den.fNot, Den.fAndV, Den.fOrV, Den.fNotV, Den.isB, Den.fV, Den.fF, Den.frz, Den.half, Den.vw, Den.vws, Den.f1, Den.f2, Den.fL, Den.fM, Den.fVar, Den.fC, Den.fTup, Den.fLst, Den.fsCons, Den.fsNil, Den.fSetIx, Den.fAugIx, Den.fAug, Den.asInt, Den.items, Den.putItems, Den.sameKind, Den.fMut, Den.φApp, Den.φIns, Den.fCall, Den.fCallM, Den.fPar, Den.fPar3, Den.fAsg, Den.gNm, Den.gTp, Den.gsCons, Den.gsNil, Den.fSl, Den.fPt, Den.φSl, Den.add_int, Den.sub_int, Den.φNeg, Den.φCmp, Den.φIs, Den.φIsNot, Den.isNone, Den.len_lst, Den.len_tup, Den.φAbs, Den.φInt, Den.φTuple, Den.φList, Den.fdmt, Den.fdnp, L2.ixN, Den.eq_str, Den.ne_str, Den.eq_int, Den.ne_int, Den.ix_lst, Den.ix_tup, Den.at_zero, Den.at_one, Den.at_two, Den.at_three, Den.lim_lit]) ⟨rfl, rfl⟩
      · refine ok_nil (ok_step (ρ1 := [.va (dunD rs k), .va (pD (some p))]) (by simp [Den.Cd.denD, Den.fsStar, Den.f1, Den.fExt, Den.fRep, Den.fTr, Den.fCh, Den.opI, Den.opB, Den.opC, Den.opM, Den.bodyRun, Den.Ss.den, Den.S.den, Den.C.den, Den.C.denT, Den.Cs.denA, Den.Cs.denO, Den.Cs.denAT, Den.Cs.denOT, Den.Cs.denV, Den.Cs.denF, Den.Co.den, Den.Co.denT, Den.Ci.den, Den.Tg.den, Den.Tg.dens, Den.Tg.slots, Den.Tg.slotsL, Den.parL, Den.fSeq, Den.fRet, Den.fRetN, Den.fNop, Den.fBk, Den.fCt, Den.fSet, Den.fO, Den.fDrop, Den.SlOf, Den.notBg, Den.fIfS, Den.fIf, Den.fT, Den.truth, Den.fAnd, Den.fOr, Den.fNot, Den.fAndV, Den.fOrV, Den.fNotV, Den.isB, Den.fV, Den.fF, Den.frz, Den.half, Den.vw, Den.vws, Den.f1, Den.f2, Den.fL, Den.fM, Den.fVar, Den.fC, Den.fTup, Den.fLst, Den.fsCons, Den.fsNil, Den.fSetIx, Den.fAugIx, Den.fAug, Den.asInt, Den.items, Den.putItems, Den.sameKind, Den.fMut, Den.φApp, Den.φIns, Den.fCall, Den.fCallM, Den.fPar, Den.fPar3, Den.fAsg, Den.gNm, Den.gTp, Den.gsCons, Den.gsNil, Den.fSl, Den.fPt, Den.φSl, Den.add_int, Den.sub_int, Den.φNeg, Den.φCmp, Den.φIs, Den.φIsNot, Den.isNone, Den.len_lst, Den.len_tup, Den.φAbs, Den.φInt, Den.φTuple, Den.φList, Den.fdmt, Den.fdnp, L2.ixN, Den.eq_str, Den.ne_str, Den.eq_int, Den.ne_int, Den.ix_lst, Den.ix_tup, Den.at_zero, Den.at_one, Den.at_two, Den.at_three, Den.lim_lit, pD, dunD, roomD, room_at hv, e2]) (ok_nil ⟨some p, rfl, fun q e => ?_, ?_, ?_⟩))
        · cases e
          omega
        · rw [← hu, eu, hb]
          rfl
        · show p ≤ n - 1
          omega
theorem nb_va {d : D} : Nb (.va d) := rfl
theorem nb_ls {l : List D} : Nb (.ls l) := rfl
theorem nb_no : Nb .no := rfl
def laidD (big : Option Nat) (sm : List Nat) : D := .tuple [pD big, .tuple (nD sm)]
structure Laid (rs : List Rm) (big : Option Nat) (sm : List Nat) : Prop where
  bg : ∀ b, big = some b → b < rs.length
  no : big = none → barredB rs = false
  yes : barredB rs = false → big = none
  len : sm.length = rs.length
  le : sm.sum ≤ 12
theorem nD_at {l : List Nat} {v : Nat} (hv : v < l.length) : (nD l)[v]? = some (.int (l[v] : Int)) := by
  unfold nD
  rw [List.getElem?_map, List.getElem?_eq_getElem hv]
  rfl
theorem nD_getE {l : List Nat} {v : Nat} (h : v < (nD l).length) (h2 : v < l.length) : (nD l)[v] = .int ((l[v] : Nat) : Int) := by
  have q := nD_at h2
  rw [List.getElem?_eq_getElem h] at q
  exact Option.some.inj q
theorem nD_set {l : List Nat} {v m : Nat} : (nD l).set v (.int (m : Int)) = nD (l.set v m) := by
  unfold nD
  rw [List.map_set]
  rfl
theorem sum_set : ∀ {l : List Nat} {v : Nat} (hv : v < l.length), (l.set v (l[v] + 1)).sum = l.sum + 1
  | [], _, h => by cases h
  | x :: l, 0, _ => by simp; omega
  | x :: l, v + 1, h => by
    have := sum_set (l := l) (v := v) (by simpa using h)
    simp at this ⊢
    omega
theorem mem_sum : ∀ {l : List Nat} {x : Nat}, x ∈ l → x ≤ l.sum
  | y :: l, x, h => by
    rcases List.mem_cons.mp h with z | z
    · simp [z]
    · have := mem_sum z
      simp
      omega
theorem at_int {xs : List D} {v : Nat} {x : D} (h : xs[v]? = some x) : xs[((v : Nat) : Int).toNat]? = some x := by simpa using h
theorem ixN_nat {n v : Nat} (h : v < n) : ixN n ((v : Nat) : Int) = some v := by
  unfold ixN
  rw [if_pos (by omega), if_pos (by omega)]
  simp
theorem aug_one {l : List Nat} {v : Nat} (hv : v < l.length) : (nD l).set v (.int ((l[v] : Int) + 1)) = nD (l.set v (l[v] + 1)) := by
  rw [← nD_set]
  congr 2
theorem rep_zero {n : Nat} : (List.replicate n [PyData.int 0]).flatten = nD (List.replicate n 0) := by
  induction n with
  | zero => rfl
  | succ n ih =>
    rw [List.replicate_succ, List.flatten_cons, ih]
    rfl
theorem rep_zero2 {n : Nat} : List.replicate n (PyData.int 0) = nD (List.replicate n 0) := by
  rw [nD, List.map_replicate]
  rfl
/-- the store of any_laid -/
def stL (β : List D) (rs : List Rm) (k : Int) (big : Option Nat) (s4 s5 s6 s7 s8 s10 s11 : Sl) : Lo := [.bg β, .va (dunD rs k), .va (.tuple (rs.map roomD)), .va (pD big), s4, s5, s6, s7, s8, .no, s10, s11]
theorem big_drawn {β : List D} (hb : Bag β) (h : Dun rs) (hbar : barredB rs = true) : ∃ b β', b < rs.length ∧ Bag β' ∧ Ok (Ss.den g_lany_laid (.cons (.set 4 q_lany_laid_0)
    (.cons (.set 3 (.callM 2 0 (.cons (.ite (.cmp .gt (.callM 3 0 (.cons (.int 4) .nil)) (.int 0)) (.var 4) (.lr (.blt .len (.cons (.var 2) .nil)))) .nil))) .nil)) (stL β rs k none .no .no .no .no .no .no .no))
    fun o ρ => o = .nx ∧ ∃ s4, Nb s4 ∧ ρ = stL β' rs k (some b) s4 .no .no .no .no .no .no := by
  have hl1 := h.len1
  have hl0 := h.len0
  have q : q_lany_laid_0.den g_lany_laid (stL β rs k none .no .no .no .no .no .no .no) = some (.ls (((List.range rs.length).filter fun v => !upBar rs (some v)).map nI), stL β rs k none .no .no .no .no .no .no .no) := by
    unfold q_lany_laid_0
    refine lc1 (l := List.range rs.length) (f := nI) (g := nI) (b := fun v => !upBar rs (some v)) (s := .no) (ρ1 := stL β rs k none .no .no .no .no .no .no .no) ?_ (by rw [List.length_range]; exact lim_11 hl1) rfl (fun v hv => ?_) (fun v hv _ => by rfl)
    · rw [it_rng1 (x := rs.length) (ρ1 := stL β rs k none .no .no .no .no .no .no .no) (by unfold stL; simp [Den.Cd.denD, Den.fsStar, Den.f1, Den.fExt, Den.fRep, Den.fTr, Den.fCh, Den.opI, Den.opB, Den.opC, Den.opM, Den.bodyRun, Den.Ss.den, Den.S.den, Den.C.den, Den.C.denT, Den.Cs.denA, Den.Cs.denO, Den.Cs.denAT, Den.Cs.denOT, Den.Cs.denV, Den.Cs.denF, Den.Co.den, Den.Co.denT, Den.Ci.den, Den.Tg.den, Den.Tg.dens, Den.Tg.slots, Den.Tg.slotsL, Den.parL, Den.fSeq, Den.fRet, Den.fRetN, Den.fNop, Den.fBk, Den.fCt, Den.fSet, Den.fO, Den.fDrop, Den.SlOf, Den.notBg, Den.fIfS, Den.fIf, Den.fT, Den.truth, Den.fAnd, Den.fOr, Den.fNot, Den.fAndV, Den.fOrV, Den.fNotV, Den.isB, Den.fV, Den.fF, Den.frz, Den.half, Den.vw, Den.vws, Den.f1, Den.f2, Den.fL, Den.fM, Den.fVar, Den.fC, Den.fTup, Den.fLst, Den.fsCons, Den.fsNil, Den.fSetIx, Den.fAugIx, Den.fAug, Den.asInt, Den.items, Den.putItems, Den.sameKind, Den.fMut, Den.φApp, Den.φIns, Den.fCall, Den.fCallM, Den.fPar, Den.fPar3, Den.fAsg, Den.gNm, Den.gTp, Den.gsCons, Den.gsNil, Den.fSl, Den.fPt, Den.φSl, Den.add_int, Den.sub_int, Den.φNeg, Den.φCmp, Den.φIs, Den.φIsNot, Den.isNone, Den.len_lst, Den.len_tup, Den.φAbs, Den.φInt, Den.φTuple, Den.φList, Den.fdmt, Den.fdnp, L2.ixN, Den.eq_str, Den.ne_str, Den.eq_int, Den.ne_int, Den.ix_lst, Den.ix_tup, Den.at_zero, Den.at_one, Den.at_two, Den.at_three, Den.lim_lit]) (rng_ok hl1), rng_nat]
      rfl
    · have e := cf (lway_has_bar_ok (k := k) h (o := some v) fun u e => by cases e; exact List.mem_range.mp hv) mt_lway_has_bar np_lway_has_bar
      simp only [pD] at e
      unfold stL nI
      simp [Den.Cd.denD, Den.fsStar, Den.f1, Den.fExt, Den.fRep, Den.fTr, Den.fCh, Den.opI, Den.opB, Den.opC, Den.opM, Den.bodyRun, Den.Ss.den, Den.S.den, Den.C.den, Den.C.denT, Den.Cs.denA, Den.Cs.denO, Den.Cs.denAT, Den.Cs.denOT, Den.Cs.denV, Den.Cs.denF, Den.Co.den, Den.Co.denT, Den.Ci.den, Den.Tg.den, Den.Tg.dens, Den.Tg.slots, Den.Tg.slotsL, Den.parL, Den.fSeq, Den.fRet, Den.fRetN, Den.fNop, Den.fBk, Den.fCt, Den.fSet, Den.fO, Den.fDrop, Den.SlOf, Den.notBg, Den.fIfS, Den.fIf, Den.fT, Den.truth, Den.fAnd, Den.fOr, Den.fNot, Den.fAndV, Den.fOrV, Den.fNotV, Den.isB, Den.fV, Den.fF, Den.frz, Den.half, Den.vw, Den.vws, Den.f1, Den.f2, Den.fL, Den.fM, Den.fVar, Den.fC, Den.fTup, Den.fLst, Den.fsCons, Den.fsNil, Den.fSetIx, Den.fAugIx, Den.fAug, Den.asInt, Den.items, Den.putItems, Den.sameKind, Den.fMut, Den.φApp, Den.φIns, Den.fCall_eq, Den.fCallM_eq, Den.fPar, Den.fPar3, Den.fAsg, Den.gNm, Den.gTp, Den.gsCons, Den.gsNil, Den.fSl, Den.fPt, Den.φSl, Den.add_int, Den.sub_int, Den.φNeg, Den.φCmp, Den.φIs, Den.φIsNot, Den.isNone, Den.len_lst, Den.len_tup, Den.φAbs, Den.φInt, Den.φTuple, Den.φList, Den.fdmt, Den.fdnp, L2.ixN, Den.eq_str, Den.ne_str, Den.eq_int, Den.ne_int, Den.ix_lst, Den.ix_tup, Den.at_zero, Den.at_one, Den.at_two, Den.at_three, Den.lim_lit, g_lany_laid, pD, e]
  obtain ⟨t, β1, t0, t1, hb1, e1⟩ := take_ok (m := 4) hb (by omega) (by omega)
  generalize hL : (List.range rs.length).filter (fun v => !upBar rs (some v)) = L at q
  have hL0 : L ≠ [] := by
    intro z
    have : 0 ∈ L := by
      rw [← hL, List.mem_filter, List.mem_range]
      refine ⟨hl0, ?_⟩
      unfold upBar
      show (!(up rs 0).any (isBar rs)) = true
      rw [up_cons2 h hl0, par_root h]
      simp [upO, (way_root h).2.2]
    rw [z] at this
    cases this
  have hLn : ∀ x ∈ L, x < rs.length := fun x hx => by
    rw [← hL] at hx
    exact List.mem_range.mp (List.mem_filter.mp hx).1
  have hLl : L.length ≤ 11 := by
    rw [← hL]
    have := List.length_filter_le (fun v => !upBar rs (some v)) (List.range rs.length)
    rw [List.length_range] at this
    omega
  have pick : ∀ {things : List Nat}, things ≠ [] → things.length ≤ 11 → (∀ x ∈ things, x < rs.length) → ∃ b β', b < rs.length ∧ Bag β' ∧ d_lsome.run β1 [.list (nD things)] = some (.va (.int ((b : Nat) : Int)), β') := fun {things} a b c => by
    obtain ⟨x, β', ⟨n, rfl, hn⟩, hb', e⟩ := some_p (things := nD things) (fun x => ∃ n : Nat, x = .int (n : Int) ∧ n < rs.length) hb1 (by simpa [nD] using a) (by rw [nD_len]; omega) (fun x hx => by
      obtain ⟨n, hn, rfl⟩ := List.mem_map.mp hx
      exact ⟨n, rfl, c n hn⟩)
    exact ⟨n, β', hn, hb', e⟩
  by_cases ht : 0 < t
  · obtain ⟨b, β2, hbn, hb2, e2⟩ := pick hL0 hLl hLn
    refine ⟨b, β2, hbn, hb2, ?_⟩
    refine ok_step (ρ1 := stL β rs k none (.ls (nD L)) .no .no .no .no .no .no) (by unfold stL at q ⊢; simp [Den.Cd.denD, Den.fsStar, Den.f1, Den.fExt, Den.fRep, Den.fTr, Den.fCh, Den.opI, Den.opB, Den.opC, Den.opM, Den.bodyRun, Den.Ss.den, Den.S.den, Den.C.den, Den.C.denT, Den.Cs.denA, Den.Cs.denO, Den.Cs.denAT, Den.Cs.denOT, Den.Cs.denV, Den.Cs.denF, Den.Co.den, Den.Co.denT, Den.Ci.den, Den.Tg.den, Den.Tg.dens, Den.Tg.slots, Den.Tg.slotsL, Den.parL, Den.fSeq, Den.fRet, Den.fRetN, Den.fNop, Den.fBk, Den.fCt, Den.fSet, Den.fO, Den.fDrop, Den.SlOf, Den.notBg, Den.fIfS, Den.fIf, Den.fT, Den.truth, Den.fAnd, Den.fOr, Den.fNot, Den.fAndV, Den.fOrV, Den.fNotV, Den.isB, Den.fV, Den.fF, Den.frz, Den.half, Den.vw, Den.vws, Den.f1, Den.f2, Den.fL, Den.fM, Den.fVar, Den.fC, Den.fTup, Den.fLst, Den.fsCons, Den.fsNil, Den.fSetIx, Den.fAugIx, Den.fAug, Den.asInt, Den.items, Den.putItems, Den.sameKind, Den.fMut, Den.φApp, Den.φIns, Den.fCall, Den.fCallM, Den.fPar, Den.fPar3, Den.fAsg, Den.gNm, Den.gTp, Den.gsCons, Den.gsNil, Den.fSl, Den.fPt, Den.φSl, Den.add_int, Den.sub_int, Den.φNeg, Den.φCmp, Den.φIs, Den.φIsNot, Den.isNone, Den.len_lst, Den.len_tup, Den.φAbs, Den.φInt, Den.φTuple, Den.φList, Den.fdmt, Den.fdnp, L2.ixN, Den.eq_str, Den.ne_str, Den.eq_int, Den.ne_int, Den.ix_lst, Den.ix_tup, Den.at_zero, Den.at_one, Den.at_two, Den.at_three, Den.lim_lit, q, nD]) ?_
    refine ok_step (ρ1 := stL β2 rs k (some b) (.va (.list (nD L))) .no .no .no .no .no .no) ?_ (ok_nil ⟨rfl, .va (.list (nD L)), rfl, rfl⟩)
    unfold stL
    simp [Den.Cd.denD, Den.fsStar, Den.f1, Den.fExt, Den.fRep, Den.fTr, Den.fCh, Den.opI, Den.opB, Den.opC, Den.opM, Den.bodyRun, Den.Ss.den, Den.S.den, Den.C.den, Den.C.denT, Den.Cs.denA, Den.Cs.denO, Den.Cs.denAT, Den.Cs.denOT, Den.Cs.denV, Den.Cs.denF, Den.Co.den, Den.Co.denT, Den.Ci.den, Den.Tg.den, Den.Tg.dens, Den.Tg.slots, Den.Tg.slotsL, Den.parL, Den.fSeq, Den.fRet, Den.fRetN, Den.fNop, Den.fBk, Den.fCt, Den.fSet, Den.fO, Den.fDrop, Den.SlOf, Den.notBg, Den.fIfS, Den.fIf, Den.fT, Den.truth, Den.fAnd, Den.fOr, Den.fNot, Den.fAndV, Den.fOrV, Den.fNotV, Den.isB, Den.fV, Den.fF, Den.frz, Den.half, Den.vw, Den.vws, Den.f1, Den.f2, Den.fL, Den.fM, Den.fVar, Den.fC, Den.fTup, Den.fLst, Den.fsCons, Den.fsNil, Den.fSetIx, Den.fAugIx, Den.fAug, Den.asInt, Den.items, Den.putItems, Den.sameKind, Den.fMut, Den.φApp, Den.φIns, Den.fCall, Den.fCallM, Den.fPar, Den.fPar3, Den.fAsg, Den.gNm, Den.gTp, Den.gsCons, Den.gsNil, Den.fSl, Den.fPt, Den.φSl, Den.add_int, Den.sub_int, Den.φNeg, Den.φCmp, Den.φIs, Den.φIsNot, Den.isNone, Den.len_lst, Den.len_tup, Den.φAbs, Den.φInt, Den.φTuple, Den.φList, Den.fdmt, Den.fdnp, L2.ixN, Den.eq_str, Den.ne_str, Den.eq_int, Den.ne_int, Den.ix_lst, Den.ix_tup, Den.at_zero, Den.at_one, Den.at_two, Den.at_three, Den.lim_lit, g_lany_laid, mt_ltake, np_ltake, mt_lsome, np_lsome, e1, e2, ht, pD]
  · obtain ⟨b, β2, hbn, hb2, e2⟩ := pick (things := List.range rs.length) (by
      intro z
      have := congrArg List.length z
      rw [List.length_range, List.length_nil] at this
      omega) (by rw [List.length_range]; exact hl1) (fun x hx => List.mem_range.mp hx)
    refine ⟨b, β2, hbn, hb2, ?_⟩
    refine ok_step (ρ1 := stL β rs k none (.ls (nD L)) .no .no .no .no .no .no) (by unfold stL at q ⊢; simp [Den.Cd.denD, Den.fsStar, Den.f1, Den.fExt, Den.fRep, Den.fTr, Den.fCh, Den.opI, Den.opB, Den.opC, Den.opM, Den.bodyRun, Den.Ss.den, Den.S.den, Den.C.den, Den.C.denT, Den.Cs.denA, Den.Cs.denO, Den.Cs.denAT, Den.Cs.denOT, Den.Cs.denV, Den.Cs.denF, Den.Co.den, Den.Co.denT, Den.Ci.den, Den.Tg.den, Den.Tg.dens, Den.Tg.slots, Den.Tg.slotsL, Den.parL, Den.fSeq, Den.fRet, Den.fRetN, Den.fNop, Den.fBk, Den.fCt, Den.fSet, Den.fO, Den.fDrop, Den.SlOf, Den.notBg, Den.fIfS, Den.fIf, Den.fT, Den.truth, Den.fAnd, Den.fOr, Den.fNot, Den.fAndV, Den.fOrV, Den.fNotV, Den.isB, Den.fV, Den.fF, Den.frz, Den.half, Den.vw, Den.vws, Den.f1, Den.f2, Den.fL, Den.fM, Den.fVar, Den.fC, Den.fTup, Den.fLst, Den.fsCons, Den.fsNil, Den.fSetIx, Den.fAugIx, Den.fAug, Den.asInt, Den.items, Den.putItems, Den.sameKind, Den.fMut, Den.φApp, Den.φIns, Den.fCall, Den.fCallM, Den.fPar, Den.fPar3, Den.fAsg, Den.gNm, Den.gTp, Den.gsCons, Den.gsNil, Den.fSl, Den.fPt, Den.φSl, Den.add_int, Den.sub_int, Den.φNeg, Den.φCmp, Den.φIs, Den.φIsNot, Den.isNone, Den.len_lst, Den.len_tup, Den.φAbs, Den.φInt, Den.φTuple, Den.φList, Den.fdmt, Den.fdnp, L2.ixN, Den.eq_str, Den.ne_str, Den.eq_int, Den.ne_int, Den.ix_lst, Den.ix_tup, Den.at_zero, Den.at_one, Den.at_two, Den.at_three, Den.lim_lit, q, nD]) ?_
    refine ok_step (ρ1 := stL β2 rs k (some b) (.ls (nD L)) .no .no .no .no .no .no) ?_ (ok_nil ⟨rfl, .ls (nD L), rfl, rfl⟩)
    have hr := rng_ok hl1
    unfold stL
    simp [Den.Cd.denD, Den.fsStar, Den.f1, Den.fExt, Den.fRep, Den.fTr, Den.fCh, Den.opI, Den.opB, Den.opC, Den.opM, Den.bodyRun, Den.Ss.den, Den.S.den, Den.C.den, Den.C.denT, Den.Cs.denA, Den.Cs.denO, Den.Cs.denAT, Den.Cs.denOT, Den.Cs.denV, Den.Cs.denF, Den.Co.den, Den.Co.denT, Den.Ci.den, Den.Tg.den, Den.Tg.dens, Den.Tg.slots, Den.Tg.slotsL, Den.parL, Den.fSeq, Den.fRet, Den.fRetN, Den.fNop, Den.fBk, Den.fCt, Den.fSet, Den.fO, Den.fDrop, Den.SlOf, Den.notBg, Den.fIfS, Den.fIf, Den.fT, Den.truth, Den.fAnd, Den.fOr, Den.fNot, Den.fAndV, Den.fOrV, Den.fNotV, Den.isB, Den.fV, Den.fF, Den.frz, Den.half, Den.vw, Den.vws, Den.f1, Den.f2, Den.fL, Den.fM, Den.fVar, Den.fC, Den.fTup, Den.fLst, Den.fsCons, Den.fsNil, Den.fSetIx, Den.fAugIx, Den.fAug, Den.asInt, Den.items, Den.putItems, Den.sameKind, Den.fMut, Den.φApp, Den.φIns, Den.fCall, Den.fCallM, Den.fPar, Den.fPar3, Den.fAsg, Den.gNm, Den.gTp, Den.gsCons, Den.gsNil, Den.fSl, Den.fPt, Den.φSl, Den.add_int, Den.sub_int, Den.φNeg, Den.φCmp, Den.φIs, Den.φIsNot, Den.isNone, Den.len_lst, Den.len_tup, Den.φAbs, Den.φInt, Den.φTuple, Den.φList, Den.fdmt, Den.fdnp, L2.ixN, Den.eq_str, Den.ne_str, Den.eq_int, Den.ne_int, Den.ix_lst, Den.ix_tup, Den.at_zero, Den.at_one, Den.at_two, Den.at_three, Den.lim_lit, g_lany_laid, mt_ltake, np_ltake, mt_lsome, np_lsome, e1, ht, pD, fLr, fR1, hr, rng_nat, e2]
theorem step_ok {β : List D} {big : Option Nat} {s4 s7 s8 s10 s11 : Sl} {v : Nat} {sm : List Nat} (hb : Bag β) (h : Dun rs) (hv : v < rs.length) :
    Ok (b_lany_laid_0.den g_lany_laid (stL β rs k big s4 (.va (.int (v : Int))) (.ls (nD sm)) s7 s8 s10 s11)) fun o ρ => o = .nx ∧ ∃ β' u, u < rs.length ∧ Bag β' ∧ ρ = stL β' rs k big s4 (.va (.int ((u : Nat) : Int))) (.ls (nD sm)) s7 s8 s10 s11 := by
  unfold b_lany_laid_0
  by_cases h0 : v = 0
  · subst h0
    refine ok_step (ρ1 := stL β rs k big s4 (.va (.int ((0 : Nat) : Int))) (.ls (nD sm)) s7 s8 s10 s11) (by unfold stL; simp [Den.Cd.denD, Den.fsStar, Den.f1, Den.fExt, Den.fRep, Den.fTr, Den.fCh, Den.opI, Den.opB, Den.opC, Den.opM, Den.bodyRun, Den.Ss.den, Den.S.den, Den.C.den, Den.C.denT, Den.Cs.denA, Den.Cs.denO, Den.Cs.denAT, Den.Cs.denOT, Den.Cs.denV, Den.Cs.denF, Den.Co.den, Den.Co.denT, Den.Ci.den, Den.Tg.den, Den.Tg.dens, Den.Tg.slots, Den.Tg.slotsL, Den.parL, Den.fSeq, Den.fRet, Den.fRetN, Den.fNop, Den.fBk, Den.fCt, Den.fSet, Den.fO, Den.fDrop, Den.SlOf, Den.notBg, Den.fIfS, Den.fIf, Den.fT, Den.truth, Den.fAnd, Den.fOr, Den.fNot, Den.fAndV, Den.fOrV, Den.fNotV, Den.isB, Den.fV, Den.fF, Den.frz, Den.half, Den.vw, Den.vws, Den.f1, Den.f2, Den.fL, Den.fM, Den.fVar, Den.fC, Den.fTup, Den.fLst, Den.fsCons, Den.fsNil, Den.fSetIx, Den.fAugIx, Den.fAug, Den.asInt, Den.items, Den.putItems, Den.sameKind, Den.fMut, Den.φApp, Den.φIns, Den.fCall, Den.fCallM, Den.fPar, Den.fPar3, Den.fAsg, Den.gNm, Den.gTp, Den.gsCons, Den.gsNil, Den.fSl, Den.fPt, Den.φSl, Den.add_int, Den.sub_int, Den.φNeg, Den.φCmp, Den.φIs, Den.φIsNot, Den.isNone, Den.len_lst, Den.len_tup, Den.φAbs, Den.φInt, Den.φTuple, Den.φList, Den.fdmt, Den.fdnp, L2.ixN, Den.eq_str, Den.ne_str, Den.eq_int, Den.ne_int, Den.ix_lst, Den.ix_tup, Den.at_zero, Den.at_one, Den.at_two, Den.at_three, Den.lim_lit]) (ok_nil ⟨rfl, β, 0, hv, hb, rfl⟩)
  · have hpos : 0 < v := by omega
    obtain ⟨t, β1, t0, t1, hb1, e1⟩ := take_ok (m := 2) hb (by omega) (by omega)
    obtain ⟨p, _, hp, e2⟩ := par_some h hv hpos
    by_cases ht : t = 0
    · subst ht
      refine ok_step (ρ1 := stL β1 rs k big s4 (.va (.int ((p : Nat) : Int))) (.ls (nD sm)) s7 s8 s10 s11) ?_ (ok_nil ⟨rfl, β1, p, by omega, hb1, rfl⟩)
      unfold stL
      simp [Den.Cd.denD, Den.fsStar, Den.f1, Den.fExt, Den.fRep, Den.fTr, Den.fCh, Den.opI, Den.opB, Den.opC, Den.opM, Den.bodyRun, Den.Ss.den, Den.S.den, Den.C.den, Den.C.denT, Den.Cs.denA, Den.Cs.denO, Den.Cs.denAT, Den.Cs.denOT, Den.Cs.denV, Den.Cs.denF, Den.Co.den, Den.Co.denT, Den.Ci.den, Den.Tg.den, Den.Tg.dens, Den.Tg.slots, Den.Tg.slotsL, Den.parL, Den.fSeq, Den.fRet, Den.fRetN, Den.fNop, Den.fBk, Den.fCt, Den.fSet, Den.fO, Den.fDrop, Den.SlOf, Den.notBg, Den.fIfS, Den.fIf, Den.fT, Den.truth, Den.fAnd, Den.fOr, Den.fNot, Den.fAndV, Den.fOrV, Den.fNotV, Den.isB, Den.fV, Den.fF, Den.frz, Den.half, Den.vw, Den.vws, Den.f1, Den.f2, Den.fL, Den.fM, Den.fVar, Den.fC, Den.fTup, Den.fLst, Den.fsCons, Den.fsNil, Den.fSetIx, Den.fAugIx, Den.fAug, Den.asInt, Den.items, Den.putItems, Den.sameKind, Den.fMut, Den.φApp, Den.φIns, Den.fCall, Den.fCallM, Den.fPar, Den.fPar3, Den.fAsg, Den.gNm, Den.gTp, Den.gsCons, Den.gsNil, Den.fSl, Den.fPt, Den.φSl, Den.add_int, Den.sub_int, Den.φNeg, Den.φCmp, Den.φIs, Den.φIsNot, Den.isNone, Den.len_lst, Den.len_tup, Den.φAbs, Den.φInt, Den.φTuple, Den.φList, Den.fdmt, Den.fdnp, L2.ixN, Den.eq_str, Den.ne_str, Den.eq_int, Den.ne_int, Den.ix_lst, Den.ix_tup, Den.at_zero, Den.at_one, Den.at_two, Den.at_three, Den.lim_lit, g_lany_laid, mt_ltake, np_ltake, e1, hpos, room_at hv, roomD, e2, pD]
    · refine ok_step (ρ1 := stL β1 rs k big s4 (.va (.int ((v : Nat) : Int))) (.ls (nD sm)) s7 s8 s10 s11) ?_ (ok_nil ⟨rfl, β1, v, hv, hb1, rfl⟩)
      unfold stL
      simp [Den.Cd.denD, Den.fsStar, Den.f1, Den.fExt, Den.fRep, Den.fTr, Den.fCh, Den.opI, Den.opB, Den.opC, Den.opM, Den.bodyRun, Den.Ss.den, Den.S.den, Den.C.den, Den.C.denT, Den.Cs.denA, Den.Cs.denO, Den.Cs.denAT, Den.Cs.denOT, Den.Cs.denV, Den.Cs.denF, Den.Co.den, Den.Co.denT, Den.Ci.den, Den.Tg.den, Den.Tg.dens, Den.Tg.slots, Den.Tg.slotsL, Den.parL, Den.fSeq, Den.fRet, Den.fRetN, Den.fNop, Den.fBk, Den.fCt, Den.fSet, Den.fO, Den.fDrop, Den.SlOf, Den.notBg, Den.fIfS, Den.fIf, Den.fT, Den.truth, Den.fAnd, Den.fOr, Den.fNot, Den.fAndV, Den.fOrV, Den.fNotV, Den.isB, Den.fV, Den.fF, Den.frz, Den.half, Den.vw, Den.vws, Den.f1, Den.f2, Den.fL, Den.fM, Den.fVar, Den.fC, Den.fTup, Den.fLst, Den.fsCons, Den.fsNil, Den.fSetIx, Den.fAugIx, Den.fAug, Den.asInt, Den.items, Den.putItems, Den.sameKind, Den.fMut, Den.φApp, Den.φIns, Den.fCall, Den.fCallM, Den.fPar, Den.fPar3, Den.fAsg, Den.gNm, Den.gTp, Den.gsCons, Den.gsNil, Den.fSl, Den.fPt, Den.φSl, Den.add_int, Den.sub_int, Den.φNeg, Den.φCmp, Den.φIs, Den.φIsNot, Den.isNone, Den.len_lst, Den.len_tup, Den.φAbs, Den.φInt, Den.φTuple, Den.φList, Den.fdmt, Den.fdnp, L2.ixN, Den.eq_str, Den.ne_str, Den.eq_int, Den.ne_int, Den.ix_lst, Den.ix_tup, Den.at_zero, Den.at_one, Den.at_two, Den.at_three, Den.lim_lit, g_lany_laid, mt_ltake, np_ltake, e1, hpos, ht]
theorem turn_ok {β : List D} {big : Option Nat} {s4 s5 s8 s10 s11 : Sl} {w : Int} {sm : List Nat} (hb : Bag β) (h : Dun rs) (hw : 0 ≤ w ∧ w < 4) (hl : sm.length = rs.length) (p5 : Nb s5) (p11 : Nb s11) :
    Ok (b_lany_laid_1.den g_lany_laid (stL β rs k big s4 s5 (.ls (nD sm)) (.va (.int w)) s8 s10 s11)) fun o ρ => o = .nx ∧ ∃ β' t5 t11 sm', Nb t5 ∧ Nb t11 ∧ sm'.length = rs.length ∧ sm'.sum = sm.sum + 1 ∧ Bag β' ∧ ρ = stL β' rs k big s4 t5 (.ls (nD sm')) (.va (.int w)) s8 s10 t11 := by
  unfold b_lany_laid_1
  have hl1 := h.len1
  have hl0 := h.len0
  obtain ⟨t, β1, t0, t1, hb1, e1⟩ := take_ok (m := rs.length) hb (by omega) (by omega)
  obtain ⟨v, rfl⟩ : ∃ v : Nat, t = v := ⟨t.toNat, by omega⟩
  refine ok_step (ρ1 := stL β1 rs k big s4 (.va (.int (v : Int))) (.ls (nD sm)) (.va (.int w)) s8 s10 s11) ?_ ?_
  · unfold stL
    cases s5 <;> first | cases p5; done | simp [Den.Cd.denD, Den.fsStar, Den.f1, Den.fExt, Den.fRep, Den.fTr, Den.fCh, Den.opI, Den.opB, Den.opC, Den.opM, Den.bodyRun, Den.Ss.den, Den.S.den, Den.C.den, Den.C.denT, Den.Cs.denA, Den.Cs.denO, Den.Cs.denAT, Den.Cs.denOT, Den.Cs.denV, Den.Cs.denF, Den.Co.den, Den.Co.denT, Den.Ci.den, Den.Tg.den, Den.Tg.dens, Den.Tg.slots, Den.Tg.slotsL, Den.parL, Den.fSeq, Den.fRet, Den.fRetN, Den.fNop, Den.fBk, Den.fCt, Den.fSet, Den.fO, Den.fDrop, Den.SlOf, Den.notBg, Den.fIfS, Den.fIf, Den.fT, Den.truth, Den.fAnd, Den.fOr, Den.fNot, Den.fAndV, Den.fOrV, Den.fNotV, Den.isB, Den.fV, Den.fF, Den.frz, Den.half, Den.vw, Den.vws, Den.f1, Den.f2, Den.fL, Den.fM, Den.fVar, Den.fC, Den.fTup, Den.fLst, Den.fsCons, Den.fsNil, Den.fSetIx, Den.fAugIx, Den.fAug, Den.asInt, Den.items, Den.putItems, Den.sameKind, Den.fMut, Den.φApp, Den.φIns, Den.fCall, Den.fCallM, Den.fPar, Den.fPar3, Den.fAsg, Den.gNm, Den.gTp, Den.gsCons, Den.gsNil, Den.fSl, Den.fPt, Den.φSl, Den.add_int, Den.sub_int, Den.φNeg, Den.φCmp, Den.φIs, Den.φIsNot, Den.isNone, Den.len_lst, Den.len_tup, Den.φAbs, Den.φInt, Den.φTuple, Den.φList, Den.fdmt, Den.fdnp, L2.ixN, Den.eq_str, Den.ne_str, Den.eq_int, Den.ne_int, Den.ix_lst, Den.ix_tup, Den.at_zero, Den.at_one, Den.at_two, Den.at_three, Den.lim_lit, g_lany_laid, mt_ltake, np_ltake, e1]
  refine ok_cons (ok_for (ds := rng 0 w) (ρ1 := stL β1 rs k big s4 (.va (.int (v : Int))) (.ls (nD sm)) (.va (.int w)) s8 s10 s11)
    (fun ds ρ => ∃ β u t11, u < rs.length ∧ Bag β ∧ Nb t11 ∧ ρ = stL β rs k big s4 (.va (.int ((u : Nat) : Int))) (.ls (nD sm)) (.va (.int w)) s8 s10 t11)
    (by rw [it_rng1 (x := w) (ρ1 := stL β1 rs k big s4 (.va (.int (v : Int))) (.ls (nD sm)) (.va (.int w)) s8 s10 s11) (by unfold stL; simp [Den.Cd.denD, Den.fsStar, Den.f1, Den.fExt, Den.fRep, Den.fTr, Den.fCh, Den.opI, Den.opB, Den.opC, Den.opM, Den.bodyRun, Den.Ss.den, Den.S.den, Den.C.den, Den.C.denT, Den.Cs.denA, Den.Cs.denO, Den.Cs.denAT, Den.Cs.denOT, Den.Cs.denV, Den.Cs.denF, Den.Co.den, Den.Co.denT, Den.Ci.den, Den.Tg.den, Den.Tg.dens, Den.Tg.slots, Den.Tg.slotsL, Den.parL, Den.fSeq, Den.fRet, Den.fRetN, Den.fNop, Den.fBk, Den.fCt, Den.fSet, Den.fO, Den.fDrop, Den.SlOf, Den.notBg, Den.fIfS, Den.fIf, Den.fT, Den.truth, Den.fAnd, Den.fOr, Den.fNot, Den.fAndV, Den.fOrV, Den.fNotV, Den.isB, Den.fV, Den.fF, Den.frz, Den.half, Den.vw, Den.vws, Den.f1, Den.f2, Den.fL, Den.fM, Den.fVar, Den.fC, Den.fTup, Den.fLst, Den.fsCons, Den.fsNil, Den.fSetIx, Den.fAugIx, Den.fAug, Den.asInt, Den.items, Den.putItems, Den.sameKind, Den.fMut, Den.φApp, Den.φIns, Den.fCall, Den.fCallM, Den.fPar, Den.fPar3, Den.fAsg, Den.gNm, Den.gTp, Den.gsCons, Den.gsNil, Den.fSl, Den.fPt, Den.φSl, Den.add_int, Den.sub_int, Den.φNeg, Den.φCmp, Den.φIs, Den.φIsNot, Den.isNone, Den.len_lst, Den.len_tup, Den.φAbs, Den.φInt, Den.φTuple, Den.φList, Den.fdmt, Den.fdnp, L2.ixN, Den.eq_str, Den.ne_str, Den.eq_int, Den.ne_int, Den.ix_lst, Den.ix_tup, Den.at_zero, Den.at_one, Den.at_two, Den.at_three, Den.lim_lit]) (by omega)]) ⟨β1, v, s11, by omega, hb1, p11, rfl⟩ ?_ ?_)
  · rintro d ds ρ ⟨β, u, t11, hu, hb, p11, rfl⟩
    refine ⟨stL β rs k big s4 (.va (.int ((u : Nat) : Int))) (.ls (nD sm)) (.va (.int w)) s8 s10 (.va d), nm_ok p11 rfl rfl, ok_mono (step_ok hb h hu) ?_⟩
    rintro o ρ ⟨rfl, β', u', hu', hb', rfl⟩
    exact ⟨β', u', _, hu', hb', nb_va, rfl⟩
  · rintro ρ ⟨β, u, t11, hu, hb, p11, rfl⟩
    have hu2 : u < sm.length := by omega
    refine ok_step (ρ1 := stL β rs k big s4 (.va (.int ((u : Nat) : Int))) (.ls (nD (sm.set u (sm[u] + 1)))) (.va (.int w)) s8 s10 t11) ?_ (ok_nil ⟨rfl, β, _, t11, _, nb_va, p11, by rw [List.length_set]; exact hl, sum_set hu2, hb, rfl⟩)
    unfold stL
    have e3 := ixN_nat (n := (nD sm).length) (v := u) (by rw [nD_len]; exact hu2)
    rw [← aug_one hu2]
    have hu3 : u < (nD sm).length := by rw [nD_len]; exact hu2
    simp [Den.Cd.denD, Den.fsStar, Den.f1, Den.fExt, Den.fRep, Den.fTr, Den.fCh, Den.opI, Den.opB, Den.opC, Den.opM, Den.bodyRun, Den.Ss.den, Den.S.den, Den.C.den, Den.C.denT, Den.Cs.denA, Den.Cs.denO, Den.Cs.denAT, Den.Cs.denOT, Den.Cs.denV, Den.Cs.denF, Den.Co.den, Den.Co.denT, Den.Ci.den, Den.Tg.den, Den.Tg.dens, Den.Tg.slots, Den.Tg.slotsL, Den.parL, Den.fSeq, Den.fRet, Den.fRetN, Den.fNop, Den.fBk, Den.fCt, Den.fSet, Den.fO, Den.fDrop, Den.SlOf, Den.notBg, Den.fIfS, Den.fIf, Den.fT, Den.truth, Den.fAnd, Den.fOr, Den.fNot, Den.fAndV, Den.fOrV, Den.fNotV, Den.isB, Den.fV, Den.fF, Den.frz, Den.half, Den.vw, Den.vws, Den.f1, Den.f2, Den.fL, Den.fM, Den.fVar, Den.fC, Den.fTup, Den.fLst, Den.fsCons, Den.fsNil, Den.fSetIx, Den.fAugIx, Den.fAug, Den.asInt, Den.items, Den.putItems, Den.sameKind, Den.fMut, Den.φApp, Den.φIns, Den.fCall, Den.fCallM, Den.fPar, Den.fPar3, Den.fAsg, Den.gNm, Den.gTp, Den.gsCons, Den.gsNil, Den.fSl, Den.fPt, Den.φSl, Den.add_int, Den.sub_int, Den.φNeg, Den.φCmp, Den.φIs, Den.φIsNot, Den.isNone, Den.len_lst, Den.len_tup, Den.φAbs, Den.φInt, Den.φTuple, Den.φList, Den.fdmt, Den.fdnp, L2.ixN, Den.eq_str, Den.ne_str, Den.eq_int, Den.ne_int, Den.ix_lst, Den.ix_tup, Den.at_zero, Den.at_one, Den.at_two, Den.at_three, Den.lim_lit, e3, hu3, nD_getE hu3 hu2]
theorem rest_ok {β : List D} {big : Option Nat} {s4 : Sl} (hb : Bag β) (h : Dun rs) (p4 : Nb s4) (hL : Laid rs big (List.replicate rs.length 0)) :
    Ok (Ss.den g_lany_laid (.cons (.par 6 7 (.rep (.lst (.cons (.int 0) .nil)) (.blt .len (.cons (.var 2) .nil))) (.callM 3 0 (.cons (.int 4) .nil)))
  (.cons (.set 8 (.blt .len (.cons q_lany_laid_1 .nil)))
  (.cons (.fors (.nm 10) (.rng1 (.callM 2 0 (.cons (.lst (.cons (.var 8) (.cons (.var 8) (.cons (.bin .add (.var 8) (.int 1)) (.cons (.blt .max (.cons (.int 0) (.cons (.bin .sub (.var 8) (.int 1)) .nil))) (.cons (.callM 3 0 (.cons (.int 4) .nil)) .nil)))))) .nil)))
    b_lany_laid_1)
  (.cons (.ret (.tup (.cons (.var 3) (.cons (.blt .tuple (.cons (.var 6) .nil)) .nil)))) .nil)))) (stL β rs k big s4 .no .no .no .no .no .no))
    fun o ρ => ∃ β', ρ[0]? = some (.bg β') ∧ match o with
      | .rt r => ∃ big sm, r = .va (laidD big sm) ∧ Laid rs big sm ∧ Bag β'
      | .nx => ∃ big sm, RR.va .none = .va (laidD big sm) ∧ Laid rs big sm ∧ Bag β'
      | _ => False := by
  have hl1 := h.len1
  have hl0 := h.len0
  obtain ⟨w, β1, w0, w1, hb1, e1⟩ := take_ok (m := 4) hb (by omega) (by omega)
  have hz : [PyData.int 0].length * ((rs.length : Nat) : Int).toNat ≤ lim := by
    simp
    show _ ≤ 1000000
    omega
  have hr := rng_ok hl1
  refine ok_step (ρ1 := stL β1 rs k big s4 .no (.ls (nD (List.replicate rs.length 0))) (.va (.int w)) .no .no .no) ?_ ?_
  · unfold stL
    simp [Den.Cd.denD, Den.fsStar, Den.f1, Den.fExt, Den.fRep, Den.fTr, Den.fCh, Den.opI, Den.opB, Den.opC, Den.opM, Den.bodyRun, Den.Ss.den, Den.S.den, Den.C.den, Den.C.denT, Den.Cs.denA, Den.Cs.denO, Den.Cs.denAT, Den.Cs.denOT, Den.Cs.denV, Den.Cs.denF, Den.Co.den, Den.Co.denT, Den.Ci.den, Den.Tg.den, Den.Tg.dens, Den.Tg.slots, Den.Tg.slotsL, Den.parL, Den.fSeq, Den.fRet, Den.fRetN, Den.fNop, Den.fBk, Den.fCt, Den.fSet, Den.fO, Den.fDrop, Den.SlOf, Den.notBg, Den.fIfS, Den.fIf, Den.fT, Den.truth, Den.fAnd, Den.fOr, Den.fNot, Den.fAndV, Den.fOrV, Den.fNotV, Den.isB, Den.fV, Den.fF, Den.frz, Den.half, Den.vw, Den.vws, Den.f1, Den.f2, Den.fL, Den.fM, Den.fVar, Den.fC, Den.fTup, Den.fLst, Den.fsCons, Den.fsNil, Den.fSetIx, Den.fAugIx, Den.fAug, Den.asInt, Den.items, Den.putItems, Den.sameKind, Den.fMut, Den.φApp, Den.φIns, Den.fCall, Den.fCallM, Den.fPar, Den.fPar3, Den.fAsg, Den.gNm, Den.gTp, Den.gsCons, Den.gsNil, Den.fSl, Den.fPt, Den.φSl, Den.add_int, Den.sub_int, Den.φNeg, Den.φCmp, Den.φIs, Den.φIsNot, Den.isNone, Den.len_lst, Den.len_tup, Den.φAbs, Den.φInt, Den.φTuple, Den.φList, Den.fdmt, Den.fdnp, L2.ixN, Den.eq_str, Den.ne_str, Den.eq_int, Den.ne_int, Den.ix_lst, Den.ix_tup, Den.at_zero, Den.at_one, Den.at_two, Den.at_three, Den.lim_lit, g_lany_laid, mt_ltake, np_ltake, e1, hr, hz, rep_zero2]
  have q : q_lany_laid_1.den g_lany_laid (stL β1 rs k big s4 .no (.ls (nD (List.replicate rs.length 0))) (.va (.int w)) .no .no .no) = some (.ls ((rs.filter fun r => isLockD r.way).map roomD), stL β1 rs k big s4 .no (.ls (nD (List.replicate rs.length 0))) (.va (.int w)) .no .no .no) := by
    unfold q_lany_laid_1
    refine lc1 (l := rs) (f := roomD) (g := roomD) (b := fun r => isLockD r.way) (s := .no) (ρ1 := stL β1 rs k big s4 .no (.ls (nD (List.replicate rs.length 0))) (.va (.int w)) .no .no .no) (by unfold stL; simp [Den.Cd.denD, Den.fsStar, Den.f1, Den.fExt, Den.fRep, Den.fTr, Den.fCh, Den.opI, Den.opB, Den.opC, Den.opM, Den.bodyRun, Den.Ss.den, Den.S.den, Den.C.den, Den.C.denT, Den.Cs.denA, Den.Cs.denO, Den.Cs.denAT, Den.Cs.denOT, Den.Cs.denV, Den.Cs.denF, Den.Co.den, Den.Co.denT, Den.Ci.den, Den.Tg.den, Den.Tg.dens, Den.Tg.slots, Den.Tg.slotsL, Den.parL, Den.fSeq, Den.fRet, Den.fRetN, Den.fNop, Den.fBk, Den.fCt, Den.fSet, Den.fO, Den.fDrop, Den.SlOf, Den.notBg, Den.fIfS, Den.fIf, Den.fT, Den.truth, Den.fAnd, Den.fOr, Den.fNot, Den.fAndV, Den.fOrV, Den.fNotV, Den.isB, Den.fV, Den.fF, Den.frz, Den.half, Den.vw, Den.vws, Den.f1, Den.f2, Den.fL, Den.fM, Den.fVar, Den.fC, Den.fTup, Den.fLst, Den.fsCons, Den.fsNil, Den.fSetIx, Den.fAugIx, Den.fAug, Den.asInt, Den.items, Den.putItems, Den.sameKind, Den.fMut, Den.φApp, Den.φIns, Den.fCall, Den.fCallM, Den.fPar, Den.fPar3, Den.fAsg, Den.gNm, Den.gTp, Den.gsCons, Den.gsNil, Den.fSl, Den.fPt, Den.φSl, Den.add_int, Den.sub_int, Den.φNeg, Den.φCmp, Den.φIs, Den.φIsNot, Den.isNone, Den.len_lst, Den.len_tup, Den.φAbs, Den.φInt, Den.φTuple, Den.φList, Den.fdmt, Den.fdnp, L2.ixN, Den.eq_str, Den.ne_str, Den.eq_int, Den.ne_int, Den.ix_lst, Den.ix_tup, Den.at_zero, Den.at_one, Den.at_two, Den.at_three, Den.lim_lit, fIt, its]) (lim_11 hl1) rfl (fun r hr => ?_) (fun r hr _ => by rfl)
    unfold stL
    simp [Den.Cd.denD, Den.fsStar, Den.f1, Den.fExt, Den.fRep, Den.fTr, Den.fCh, Den.opI, Den.opB, Den.opC, Den.opM, Den.bodyRun, Den.Ss.den, Den.S.den, Den.C.den, Den.C.denT, Den.Cs.denA, Den.Cs.denO, Den.Cs.denAT, Den.Cs.denOT, Den.Cs.denV, Den.Cs.denF, Den.Co.den, Den.Co.denT, Den.Ci.den, Den.Tg.den, Den.Tg.dens, Den.Tg.slots, Den.Tg.slotsL, Den.parL, Den.fSeq, Den.fRet, Den.fRetN, Den.fNop, Den.fBk, Den.fCt, Den.fSet, Den.fO, Den.fDrop, Den.SlOf, Den.notBg, Den.fIfS, Den.fIf, Den.fT, Den.truth, Den.fAnd, Den.fOr, Den.fNot, Den.fAndV, Den.fOrV, Den.fNotV, Den.isB, Den.fV, Den.fF, Den.frz, Den.half, Den.vw, Den.vws, Den.f1, Den.f2, Den.fL, Den.fM, Den.fVar, Den.fC, Den.fTup, Den.fLst, Den.fsCons, Den.fsNil, Den.fSetIx, Den.fAugIx, Den.fAug, Den.asInt, Den.items, Den.putItems, Den.sameKind, Den.fMut, Den.φApp, Den.φIns, Den.fCall, Den.fCallM, Den.fPar, Den.fPar3, Den.fAsg, Den.gNm, Den.gTp, Den.gsCons, Den.gsNil, Den.fSl, Den.fPt, Den.φSl, Den.add_int, Den.sub_int, Den.φNeg, Den.φCmp, Den.φIs, Den.φIsNot, Den.isNone, Den.len_lst, Den.len_tup, Den.φAbs, Den.φInt, Den.φTuple, Den.φList, Den.fdmt, Den.fdnp, L2.ixN, Den.eq_str, Den.ne_str, Den.eq_int, Den.ne_int, Den.ix_lst, Den.ix_tup, Den.at_zero, Den.at_one, Den.at_two, Den.at_three, Den.lim_lit, roomD, (way_eq h hr).1]
  generalize hM : (rs.filter fun r => isLockD r.way) = M at q
  have hM2 : M.length ≤ 11 := by
    rw [← hM]
    exact Nat.le_trans (List.length_filter_le _ _) hl1
  refine ok_step (ρ1 := stL β1 rs k big s4 .no (.ls (nD (List.replicate rs.length 0))) (.va (.int w)) (.va (.int (M.length : Int))) .no .no) ?_ ?_
  · unfold stL at q ⊢
    simp [Den.Cd.denD, Den.fsStar, Den.f1, Den.fExt, Den.fRep, Den.fTr, Den.fCh, Den.opI, Den.opB, Den.opC, Den.opM, Den.bodyRun, Den.Ss.den, Den.S.den, Den.C.den, Den.C.denT, Den.Cs.denA, Den.Cs.denO, Den.Cs.denAT, Den.Cs.denOT, Den.Cs.denV, Den.Cs.denF, Den.Co.den, Den.Co.denT, Den.Ci.den, Den.Tg.den, Den.Tg.dens, Den.Tg.slots, Den.Tg.slotsL, Den.parL, Den.fSeq, Den.fRet, Den.fRetN, Den.fNop, Den.fBk, Den.fCt, Den.fSet, Den.fO, Den.fDrop, Den.SlOf, Den.notBg, Den.fIfS, Den.fIf, Den.fT, Den.truth, Den.fAnd, Den.fOr, Den.fNot, Den.fAndV, Den.fOrV, Den.fNotV, Den.isB, Den.fV, Den.fF, Den.frz, Den.half, Den.vw, Den.vws, Den.f1, Den.f2, Den.fL, Den.fM, Den.fVar, Den.fC, Den.fTup, Den.fLst, Den.fsCons, Den.fsNil, Den.fSetIx, Den.fAugIx, Den.fAug, Den.asInt, Den.items, Den.putItems, Den.sameKind, Den.fMut, Den.φApp, Den.φIns, Den.fCall, Den.fCallM, Den.fPar, Den.fPar3, Den.fAsg, Den.gNm, Den.gTp, Den.gsCons, Den.gsNil, Den.fSl, Den.fPt, Den.φSl, Den.add_int, Den.sub_int, Den.φNeg, Den.φCmp, Den.φIs, Den.φIsNot, Den.isNone, Den.len_lst, Den.len_tup, Den.φAbs, Den.φInt, Den.φTuple, Den.φList, Den.fdmt, Den.fdnp, L2.ixN, Den.eq_str, Den.ne_str, Den.eq_int, Den.ne_int, Den.ix_lst, Den.ix_tup, Den.at_zero, Den.at_one, Den.at_two, Den.at_three, Den.lim_lit, q]
  obtain ⟨w2, β2, w20, w21, hb2, e2⟩ := take_ok (m := 4) hb1 (by omega) (by omega)
  obtain ⟨x3, β3, ⟨T, rfl, hT⟩, hb3, e3⟩ := some_p (things := [.int (M.length : Int), .int (M.length : Int), .int ((M.length : Int) + 1), .int (if 1 < (M.length : Int) then (M.length : Int) - 1 else 0), .int w2]) (fun x => ∃ c : Nat, x = .int (c : Int) ∧ c ≤ 12) hb2 (by simp) (by simp) (by
    intro x hx
    simp only [List.mem_cons, List.not_mem_nil, or_false] at hx
    rcases hx with rfl | rfl | rfl | rfl | rfl
    · exact ⟨M.length, rfl, by omega⟩
    · exact ⟨M.length, rfl, by omega⟩
    · exact ⟨M.length + 1, by simp, by omega⟩
    · exact ⟨M.length - 1, by congr 1; split <;> omega, by omega⟩
    · exact ⟨w2.toNat, by congr 1; omega, by omega⟩)
  refine ok_cons (ok_for (ds := nD (List.range T)) (ρ1 := stL β3 rs k big s4 .no (.ls (nD (List.replicate rs.length 0))) (.va (.int w)) (.va (.int (M.length : Int))) .no .no)
    (fun ds ρ => ∃ β s5 s10 s11 sm, Bag β ∧ Nb s5 ∧ Nb s10 ∧ Nb s11 ∧ sm.length = rs.length ∧ sm.sum + ds.length ≤ 12 ∧ ρ = stL β rs k big s4 s5 (.ls (nD sm)) (.va (.int w)) (.va (.int (M.length : Int))) s10 s11)
    ?_ ⟨β3, .no, .no, .no, _, hb3, rfl, rfl, rfl, hL.len, by rw [nD_len, List.length_range, List.sum_replicate_nat]; omega, rfl⟩ ?_ ?_)
  · rw [it_rng1 (x := (T : Int)) (ρ1 := stL β3 rs k big s4 .no (.ls (nD (List.replicate rs.length 0))) (.va (.int w)) (.va (.int (M.length : Int))) .no .no) ?_ (by omega), rng_nat]
    unfold stL
    simp [Den.Cd.denD, Den.fsStar, Den.f1, Den.fExt, Den.fRep, Den.fTr, Den.fCh, Den.opI, Den.opB, Den.opC, Den.opM, Den.bodyRun, Den.Ss.den, Den.S.den, Den.C.den, Den.C.denT, Den.Cs.denA, Den.Cs.denO, Den.Cs.denAT, Den.Cs.denOT, Den.Cs.denV, Den.Cs.denF, Den.Co.den, Den.Co.denT, Den.Ci.den, Den.Tg.den, Den.Tg.dens, Den.Tg.slots, Den.Tg.slotsL, Den.parL, Den.fSeq, Den.fRet, Den.fRetN, Den.fNop, Den.fBk, Den.fCt, Den.fSet, Den.fO, Den.fDrop, Den.SlOf, Den.notBg, Den.fIfS, Den.fIf, Den.fT, Den.truth, Den.fAnd, Den.fOr, Den.fNot, Den.fAndV, Den.fOrV, Den.fNotV, Den.isB, Den.fV, Den.fF, Den.frz, Den.half, Den.vw, Den.vws, Den.f1, Den.f2, Den.fL, Den.fM, Den.fVar, Den.fC, Den.fTup, Den.fLst, Den.fsCons, Den.fsNil, Den.fSetIx, Den.fAugIx, Den.fAug, Den.asInt, Den.items, Den.putItems, Den.sameKind, Den.fMut, Den.φApp, Den.φIns, Den.fCall, Den.fCallM, Den.fPar, Den.fPar3, Den.fAsg, Den.gNm, Den.gTp, Den.gsCons, Den.gsNil, Den.fSl, Den.fPt, Den.φSl, Den.add_int, Den.sub_int, Den.φNeg, Den.φCmp, Den.φIs, Den.φIsNot, Den.isNone, Den.len_lst, Den.len_tup, Den.φAbs, Den.φInt, Den.φTuple, Den.φList, Den.fdmt, Den.fdnp, L2.ixN, Den.eq_str, Den.ne_str, Den.eq_int, Den.ne_int, Den.ix_lst, Den.ix_tup, Den.at_zero, Den.at_one, Den.at_two, Den.at_three, Den.lim_lit, g_lany_laid, mt_ltake, np_ltake, mt_lsome, np_lsome, e2, φMax, e3]
  · rintro d ds ρ ⟨β, s5, s10, s11, sm, hb, p5, p10, p11, hl, hs, rfl⟩
    refine ⟨stL β rs k big s4 s5 (.ls (nD sm)) (.va (.int w)) (.va (.int (M.length : Int))) (.va d) s11, nm_ok p10 rfl rfl, ok_mono (turn_ok hb h ⟨w0, w1⟩ hl p5 p11) ?_⟩
    rintro o ρ ⟨rfl, β', t5, t11, sm', q5, q11, hl', hs', hb', rfl⟩
    refine ⟨β', t5, _, t11, sm', hb', q5, nb_va, q11, hl', ?_, rfl⟩
    simp at hs
    omega
  · rintro ρ ⟨β, s5, s10, s11, sm, hb, p5, p10, p11, hl, hs, rfl⟩
    refine ok_last (r := .va (laidD big sm)) (ρ1 := stL β rs k big s4 s5 (.ls (nD sm)) (.va (.int w)) (.va (.int (M.length : Int))) s10 s11) ?_ ⟨β, rfl, big, sm, rfl, ⟨hL.bg, hL.no, hL.yes, hl, by simp at hs; omega⟩, hb⟩
    unfold stL
    simp [Den.Cd.denD, Den.fsStar, Den.f1, Den.fExt, Den.fRep, Den.fTr, Den.fCh, Den.opI, Den.opB, Den.opC, Den.opM, Den.bodyRun, Den.Ss.den, Den.S.den, Den.C.den, Den.C.denT, Den.Cs.denA, Den.Cs.denO, Den.Cs.denAT, Den.Cs.denOT, Den.Cs.denV, Den.Cs.denF, Den.Co.den, Den.Co.denT, Den.Ci.den, Den.Tg.den, Den.Tg.dens, Den.Tg.slots, Den.Tg.slotsL, Den.parL, Den.fSeq, Den.fRet, Den.fRetN, Den.fNop, Den.fBk, Den.fCt, Den.fSet, Den.fO, Den.fDrop, Den.SlOf, Den.notBg, Den.fIfS, Den.fIf, Den.fT, Den.truth, Den.fAnd, Den.fOr, Den.fNot, Den.fAndV, Den.fOrV, Den.fNotV, Den.isB, Den.fV, Den.fF, Den.frz, Den.half, Den.vw, Den.vws, Den.f1, Den.f2, Den.fL, Den.fM, Den.fVar, Den.fC, Den.fTup, Den.fLst, Den.fsCons, Den.fsNil, Den.fSetIx, Den.fAugIx, Den.fAug, Den.asInt, Den.items, Den.putItems, Den.sameKind, Den.fMut, Den.φApp, Den.φIns, Den.fCall, Den.fCallM, Den.fPar, Den.fPar3, Den.fAsg, Den.gNm, Den.gTp, Den.gsCons, Den.gsNil, Den.fSl, Den.fPt, Den.φSl, Den.add_int, Den.sub_int, Den.φNeg, Den.φCmp, Den.φIs, Den.φIsNot, Den.isNone, Den.len_lst, Den.len_tup, Den.φAbs, Den.φInt, Den.φTuple, Den.φList, Den.fdmt, Den.fdnp, L2.ixN, Den.eq_str, Den.ne_str, Den.eq_int, Den.ne_int, Den.ix_lst, Den.ix_tup, Den.at_zero, Den.at_one, Den.at_two, Den.at_three, Den.lim_lit, laidD]
theorem any_laid_ok {β : List D} (hb : Bag β) (h : Dun rs) : Ans (d_lany_laid.run β [dunD rs k]) fun r β' => ∃ big sm, r = .va (laidD big sm) ∧ Laid rs big sm ∧ Bag β' := by
  have hl1 := h.len1
  have hl0 := h.len0
  rw [r_lany_laid]
  refine run_t ?_
  refine ok_step (ρ1 := stL β rs k none .no .no .no .no .no .no .no) (by unfold stL; simp [Den.Cd.denD, Den.fsStar, Den.f1, Den.fExt, Den.fRep, Den.fTr, Den.fCh, Den.opI, Den.opB, Den.opC, Den.opM, Den.bodyRun, Den.Ss.den, Den.S.den, Den.C.den, Den.C.denT, Den.Cs.denA, Den.Cs.denO, Den.Cs.denAT, Den.Cs.denOT, Den.Cs.denV, Den.Cs.denF, Den.Co.den, Den.Co.denT, Den.Ci.den, Den.Tg.den, Den.Tg.dens, Den.Tg.slots, Den.Tg.slotsL, Den.parL, Den.fSeq, Den.fRet, Den.fRetN, Den.fNop, Den.fBk, Den.fCt, Den.fSet, Den.fO, Den.fDrop, Den.SlOf, Den.notBg, Den.fIfS, Den.fIf, Den.fT, Den.truth, Den.fAnd, Den.fOr, Den.fNot, Den.fAndV, Den.fOrV, Den.fNotV, Den.isB, Den.fV, Den.fF, Den.frz, Den.half, Den.vw, Den.vws, Den.f1, Den.f2, Den.fL, Den.fM, Den.fVar, Den.fC, Den.fTup, Den.fLst, Den.fsCons, Den.fsNil, Den.fSetIx, Den.fAugIx, Den.fAug, Den.asInt, Den.items, Den.putItems, Den.sameKind, Den.fMut, Den.φApp, Den.φIns, Den.fCall, Den.fCallM, Den.fPar, Den.fPar3, Den.fAsg, Den.gNm, Den.gTp, Den.gsCons, Den.gsNil, Den.fSl, Den.fPt, Den.φSl, Den.add_int, Den.sub_int, Den.φNeg, Den.φCmp, Den.φIs, Den.φIsNot, Den.isNone, Den.len_lst, Den.len_tup, Den.φAbs, Den.φInt, Den.φTuple, Den.φList, Den.fdmt, Den.fdnp, L2.ixN, Den.eq_str, Den.ne_str, Den.eq_int, Den.ne_int, Den.ix_lst, Den.ix_tup, Den.at_zero, Den.at_one, Den.at_two, Den.at_three, Den.lim_lit, dunD, pD]) ?_
  have e0 := cf (lis_barred_ok (k := k) h) mt_lis_barred np_lis_barred
  refine ok_cons (ok_if (v := barredB rs) (ρ1 := stL β rs k none .no .no .no .no .no .no .no) (by unfold stL; simp [Den.Cd.denD, Den.fsStar, Den.f1, Den.fExt, Den.fRep, Den.fTr, Den.fCh, Den.opI, Den.opB, Den.opC, Den.opM, Den.bodyRun, Den.Ss.den, Den.S.den, Den.C.den, Den.C.denT, Den.Cs.denA, Den.Cs.denO, Den.Cs.denAT, Den.Cs.denOT, Den.Cs.denV, Den.Cs.denF, Den.Co.den, Den.Co.denT, Den.Ci.den, Den.Tg.den, Den.Tg.dens, Den.Tg.slots, Den.Tg.slotsL, Den.parL, Den.fSeq, Den.fRet, Den.fRetN, Den.fNop, Den.fBk, Den.fCt, Den.fSet, Den.fO, Den.fDrop, Den.SlOf, Den.notBg, Den.fIfS, Den.fIf, Den.fT, Den.truth, Den.fAnd, Den.fOr, Den.fNot, Den.fAndV, Den.fOrV, Den.fNotV, Den.isB, Den.fV, Den.fF, Den.frz, Den.half, Den.vw, Den.vws, Den.f1, Den.f2, Den.fL, Den.fM, Den.fVar, Den.fC, Den.fTup, Den.fLst, Den.fsCons, Den.fsNil, Den.fSetIx, Den.fAugIx, Den.fAug, Den.asInt, Den.items, Den.putItems, Den.sameKind, Den.fMut, Den.φApp, Den.φIns, Den.fCall_eq, Den.fCallM_eq, Den.fPar, Den.fPar3, Den.fAsg, Den.gNm, Den.gTp, Den.gsCons, Den.gsNil, Den.fSl, Den.fPt, Den.φSl, Den.add_int, Den.sub_int, Den.φNeg, Den.φCmp, Den.φIs, Den.φIsNot, Den.isNone, Den.len_lst, Den.len_tup, Den.φAbs, Den.φInt, Den.φTuple, Den.φList, Den.fdmt, Den.fdnp, L2.ixN, Den.eq_str, Den.ne_str, Den.eq_int, Den.ne_int, Den.ix_lst, Den.ix_tup, Den.at_zero, Den.at_one, Den.at_two, Den.at_three, Den.lim_lit, g_lany_laid, e0]) (fun hbar => ?_) (fun hbar => ?_))
  · obtain ⟨b, β1, hbn, hb1, hok⟩ := big_drawn (k := k) hb h hbar
    refine ok_mono hok ?_
    rintro o ρ ⟨rfl, s4, p4, rfl⟩
    exact rest_ok (big := some b) hb1 h p4 ⟨(fun u e => by cases e; exact hbn), (fun e => by cases e), (fun e => by rw [hbar] at e; cases e), by simp, by simp⟩
  · exact ok_nil (rest_ok (big := none) hb h rfl ⟨(fun u e => by cases e), fun _ => hbar, fun _ => rfl, by simp, by simp⟩)
end W

set_option autoImplicit false
/-! loops by index; the law's parts -/
namespace W
open PySem PySem.Spec L2 Den
variable {rs : List Rm} {k : Int}
section
variable {Γ : Gam} {it : Ci} {t : Tg} {a : Ss} {ρ ρ1 : Lo} {P : Out → Lo → Prop}
theorem for_at {α : Type} {f : α → D} {l : List α} (I : Nat → Lo → Prop) (hit : it.den Γ ρ = some (l.map f, ρ1)) (h0 : I 0 ρ1)
    (step : ∀ i (hi : i < l.length) ρ, I i ρ → ∃ ρ', t.den (f l[i]) ρ = some ρ' ∧ Ok (a.den Γ ρ') fun o ρ2 => match o with
      | .nx => I (i + 1) ρ2
      | .ct => I (i + 1) ρ2
      | .bk => P .nx ρ2
      | .rt r => P (.rt r) ρ2) (fin : ∀ ρ, I l.length ρ → P .nx ρ) : Ok ((S.fors t it a).den Γ ρ) P := by
  refine ok_for (fun ds ρ => ∃ i, i ≤ l.length ∧ ds = (l.drop i).map f ∧ I i ρ) hit ⟨0, Nat.zero_le _, rfl, h0⟩ ?_ ?_
  · rintro d ds ρ ⟨i, hi, he, hI⟩
    have hlt : i < l.length := by
      rcases Nat.lt_or_eq_of_le hi with z | z
      · exact z
      · rw [z, List.drop_length] at he
        cases he
    rw [List.drop_eq_getElem_cons hlt, List.map_cons] at he
    obtain ⟨e1, e2⟩ := List.cons.inj he
    subst e1 e2
    obtain ⟨ρ', e3, h⟩ := step i hlt ρ hI
    refine ⟨ρ', e3, ok_mono h fun o ρ2 q => ?_⟩
    cases o with
    | nx => exact ⟨i + 1, hlt, rfl, q⟩
    | ct => exact ⟨i + 1, hlt, rfl, q⟩
    | bk => exact q
    | rt r => exact q
  · rintro ρ ⟨i, hi, he, hI⟩
    have : i = l.length := by
      have := congrArg List.length he
      simp at this
      omega
    subst this
    exact fin ρ hI
end
def enI (rs : List Rm) (i : Nat) : D := .tuple [.int (i : Int), (rs.map roomD)[i]?.getD .none]
theorem enI_at {i : Nat} (h : i < rs.length) : enI rs i = .tuple [.int (i : Int), roomD rs[i]] := by
  unfold enI
  rw [List.getElem?_map, List.getElem?_eq_getElem h]
  rfl
theorem enum_rooms : enumFrom 0 (rs.map roomD) = (List.range rs.length).map (enI rs) := by
  have e := enum_map (xs := rs.map roomD) (k := 0)
  rw [List.length_map] at e
  rw [e]
  refine List.map_congr_left fun i _ => ?_
  unfold enI
  rw [Nat.zero_add]
/-- the ways, as they are asked -/
theorem opn_at (h : Dun rs) {v : Nat} (hv : v < rs.length) : φEq rs[v].way (.str "open") = some (.va (.bool (isOpn rs v))) ∧ φNe rs[v].way (.str "open") = some (.va (.bool (!isOpn rs v))) := by
  unfold isOpn
  rw [List.getElem?_eq_getElem hv]
  show φEq rs[v].way (.str "open") = some (RR.va (PyData.bool (isOpenD rs[v].way))) ∧ φNe rs[v].way (.str "open") = some (RR.va (PyData.bool (!isOpenD rs[v].way)))
  by_cases h0 : v = 0
  · subst h0
    rw [(h.root rs[0] (List.getElem?_eq_getElem hv)).2]
    exact ⟨if_pos (.inl ⟨rfl, by decide +kernel⟩), if_pos (.inl ⟨rfl, by decide +kernel⟩)⟩
  · rcases h.way v rs[v] (List.getElem?_eq_getElem hv) (by omega) with e | e | e <;> rw [e] <;> exact ⟨eq_str, ne_str⟩
theorem lck_at (h : Dun rs) {v : Nat} (hv : v < rs.length) : φEq rs[v].way (.str "lock") = some (.va (.bool (isLck rs v))) := by
  unfold isLck
  rw [List.getElem?_eq_getElem hv]
  exact (way_eq h (List.getElem_mem hv)).1
theorem add_tup {xs ys : List D} (h : xs.length + ys.length ≤ lim) : φAdd (.tuple xs) (.tuple ys) = some (.va (.tuple (xs ++ ys))) := if_pos h
/-! ### sizes -/
theorem ext_len {v : Nat} {p : List Nat} : (ext rs v p).length ≤ 2 := by
  unfold ext
  rw [List.length_append]
  split <;> split <;> simp
theorem flat_len {v : Nat} : ∀ {l : List (List Nat)}, (l.flatMap (ext rs v)).length ≤ 2 * l.length
  | [] => by simp
  | p :: l => by
    have h1 := ext_len (rs := rs) (v := v) (p := p)
    have h2 := flat_len (v := v) (l := l)
    rw [List.flatMap_cons, List.length_append, List.length_cons]
    omega
theorem grow_len : ∀ {m : Nat}, (grow rs m).length ≤ 2 ^ m
  | 0 => by simp [grow]
  | m + 1 => by
    have := flat_len (rs := rs) (v := m + 1) (l := grow rs m)
    have h2 := grow_len (m := m)
    rw [grow, Nat.pow_succ]
    omega
theorem grow_small (h : Dun rs) {m : Nat} (hm : m < rs.length) : (grow rs m).length ≤ 1024 := by
  have h1 := h.len1
  have := grow_len (rs := rs) (m := m)
  have h2 : 2 ^ m ≤ 2 ^ 10 := Nat.pow_le_pow_right (by omega) (by omega)
  omega
/-! ### the law's parts -/
def stP (rs : List Rm) (k : Int) (big : Option Nat) (s2 s3 s4 s5 s6 s7 s8 s9 s10 s12 : Sl) : Lo := [.va (dunD rs k), .va (pD big), s2, s3, s4, s5, s6, s7, s8, s9, s10, .no, s12]
theorem lp0_ok (h : Dun rs) {big : Option Nat} {s2 s6 s9 s10 s12 : Sl} {v : Nat} (hv : v < rs.length) {p : List Nat} {acc : List (List Nat)} (hp : p.length ≤ 100) (ha : acc.length ≤ 10000) :
    Ok (b_lparts_0.den g_lparts (stP rs k big s2 (.va (.int (v : Int))) (.va (pD (parOf rs v))) (.va rs[v].way) s6 (.ls (acc.map tN)) (.va (tN p)) s9 s10 s12))
      fun o ρ => o = .nx ∧ ρ = stP rs k big s2 (.va (.int (v : Int))) (.va (pD (parOf rs v))) (.va rs[v].way) s6 (.ls ((acc ++ ext rs v p).map tN)) (.va (tN p)) s9 s10 s12 := by
  unfold b_lparts_0
  have c1 : (acc.map tN).length < lim := by
    rw [List.length_map]
    show _ < 1000000
    omega
  have c4 : acc.length < lim := by
    show _ < 1000000
    omega
  have c2 : ((acc ++ [p]).map tN).length < lim := by
    rw [List.length_map, List.length_append]
    show _ < 1000000
    simp
    omega
  have c3 : (nD p).length + [PyData.int (v : Int)].length ≤ lim := by
    rw [nD_len]
    simp
    show _ ≤ 1000000
    omega
  have e1 := notin_pD (l := p) (parOf rs v)
  have e2 := in_pD (l := p) (parOf rs v)
  have e3 := (opn_at h hv).2
  have e4 : nD p ++ [PyData.int (v : Int)] = nD (p ++ [v]) := by rw [nD_app]; rfl
  have hd : ext rs v p = (if (!oin (parOf rs v) p || !isOpn rs v) = true then [p] else []) ++ (if oin (parOf rs v) p = true then [p ++ [v]] else []) := rfl
  rw [hd]
  cases a : oin (parOf rs v) p <;> cases b : isOpn rs v <;> rw [a] at e1 e2 <;> rw [b] at e3
  · refine ok_cons (ok_if (v := true) (ρ1 := stP rs k big s2 (.va (.int (v : Int))) (.va (pD (parOf rs v))) (.va rs[v].way) s6 (.ls (acc.map tN)) (.va (tN p)) s9 s10 s12) (by unfold stP tN; simp [Den.Cd.denD, Den.fsStar, Den.f1, Den.fExt, Den.fRep, Den.fTr, Den.fCh, Den.opI, Den.opB, Den.opC, Den.opM, Den.bodyRun, Den.Ss.den, Den.S.den, Den.C.den, Den.C.denT, Den.Cs.denA, Den.Cs.denO, Den.Cs.denAT, Den.Cs.denOT, Den.Cs.denV, Den.Cs.denF, Den.Co.den, Den.Co.denT, Den.Ci.den, Den.Tg.den, Den.Tg.dens, Den.Tg.slots, Den.Tg.slotsL, Den.parL, Den.fSeq, Den.fRet, Den.fRetN, Den.fNop, Den.fBk, Den.fCt, Den.fSet, Den.fO, Den.fDrop, Den.SlOf, Den.notBg, Den.fIfS, Den.fIf, Den.fT, Den.truth, Den.fAnd, Den.fOr, Den.fNot, Den.fAndV, Den.fOrV, Den.fNotV, Den.isB, Den.fV, Den.fF, Den.frz, Den.half, Den.vw, Den.vws, Den.f1, Den.f2, Den.fL, Den.fM, Den.fVar, Den.fC, Den.fTup, Den.fLst, Den.fsCons, Den.fsNil, Den.fSetIx, Den.fAugIx, Den.fAug, Den.asInt, Den.items, Den.putItems, Den.sameKind, Den.fMut, Den.φApp, Den.φIns, Den.fCall, Den.fCallM, Den.fPar, Den.fPar3, Den.fAsg, Den.gNm, Den.gTp, Den.gsCons, Den.gsNil, Den.fSl, Den.fPt, Den.φSl, Den.add_int, Den.sub_int, Den.φNeg, Den.φCmp, Den.φIs, Den.φIsNot, Den.isNone, Den.len_lst, Den.len_tup, Den.φAbs, Den.φInt, Den.φTuple, Den.φList, Den.fdmt, Den.fdnp, L2.ixN, Den.eq_str, Den.ne_str, Den.eq_int, Den.ne_int, Den.ix_lst, Den.ix_tup, Den.at_zero, Den.at_one, Den.at_two, Den.at_three, Den.lim_lit, e1]) (fun _ => ?_) (fun z => by cases z))
    refine ok_step (ρ1 := stP rs k big s2 (.va (.int (v : Int))) (.va (pD (parOf rs v))) (.va rs[v].way) s6 (.ls ((acc ++ [p]).map tN)) (.va (tN p)) s9 s10 s12) (by unfold stP; simp [Den.Cd.denD, Den.fsStar, Den.f1, Den.fExt, Den.fRep, Den.fTr, Den.fCh, Den.opI, Den.opB, Den.opC, Den.opM, Den.bodyRun, Den.Ss.den, Den.S.den, Den.C.den, Den.C.denT, Den.Cs.denA, Den.Cs.denO, Den.Cs.denAT, Den.Cs.denOT, Den.Cs.denV, Den.Cs.denF, Den.Co.den, Den.Co.denT, Den.Ci.den, Den.Tg.den, Den.Tg.dens, Den.Tg.slots, Den.Tg.slotsL, Den.parL, Den.fSeq, Den.fRet, Den.fRetN, Den.fNop, Den.fBk, Den.fCt, Den.fSet, Den.fO, Den.fDrop, Den.SlOf, Den.notBg, Den.fIfS, Den.fIf, Den.fT, Den.truth, Den.fAnd, Den.fOr, Den.fNot, Den.fAndV, Den.fOrV, Den.fNotV, Den.isB, Den.fV, Den.fF, Den.frz, Den.half, Den.vw, Den.vws, Den.f1, Den.f2, Den.fL, Den.fM, Den.fVar, Den.fC, Den.fTup, Den.fLst, Den.fsCons, Den.fsNil, Den.fSetIx, Den.fAugIx, Den.fAug, Den.asInt, Den.items, Den.putItems, Den.sameKind, Den.fMut, Den.φApp, Den.φIns, Den.fCall, Den.fCallM, Den.fPar, Den.fPar3, Den.fAsg, Den.gNm, Den.gTp, Den.gsCons, Den.gsNil, Den.fSl, Den.fPt, Den.φSl, Den.add_int, Den.sub_int, Den.φNeg, Den.φCmp, Den.φIs, Den.φIsNot, Den.isNone, Den.len_lst, Den.len_tup, Den.φAbs, Den.φInt, Den.φTuple, Den.φList, Den.fdmt, Den.fdnp, L2.ixN, Den.eq_str, Den.ne_str, Den.eq_int, Den.ne_int, Den.ix_lst, Den.ix_tup, Den.at_zero, Den.at_one, Den.at_two, Den.at_three, Den.lim_lit, c4]) (ok_nil ?_)
    refine ok_cons (ok_if (v := false) (ρ1 := stP rs k big s2 (.va (.int (v : Int))) (.va (pD (parOf rs v))) (.va rs[v].way) s6 (.ls ((acc ++ [p]).map tN)) (.va (tN p)) s9 s10 s12) (by unfold stP tN; simp [Den.Cd.denD, Den.fsStar, Den.f1, Den.fExt, Den.fRep, Den.fTr, Den.fCh, Den.opI, Den.opB, Den.opC, Den.opM, Den.bodyRun, Den.Ss.den, Den.S.den, Den.C.den, Den.C.denT, Den.Cs.denA, Den.Cs.denO, Den.Cs.denAT, Den.Cs.denOT, Den.Cs.denV, Den.Cs.denF, Den.Co.den, Den.Co.denT, Den.Ci.den, Den.Tg.den, Den.Tg.dens, Den.Tg.slots, Den.Tg.slotsL, Den.parL, Den.fSeq, Den.fRet, Den.fRetN, Den.fNop, Den.fBk, Den.fCt, Den.fSet, Den.fO, Den.fDrop, Den.SlOf, Den.notBg, Den.fIfS, Den.fIf, Den.fT, Den.truth, Den.fAnd, Den.fOr, Den.fNot, Den.fAndV, Den.fOrV, Den.fNotV, Den.isB, Den.fV, Den.fF, Den.frz, Den.half, Den.vw, Den.vws, Den.f1, Den.f2, Den.fL, Den.fM, Den.fVar, Den.fC, Den.fTup, Den.fLst, Den.fsCons, Den.fsNil, Den.fSetIx, Den.fAugIx, Den.fAug, Den.asInt, Den.items, Den.putItems, Den.sameKind, Den.fMut, Den.φApp, Den.φIns, Den.fCall, Den.fCallM, Den.fPar, Den.fPar3, Den.fAsg, Den.gNm, Den.gTp, Den.gsCons, Den.gsNil, Den.fSl, Den.fPt, Den.φSl, Den.add_int, Den.sub_int, Den.φNeg, Den.φCmp, Den.φIs, Den.φIsNot, Den.isNone, Den.len_lst, Den.len_tup, Den.φAbs, Den.φInt, Den.φTuple, Den.φList, Den.fdmt, Den.fdnp, L2.ixN, Den.eq_str, Den.ne_str, Den.eq_int, Den.ne_int, Den.ix_lst, Den.ix_tup, Den.at_zero, Den.at_one, Den.at_two, Den.at_three, Den.lim_lit, e2]) (fun z => by cases z) (fun _ => ok_nil (ok_nil ⟨rfl, by simp⟩)))
  · refine ok_cons (ok_if (v := true) (ρ1 := stP rs k big s2 (.va (.int (v : Int))) (.va (pD (parOf rs v))) (.va rs[v].way) s6 (.ls (acc.map tN)) (.va (tN p)) s9 s10 s12) (by unfold stP tN; simp [Den.Cd.denD, Den.fsStar, Den.f1, Den.fExt, Den.fRep, Den.fTr, Den.fCh, Den.opI, Den.opB, Den.opC, Den.opM, Den.bodyRun, Den.Ss.den, Den.S.den, Den.C.den, Den.C.denT, Den.Cs.denA, Den.Cs.denO, Den.Cs.denAT, Den.Cs.denOT, Den.Cs.denV, Den.Cs.denF, Den.Co.den, Den.Co.denT, Den.Ci.den, Den.Tg.den, Den.Tg.dens, Den.Tg.slots, Den.Tg.slotsL, Den.parL, Den.fSeq, Den.fRet, Den.fRetN, Den.fNop, Den.fBk, Den.fCt, Den.fSet, Den.fO, Den.fDrop, Den.SlOf, Den.notBg, Den.fIfS, Den.fIf, Den.fT, Den.truth, Den.fAnd, Den.fOr, Den.fNot, Den.fAndV, Den.fOrV, Den.fNotV, Den.isB, Den.fV, Den.fF, Den.frz, Den.half, Den.vw, Den.vws, Den.f1, Den.f2, Den.fL, Den.fM, Den.fVar, Den.fC, Den.fTup, Den.fLst, Den.fsCons, Den.fsNil, Den.fSetIx, Den.fAugIx, Den.fAug, Den.asInt, Den.items, Den.putItems, Den.sameKind, Den.fMut, Den.φApp, Den.φIns, Den.fCall, Den.fCallM, Den.fPar, Den.fPar3, Den.fAsg, Den.gNm, Den.gTp, Den.gsCons, Den.gsNil, Den.fSl, Den.fPt, Den.φSl, Den.add_int, Den.sub_int, Den.φNeg, Den.φCmp, Den.φIs, Den.φIsNot, Den.isNone, Den.len_lst, Den.len_tup, Den.φAbs, Den.φInt, Den.φTuple, Den.φList, Den.fdmt, Den.fdnp, L2.ixN, Den.eq_str, Den.ne_str, Den.eq_int, Den.ne_int, Den.ix_lst, Den.ix_tup, Den.at_zero, Den.at_one, Den.at_two, Den.at_three, Den.lim_lit, e1]) (fun _ => ?_) (fun z => by cases z))
    refine ok_step (ρ1 := stP rs k big s2 (.va (.int (v : Int))) (.va (pD (parOf rs v))) (.va rs[v].way) s6 (.ls ((acc ++ [p]).map tN)) (.va (tN p)) s9 s10 s12) (by unfold stP; simp [Den.Cd.denD, Den.fsStar, Den.f1, Den.fExt, Den.fRep, Den.fTr, Den.fCh, Den.opI, Den.opB, Den.opC, Den.opM, Den.bodyRun, Den.Ss.den, Den.S.den, Den.C.den, Den.C.denT, Den.Cs.denA, Den.Cs.denO, Den.Cs.denAT, Den.Cs.denOT, Den.Cs.denV, Den.Cs.denF, Den.Co.den, Den.Co.denT, Den.Ci.den, Den.Tg.den, Den.Tg.dens, Den.Tg.slots, Den.Tg.slotsL, Den.parL, Den.fSeq, Den.fRet, Den.fRetN, Den.fNop, Den.fBk, Den.fCt, Den.fSet, Den.fO, Den.fDrop, Den.SlOf, Den.notBg, Den.fIfS, Den.fIf, Den.fT, Den.truth, Den.fAnd, Den.fOr, Den.fNot, Den.fAndV, Den.fOrV, Den.fNotV, Den.isB, Den.fV, Den.fF, Den.frz, Den.half, Den.vw, Den.vws, Den.f1, Den.f2, Den.fL, Den.fM, Den.fVar, Den.fC, Den.fTup, Den.fLst, Den.fsCons, Den.fsNil, Den.fSetIx, Den.fAugIx, Den.fAug, Den.asInt, Den.items, Den.putItems, Den.sameKind, Den.fMut, Den.φApp, Den.φIns, Den.fCall, Den.fCallM, Den.fPar, Den.fPar3, Den.fAsg, Den.gNm, Den.gTp, Den.gsCons, Den.gsNil, Den.fSl, Den.fPt, Den.φSl, Den.add_int, Den.sub_int, Den.φNeg, Den.φCmp, Den.φIs, Den.φIsNot, Den.isNone, Den.len_lst, Den.len_tup, Den.φAbs, Den.φInt, Den.φTuple, Den.φList, Den.fdmt, Den.fdnp, L2.ixN, Den.eq_str, Den.ne_str, Den.eq_int, Den.ne_int, Den.ix_lst, Den.ix_tup, Den.at_zero, Den.at_one, Den.at_two, Den.at_three, Den.lim_lit, c4]) (ok_nil ?_)
    refine ok_cons (ok_if (v := false) (ρ1 := stP rs k big s2 (.va (.int (v : Int))) (.va (pD (parOf rs v))) (.va rs[v].way) s6 (.ls ((acc ++ [p]).map tN)) (.va (tN p)) s9 s10 s12) (by unfold stP tN; simp [Den.Cd.denD, Den.fsStar, Den.f1, Den.fExt, Den.fRep, Den.fTr, Den.fCh, Den.opI, Den.opB, Den.opC, Den.opM, Den.bodyRun, Den.Ss.den, Den.S.den, Den.C.den, Den.C.denT, Den.Cs.denA, Den.Cs.denO, Den.Cs.denAT, Den.Cs.denOT, Den.Cs.denV, Den.Cs.denF, Den.Co.den, Den.Co.denT, Den.Ci.den, Den.Tg.den, Den.Tg.dens, Den.Tg.slots, Den.Tg.slotsL, Den.parL, Den.fSeq, Den.fRet, Den.fRetN, Den.fNop, Den.fBk, Den.fCt, Den.fSet, Den.fO, Den.fDrop, Den.SlOf, Den.notBg, Den.fIfS, Den.fIf, Den.fT, Den.truth, Den.fAnd, Den.fOr, Den.fNot, Den.fAndV, Den.fOrV, Den.fNotV, Den.isB, Den.fV, Den.fF, Den.frz, Den.half, Den.vw, Den.vws, Den.f1, Den.f2, Den.fL, Den.fM, Den.fVar, Den.fC, Den.fTup, Den.fLst, Den.fsCons, Den.fsNil, Den.fSetIx, Den.fAugIx, Den.fAug, Den.asInt, Den.items, Den.putItems, Den.sameKind, Den.fMut, Den.φApp, Den.φIns, Den.fCall, Den.fCallM, Den.fPar, Den.fPar3, Den.fAsg, Den.gNm, Den.gTp, Den.gsCons, Den.gsNil, Den.fSl, Den.fPt, Den.φSl, Den.add_int, Den.sub_int, Den.φNeg, Den.φCmp, Den.φIs, Den.φIsNot, Den.isNone, Den.len_lst, Den.len_tup, Den.φAbs, Den.φInt, Den.φTuple, Den.φList, Den.fdmt, Den.fdnp, L2.ixN, Den.eq_str, Den.ne_str, Den.eq_int, Den.ne_int, Den.ix_lst, Den.ix_tup, Den.at_zero, Den.at_one, Den.at_two, Den.at_three, Den.lim_lit, e2]) (fun z => by cases z) (fun _ => ok_nil (ok_nil ⟨rfl, by simp⟩)))
  · refine ok_cons (ok_if (v := true) (ρ1 := stP rs k big s2 (.va (.int (v : Int))) (.va (pD (parOf rs v))) (.va rs[v].way) s6 (.ls (acc.map tN)) (.va (tN p)) s9 s10 s12) (by unfold stP tN; simp [Den.Cd.denD, Den.fsStar, Den.f1, Den.fExt, Den.fRep, Den.fTr, Den.fCh, Den.opI, Den.opB, Den.opC, Den.opM, Den.bodyRun, Den.Ss.den, Den.S.den, Den.C.den, Den.C.denT, Den.Cs.denA, Den.Cs.denO, Den.Cs.denAT, Den.Cs.denOT, Den.Cs.denV, Den.Cs.denF, Den.Co.den, Den.Co.denT, Den.Ci.den, Den.Tg.den, Den.Tg.dens, Den.Tg.slots, Den.Tg.slotsL, Den.parL, Den.fSeq, Den.fRet, Den.fRetN, Den.fNop, Den.fBk, Den.fCt, Den.fSet, Den.fO, Den.fDrop, Den.SlOf, Den.notBg, Den.fIfS, Den.fIf, Den.fT, Den.truth, Den.fAnd, Den.fOr, Den.fNot, Den.fAndV, Den.fOrV, Den.fNotV, Den.isB, Den.fV, Den.fF, Den.frz, Den.half, Den.vw, Den.vws, Den.f1, Den.f2, Den.fL, Den.fM, Den.fVar, Den.fC, Den.fTup, Den.fLst, Den.fsCons, Den.fsNil, Den.fSetIx, Den.fAugIx, Den.fAug, Den.asInt, Den.items, Den.putItems, Den.sameKind, Den.fMut, Den.φApp, Den.φIns, Den.fCall, Den.fCallM, Den.fPar, Den.fPar3, Den.fAsg, Den.gNm, Den.gTp, Den.gsCons, Den.gsNil, Den.fSl, Den.fPt, Den.φSl, Den.add_int, Den.sub_int, Den.φNeg, Den.φCmp, Den.φIs, Den.φIsNot, Den.isNone, Den.len_lst, Den.len_tup, Den.φAbs, Den.φInt, Den.φTuple, Den.φList, Den.fdmt, Den.fdnp, L2.ixN, Den.eq_str, Den.ne_str, Den.eq_int, Den.ne_int, Den.ix_lst, Den.ix_tup, Den.at_zero, Den.at_one, Den.at_two, Den.at_three, Den.lim_lit, e1, e3]) (fun _ => ?_) (fun z => by cases z))
    refine ok_step (ρ1 := stP rs k big s2 (.va (.int (v : Int))) (.va (pD (parOf rs v))) (.va rs[v].way) s6 (.ls ((acc ++ [p]).map tN)) (.va (tN p)) s9 s10 s12) (by unfold stP; simp [Den.Cd.denD, Den.fsStar, Den.f1, Den.fExt, Den.fRep, Den.fTr, Den.fCh, Den.opI, Den.opB, Den.opC, Den.opM, Den.bodyRun, Den.Ss.den, Den.S.den, Den.C.den, Den.C.denT, Den.Cs.denA, Den.Cs.denO, Den.Cs.denAT, Den.Cs.denOT, Den.Cs.denV, Den.Cs.denF, Den.Co.den, Den.Co.denT, Den.Ci.den, Den.Tg.den, Den.Tg.dens, Den.Tg.slots, Den.Tg.slotsL, Den.parL, Den.fSeq, Den.fRet, Den.fRetN, Den.fNop, Den.fBk, Den.fCt, Den.fSet, Den.fO, Den.fDrop, Den.SlOf, Den.notBg, Den.fIfS, Den.fIf, Den.fT, Den.truth, Den.fAnd, Den.fOr, Den.fNot, Den.fAndV, Den.fOrV, Den.fNotV, Den.isB, Den.fV, Den.fF, Den.frz, Den.half, Den.vw, Den.vws, Den.f1, Den.f2, Den.fL, Den.fM, Den.fVar, Den.fC, Den.fTup, Den.fLst, Den.fsCons, Den.fsNil, Den.fSetIx, Den.fAugIx, Den.fAug, Den.asInt, Den.items, Den.putItems, Den.sameKind, Den.fMut, Den.φApp, Den.φIns, Den.fCall, Den.fCallM, Den.fPar, Den.fPar3, Den.fAsg, Den.gNm, Den.gTp, Den.gsCons, Den.gsNil, Den.fSl, Den.fPt, Den.φSl, Den.add_int, Den.sub_int, Den.φNeg, Den.φCmp, Den.φIs, Den.φIsNot, Den.isNone, Den.len_lst, Den.len_tup, Den.φAbs, Den.φInt, Den.φTuple, Den.φList, Den.fdmt, Den.fdnp, L2.ixN, Den.eq_str, Den.ne_str, Den.eq_int, Den.ne_int, Den.ix_lst, Den.ix_tup, Den.at_zero, Den.at_one, Den.at_two, Den.at_three, Den.lim_lit, c4]) (ok_nil ?_)
    refine ok_cons (ok_if (v := true) (ρ1 := stP rs k big s2 (.va (.int (v : Int))) (.va (pD (parOf rs v))) (.va rs[v].way) s6 (.ls ((acc ++ [p]).map tN)) (.va (tN p)) s9 s10 s12) (by unfold stP tN; simp [Den.Cd.denD, Den.fsStar, Den.f1, Den.fExt, Den.fRep, Den.fTr, Den.fCh, Den.opI, Den.opB, Den.opC, Den.opM, Den.bodyRun, Den.Ss.den, Den.S.den, Den.C.den, Den.C.denT, Den.Cs.denA, Den.Cs.denO, Den.Cs.denAT, Den.Cs.denOT, Den.Cs.denV, Den.Cs.denF, Den.Co.den, Den.Co.denT, Den.Ci.den, Den.Tg.den, Den.Tg.dens, Den.Tg.slots, Den.Tg.slotsL, Den.parL, Den.fSeq, Den.fRet, Den.fRetN, Den.fNop, Den.fBk, Den.fCt, Den.fSet, Den.fO, Den.fDrop, Den.SlOf, Den.notBg, Den.fIfS, Den.fIf, Den.fT, Den.truth, Den.fAnd, Den.fOr, Den.fNot, Den.fAndV, Den.fOrV, Den.fNotV, Den.isB, Den.fV, Den.fF, Den.frz, Den.half, Den.vw, Den.vws, Den.f1, Den.f2, Den.fL, Den.fM, Den.fVar, Den.fC, Den.fTup, Den.fLst, Den.fsCons, Den.fsNil, Den.fSetIx, Den.fAugIx, Den.fAug, Den.asInt, Den.items, Den.putItems, Den.sameKind, Den.fMut, Den.φApp, Den.φIns, Den.fCall, Den.fCallM, Den.fPar, Den.fPar3, Den.fAsg, Den.gNm, Den.gTp, Den.gsCons, Den.gsNil, Den.fSl, Den.fPt, Den.φSl, Den.add_int, Den.sub_int, Den.φNeg, Den.φCmp, Den.φIs, Den.φIsNot, Den.isNone, Den.len_lst, Den.len_tup, Den.φAbs, Den.φInt, Den.φTuple, Den.φList, Den.fdmt, Den.fdnp, L2.ixN, Den.eq_str, Den.ne_str, Den.eq_int, Den.ne_int, Den.ix_lst, Den.ix_tup, Den.at_zero, Den.at_one, Den.at_two, Den.at_three, Den.lim_lit, e2]) (fun _ => ?_) (fun z => by cases z))
    refine ok_step (ρ1 := stP rs k big s2 (.va (.int (v : Int))) (.va (pD (parOf rs v))) (.va rs[v].way) s6 (.ls ((acc ++ [p] ++ [p ++ [v]]).map tN)) (.va (tN p)) s9 s10 s12) ?_ (ok_nil (ok_nil ⟨rfl, by simp⟩))
    generalize hA : (acc ++ [p]).map tN = A at c2 ⊢
    rw [List.map_append, hA]
    unfold stP
    simp only [List.map_cons, List.map_nil, tN]
    simp [Den.Cd.denD, Den.fsStar, Den.f1, Den.fExt, Den.fRep, Den.fTr, Den.fCh, Den.opI, Den.opB, Den.opC, Den.opM, Den.bodyRun, Den.Ss.den, Den.S.den, Den.C.den, Den.C.denT, Den.Cs.denA, Den.Cs.denO, Den.Cs.denAT, Den.Cs.denOT, Den.Cs.denV, Den.Cs.denF, Den.Co.den, Den.Co.denT, Den.Ci.den, Den.Tg.den, Den.Tg.dens, Den.Tg.slots, Den.Tg.slotsL, Den.parL, Den.fSeq, Den.fRet, Den.fRetN, Den.fNop, Den.fBk, Den.fCt, Den.fSet, Den.fO, Den.fDrop, Den.SlOf, Den.notBg, Den.fIfS, Den.fIf, Den.fT, Den.truth, Den.fAnd, Den.fOr, Den.fNot, Den.fAndV, Den.fOrV, Den.fNotV, Den.isB, Den.fV, Den.fF, Den.frz, Den.half, Den.vw, Den.vws, Den.f1, Den.f2, Den.fL, Den.fM, Den.fVar, Den.fC, Den.fTup, Den.fLst, Den.fsCons, Den.fsNil, Den.fSetIx, Den.fAugIx, Den.fAug, Den.asInt, Den.items, Den.putItems, Den.sameKind, Den.fMut, Den.φApp, Den.φIns, Den.fCall, Den.fCallM, Den.fPar, Den.fPar3, Den.fAsg, Den.gNm, Den.gTp, Den.gsCons, Den.gsNil, Den.fSl, Den.fPt, Den.φSl, Den.add_int, Den.sub_int, Den.φNeg, Den.φCmp, Den.φIs, Den.φIsNot, Den.isNone, Den.len_lst, Den.len_tup, Den.φAbs, Den.φInt, Den.φTuple, Den.φList, Den.fdmt, Den.fdnp, L2.ixN, Den.eq_str, Den.ne_str, Den.eq_int, Den.ne_int, Den.ix_lst, Den.ix_tup, Den.at_zero, Den.at_one, Den.at_two, Den.at_three, Den.lim_lit, add_tup c3, c2, e4]
  · refine ok_cons (ok_if (v := false) (ρ1 := stP rs k big s2 (.va (.int (v : Int))) (.va (pD (parOf rs v))) (.va rs[v].way) s6 (.ls (acc.map tN)) (.va (tN p)) s9 s10 s12) (by unfold stP tN; simp [Den.Cd.denD, Den.fsStar, Den.f1, Den.fExt, Den.fRep, Den.fTr, Den.fCh, Den.opI, Den.opB, Den.opC, Den.opM, Den.bodyRun, Den.Ss.den, Den.S.den, Den.C.den, Den.C.denT, Den.Cs.denA, Den.Cs.denO, Den.Cs.denAT, Den.Cs.denOT, Den.Cs.denV, Den.Cs.denF, Den.Co.den, Den.Co.denT, Den.Ci.den, Den.Tg.den, Den.Tg.dens, Den.Tg.slots, Den.Tg.slotsL, Den.parL, Den.fSeq, Den.fRet, Den.fRetN, Den.fNop, Den.fBk, Den.fCt, Den.fSet, Den.fO, Den.fDrop, Den.SlOf, Den.notBg, Den.fIfS, Den.fIf, Den.fT, Den.truth, Den.fAnd, Den.fOr, Den.fNot, Den.fAndV, Den.fOrV, Den.fNotV, Den.isB, Den.fV, Den.fF, Den.frz, Den.half, Den.vw, Den.vws, Den.f1, Den.f2, Den.fL, Den.fM, Den.fVar, Den.fC, Den.fTup, Den.fLst, Den.fsCons, Den.fsNil, Den.fSetIx, Den.fAugIx, Den.fAug, Den.asInt, Den.items, Den.putItems, Den.sameKind, Den.fMut, Den.φApp, Den.φIns, Den.fCall, Den.fCallM, Den.fPar, Den.fPar3, Den.fAsg, Den.gNm, Den.gTp, Den.gsCons, Den.gsNil, Den.fSl, Den.fPt, Den.φSl, Den.add_int, Den.sub_int, Den.φNeg, Den.φCmp, Den.φIs, Den.φIsNot, Den.isNone, Den.len_lst, Den.len_tup, Den.φAbs, Den.φInt, Den.φTuple, Den.φList, Den.fdmt, Den.fdnp, L2.ixN, Den.eq_str, Den.ne_str, Den.eq_int, Den.ne_int, Den.ix_lst, Den.ix_tup, Den.at_zero, Den.at_one, Den.at_two, Den.at_three, Den.lim_lit, e1, e3]) (fun z => by cases z) (fun _ => ok_nil ?_))
    refine ok_cons (ok_if (v := true) (ρ1 := stP rs k big s2 (.va (.int (v : Int))) (.va (pD (parOf rs v))) (.va rs[v].way) s6 (.ls (acc.map tN)) (.va (tN p)) s9 s10 s12) (by unfold stP tN; simp [Den.Cd.denD, Den.fsStar, Den.f1, Den.fExt, Den.fRep, Den.fTr, Den.fCh, Den.opI, Den.opB, Den.opC, Den.opM, Den.bodyRun, Den.Ss.den, Den.S.den, Den.C.den, Den.C.denT, Den.Cs.denA, Den.Cs.denO, Den.Cs.denAT, Den.Cs.denOT, Den.Cs.denV, Den.Cs.denF, Den.Co.den, Den.Co.denT, Den.Ci.den, Den.Tg.den, Den.Tg.dens, Den.Tg.slots, Den.Tg.slotsL, Den.parL, Den.fSeq, Den.fRet, Den.fRetN, Den.fNop, Den.fBk, Den.fCt, Den.fSet, Den.fO, Den.fDrop, Den.SlOf, Den.notBg, Den.fIfS, Den.fIf, Den.fT, Den.truth, Den.fAnd, Den.fOr, Den.fNot, Den.fAndV, Den.fOrV, Den.fNotV, Den.isB, Den.fV, Den.fF, Den.frz, Den.half, Den.vw, Den.vws, Den.f1, Den.f2, Den.fL, Den.fM, Den.fVar, Den.fC, Den.fTup, Den.fLst, Den.fsCons, Den.fsNil, Den.fSetIx, Den.fAugIx, Den.fAug, Den.asInt, Den.items, Den.putItems, Den.sameKind, Den.fMut, Den.φApp, Den.φIns, Den.fCall, Den.fCallM, Den.fPar, Den.fPar3, Den.fAsg, Den.gNm, Den.gTp, Den.gsCons, Den.gsNil, Den.fSl, Den.fPt, Den.φSl, Den.add_int, Den.sub_int, Den.φNeg, Den.φCmp, Den.φIs, Den.φIsNot, Den.isNone, Den.len_lst, Den.len_tup, Den.φAbs, Den.φInt, Den.φTuple, Den.φList, Den.fdmt, Den.fdnp, L2.ixN, Den.eq_str, Den.ne_str, Den.eq_int, Den.ne_int, Den.ix_lst, Den.ix_tup, Den.at_zero, Den.at_one, Den.at_two, Den.at_three, Den.lim_lit, e2]) (fun _ => ?_) (fun z => by cases z))
    refine ok_step (ρ1 := stP rs k big s2 (.va (.int (v : Int))) (.va (pD (parOf rs v))) (.va rs[v].way) s6 (.ls ((acc ++ [p ++ [v]]).map tN)) (.va (tN p)) s9 s10 s12) ?_ (ok_nil (ok_nil ⟨rfl, by simp⟩))
    generalize hA : acc.map tN = A at c1 ⊢
    rw [List.map_append, hA]
    unfold stP
    simp only [List.map_cons, List.map_nil, tN]
    simp [Den.Cd.denD, Den.fsStar, Den.f1, Den.fExt, Den.fRep, Den.fTr, Den.fCh, Den.opI, Den.opB, Den.opC, Den.opM, Den.bodyRun, Den.Ss.den, Den.S.den, Den.C.den, Den.C.denT, Den.Cs.denA, Den.Cs.denO, Den.Cs.denAT, Den.Cs.denOT, Den.Cs.denV, Den.Cs.denF, Den.Co.den, Den.Co.denT, Den.Ci.den, Den.Tg.den, Den.Tg.dens, Den.Tg.slots, Den.Tg.slotsL, Den.parL, Den.fSeq, Den.fRet, Den.fRetN, Den.fNop, Den.fBk, Den.fCt, Den.fSet, Den.fO, Den.fDrop, Den.SlOf, Den.notBg, Den.fIfS, Den.fIf, Den.fT, Den.truth, Den.fAnd, Den.fOr, Den.fNot, Den.fAndV, Den.fOrV, Den.fNotV, Den.isB, Den.fV, Den.fF, Den.frz, Den.half, Den.vw, Den.vws, Den.f1, Den.f2, Den.fL, Den.fM, Den.fVar, Den.fC, Den.fTup, Den.fLst, Den.fsCons, Den.fsNil, Den.fSetIx, Den.fAugIx, Den.fAug, Den.asInt, Den.items, Den.putItems, Den.sameKind, Den.fMut, Den.φApp, Den.φIns, Den.fCall, Den.fCallM, Den.fPar, Den.fPar3, Den.fAsg, Den.gNm, Den.gTp, Den.gsCons, Den.gsNil, Den.fSl, Den.fPt, Den.φSl, Den.add_int, Den.sub_int, Den.φNeg, Den.φCmp, Den.φIs, Den.φIsNot, Den.isNone, Den.len_lst, Den.len_tup, Den.φAbs, Den.φInt, Den.φTuple, Den.φList, Den.fdmt, Den.fdnp, L2.ixN, Den.eq_str, Den.ne_str, Den.eq_int, Den.ne_int, Den.ix_lst, Den.ix_tup, Den.at_zero, Den.at_one, Den.at_two, Den.at_three, Den.lim_lit, add_tup c3, c1, e4]
theorem par_eq {v : Nat} (hv : v < rs.length) : rs[v].par = parOf rs v := (parOf_at hv).symm
theorem tp_room {Γ : Gam} {ρ ρ2 : Lo} {x : D} {p q r s : Nat} {a b c d : D} (h : (Tg.tp [.nm p, .tp [.nm q, .nm r, .nm s]]).den (.tuple [a, .tuple [b, c, d]]) ρ = some ρ2) : (Tg.tp [.nm p, .tp [.nm q, .nm r, .nm s]]).den (.tuple [a, .tuple [b, c, d]]) ρ = some ρ2 := h
theorem flat_succ {v : Nat} {l : List (List Nat)} {i : Nat} (hi : i < l.length) : (l.take (i + 1)).flatMap (ext rs v) = (l.take i).flatMap (ext rs v) ++ ext rs v l[i] := by
  rw [List.take_succ_eq_append_getElem hi, List.flatMap_append]
  simp
theorem flat_small {v : Nat} {l : List (List Nat)} {i : Nat} (hl : l.length ≤ 1024) : ((l.take i).flatMap (ext rs v)).length ≤ 10000 := by
  have h1 := flat_len (rs := rs) (v := v) (l := l.take i)
  have h2 : (l.take i).length ≤ l.length := by
    rw [List.length_take]
    omega
  omega
theorem tNs_its {L : List (List Nat)} : its (.list (L.map tN)) = some (L.map tN) := rfl
/-- the part that stands in a slot as an own list, or as one that is not changed any more -/
def LsV (s : Sl) (L : List (List Nat)) : Prop := s = .ls (L.map tN) ∨ s = .va (.list (L.map tN))
theorem lp1_ok (h : Dun rs) {big : Option Nat} {s2 s6 s7 s8 : Sl} {v : Nat} (hv : v < rs.length) (h2 : LsV s2 (grow rs (v - 1))) (p7 : Nb s7) (p8 : Nb s8) :
    Ok (b_lparts_1.den g_lparts (stP rs k big s2 (.va (.int (v : Int))) (.va (pD (parOf rs v))) (.va rs[v].way) s6 s7 s8 .no .no .no))
      fun o ρ => o = .nx ∧ ∃ t2 t7 t8, LsV t2 (grow rs v) ∧ Nb t7 ∧ Nb t8 ∧ ρ = stP rs k big t2 (.va (.int (v : Int))) (.va (pD (parOf rs v))) (.va rs[v].way) s6 t7 t8 .no .no .no := by
  unfold b_lparts_1
  by_cases h0 : v = 0
  · subst h0
    refine ok_cons (ok_if (v := false) (ρ1 := stP rs k big s2 (.va (.int ((0 : Nat) : Int))) (.va (pD (parOf rs 0))) (.va rs[0].way) s6 s7 s8 .no .no .no) (by unfold stP; simp [Den.Cd.denD, Den.fsStar, Den.f1, Den.fExt, Den.fRep, Den.fTr, Den.fCh, Den.opI, Den.opB, Den.opC, Den.opM, Den.bodyRun, Den.Ss.den, Den.S.den, Den.C.den, Den.C.denT, Den.Cs.denA, Den.Cs.denO, Den.Cs.denAT, Den.Cs.denOT, Den.Cs.denV, Den.Cs.denF, Den.Co.den, Den.Co.denT, Den.Ci.den, Den.Tg.den, Den.Tg.dens, Den.Tg.slots, Den.Tg.slotsL, Den.parL, Den.fSeq, Den.fRet, Den.fRetN, Den.fNop, Den.fBk, Den.fCt, Den.fSet, Den.fO, Den.fDrop, Den.SlOf, Den.notBg, Den.fIfS, Den.fIf, Den.fT, Den.truth, Den.fAnd, Den.fOr, Den.fNot, Den.fAndV, Den.fOrV, Den.fNotV, Den.isB, Den.fV, Den.fF, Den.frz, Den.half, Den.vw, Den.vws, Den.f1, Den.f2, Den.fL, Den.fM, Den.fVar, Den.fC, Den.fTup, Den.fLst, Den.fsCons, Den.fsNil, Den.fSetIx, Den.fAugIx, Den.fAug, Den.asInt, Den.items, Den.putItems, Den.sameKind, Den.fMut, Den.φApp, Den.φIns, Den.fCall, Den.fCallM, Den.fPar, Den.fPar3, Den.fAsg, Den.gNm, Den.gTp, Den.gsCons, Den.gsNil, Den.fSl, Den.fPt, Den.φSl, Den.add_int, Den.sub_int, Den.φNeg, Den.φCmp, Den.φIs, Den.φIsNot, Den.isNone, Den.len_lst, Den.len_tup, Den.φAbs, Den.φInt, Den.φTuple, Den.φList, Den.fdmt, Den.fdnp, L2.ixN, Den.eq_str, Den.ne_str, Den.eq_int, Den.ne_int, Den.ix_lst, Den.ix_tup, Den.at_zero, Den.at_one, Den.at_two, Den.at_three, Den.lim_lit]) (fun z => by cases z) (fun _ => ok_nil (ok_nil ⟨rfl, s2, s7, s8, h2, p7, p8, rfl⟩)))
  · have hpos : 0 < v := by omega
    obtain ⟨m, rfl⟩ : ∃ m, v = m + 1 := ⟨v - 1, by omega⟩
    have hpos2 : (0 : Int) < ((m + 1 : Nat) : Int) := by omega
    rw [Nat.add_sub_cancel] at h2
    refine ok_cons (ok_if (v := true) (ρ1 := stP rs k big s2 (.va (.int ((m + 1 : Nat) : Int))) (.va (pD (parOf rs (m + 1)))) (.va rs[m + 1].way) s6 s7 s8 .no .no .no) (by unfold stP; simp [Den.Cd.denD, Den.fsStar, Den.f1, Den.fExt, Den.fRep, Den.fTr, Den.fCh, Den.opI, Den.opB, Den.opC, Den.opM, Den.bodyRun, Den.Ss.den, Den.S.den, Den.C.den, Den.C.denT, Den.Cs.denA, Den.Cs.denO, Den.Cs.denAT, Den.Cs.denOT, Den.Cs.denV, Den.Cs.denF, Den.Co.den, Den.Co.denT, Den.Ci.den, Den.Tg.den, Den.Tg.dens, Den.Tg.slots, Den.Tg.slotsL, Den.parL, Den.fSeq, Den.fRet, Den.fRetN, Den.fNop, Den.fBk, Den.fCt, Den.fSet, Den.fO, Den.fDrop, Den.SlOf, Den.notBg, Den.fIfS, Den.fIf, Den.fT, Den.truth, Den.fAnd, Den.fOr, Den.fNot, Den.fAndV, Den.fOrV, Den.fNotV, Den.isB, Den.fV, Den.fF, Den.frz, Den.half, Den.vw, Den.vws, Den.f1, Den.f2, Den.fL, Den.fM, Den.fVar, Den.fC, Den.fTup, Den.fLst, Den.fsCons, Den.fsNil, Den.fSetIx, Den.fAugIx, Den.fAug, Den.asInt, Den.items, Den.putItems, Den.sameKind, Den.fMut, Den.φApp, Den.φIns, Den.fCall, Den.fCallM, Den.fPar, Den.fPar3, Den.fAsg, Den.gNm, Den.gTp, Den.gsCons, Den.gsNil, Den.fSl, Den.fPt, Den.φSl, Den.add_int, Den.sub_int, Den.φNeg, Den.φCmp, Den.φIs, Den.φIsNot, Den.isNone, Den.len_lst, Den.len_tup, Den.φAbs, Den.φInt, Den.φTuple, Den.φList, Den.fdmt, Den.fdnp, L2.ixN, Den.eq_str, Den.ne_str, Den.eq_int, Den.ne_int, Den.ix_lst, Den.ix_tup, Den.at_zero, Den.at_one, Den.at_two, Den.at_three, Den.lim_lit, hpos2]) (fun _ => ?_) (fun z => by cases z))
    refine ok_step (ρ1 := stP rs k big s2 (.va (.int ((m + 1 : Nat) : Int))) (.va (pD (parOf rs (m + 1)))) (.va rs[m + 1].way) s6 (.ls []) s8 .no .no .no) (by unfold stP; cases s7 <;> first | cases p7; done | simp [Den.Cd.denD, Den.fsStar, Den.f1, Den.fExt, Den.fRep, Den.fTr, Den.fCh, Den.opI, Den.opB, Den.opC, Den.opM, Den.bodyRun, Den.Ss.den, Den.S.den, Den.C.den, Den.C.denT, Den.Cs.denA, Den.Cs.denO, Den.Cs.denAT, Den.Cs.denOT, Den.Cs.denV, Den.Cs.denF, Den.Co.den, Den.Co.denT, Den.Ci.den, Den.Tg.den, Den.Tg.dens, Den.Tg.slots, Den.Tg.slotsL, Den.parL, Den.fSeq, Den.fRet, Den.fRetN, Den.fNop, Den.fBk, Den.fCt, Den.fSet, Den.fO, Den.fDrop, Den.SlOf, Den.notBg, Den.fIfS, Den.fIf, Den.fT, Den.truth, Den.fAnd, Den.fOr, Den.fNot, Den.fAndV, Den.fOrV, Den.fNotV, Den.isB, Den.fV, Den.fF, Den.frz, Den.half, Den.vw, Den.vws, Den.f1, Den.f2, Den.fL, Den.fM, Den.fVar, Den.fC, Den.fTup, Den.fLst, Den.fsCons, Den.fsNil, Den.fSetIx, Den.fAugIx, Den.fAug, Den.asInt, Den.items, Den.putItems, Den.sameKind, Den.fMut, Den.φApp, Den.φIns, Den.fCall, Den.fCallM, Den.fPar, Den.fPar3, Den.fAsg, Den.gNm, Den.gTp, Den.gsCons, Den.gsNil, Den.fSl, Den.fPt, Den.φSl, Den.add_int, Den.sub_int, Den.φNeg, Den.φCmp, Den.φIs, Den.φIsNot, Den.isNone, Den.len_lst, Den.len_tup, Den.φAbs, Den.φInt, Den.φTuple, Den.φList, Den.fdmt, Den.fdnp, L2.ixN, Den.eq_str, Den.ne_str, Den.eq_int, Den.ne_int, Den.ix_lst, Den.ix_tup, Den.at_zero, Den.at_one, Den.at_two, Den.at_three, Den.lim_lit]) ?_
    have hgl := grow_small h (m := m) (by omega)
    refine ok_cons (for_at (f := tN) (l := grow rs m) (ρ1 := stP rs k big (.va (.list ((grow rs m).map tN))) (.va (.int ((m + 1 : Nat) : Int))) (.va (pD (parOf rs (m + 1)))) (.va rs[m + 1].way) s6 (.ls []) s8 .no .no .no)
      (fun i ρ => ∃ t8, Nb t8 ∧ ρ = stP rs k big (.va (.list ((grow rs m).map tN))) (.va (.int ((m + 1 : Nat) : Int))) (.va (pD (parOf rs (m + 1)))) (.va rs[m + 1].way) s6 (.ls ((((grow rs m).take i).flatMap (ext rs (m + 1))).map tN)) t8 .no .no .no)
      ?_ ⟨s8, p8, by simp⟩ ?_ ?_)
    · unfold stP
      rcases h2 with rfl | rfl <;> simp [Den.Cd.denD, Den.fsStar, Den.f1, Den.fExt, Den.fRep, Den.fTr, Den.fCh, Den.opI, Den.opB, Den.opC, Den.opM, Den.bodyRun, Den.Ss.den, Den.S.den, Den.C.den, Den.C.denT, Den.Cs.denA, Den.Cs.denO, Den.Cs.denAT, Den.Cs.denOT, Den.Cs.denV, Den.Cs.denF, Den.Co.den, Den.Co.denT, Den.Ci.den, Den.Tg.den, Den.Tg.dens, Den.Tg.slots, Den.Tg.slotsL, Den.parL, Den.fSeq, Den.fRet, Den.fRetN, Den.fNop, Den.fBk, Den.fCt, Den.fSet, Den.fO, Den.fDrop, Den.SlOf, Den.notBg, Den.fIfS, Den.fIf, Den.fT, Den.truth, Den.fAnd, Den.fOr, Den.fNot, Den.fAndV, Den.fOrV, Den.fNotV, Den.isB, Den.fV, Den.fF, Den.frz, Den.half, Den.vw, Den.vws, Den.f1, Den.f2, Den.fL, Den.fM, Den.fVar, Den.fC, Den.fTup, Den.fLst, Den.fsCons, Den.fsNil, Den.fSetIx, Den.fAugIx, Den.fAug, Den.asInt, Den.items, Den.putItems, Den.sameKind, Den.fMut, Den.φApp, Den.φIns, Den.fCall, Den.fCallM, Den.fPar, Den.fPar3, Den.fAsg, Den.gNm, Den.gTp, Den.gsCons, Den.gsNil, Den.fSl, Den.fPt, Den.φSl, Den.add_int, Den.sub_int, Den.φNeg, Den.φCmp, Den.φIs, Den.φIsNot, Den.isNone, Den.len_lst, Den.len_tup, Den.φAbs, Den.φInt, Den.φTuple, Den.φList, Den.fdmt, Den.fdnp, L2.ixN, Den.eq_str, Den.ne_str, Den.eq_int, Den.ne_int, Den.ix_lst, Den.ix_tup, Den.at_zero, Den.at_one, Den.at_two, Den.at_three, Den.lim_lit, fIt, its]
    · rintro i hi ρ ⟨t8, q8, rfl⟩
      refine ⟨stP rs k big (.va (.list ((grow rs m).map tN))) (.va (.int ((m + 1 : Nat) : Int))) (.va (pD (parOf rs (m + 1)))) (.va rs[m + 1].way) s6 (.ls ((((grow rs m).take i).flatMap (ext rs (m + 1))).map tN)) (.va (tN (grow rs m)[i])) .no .no .no, nm_ok q8 rfl rfl, ok_mono (lp0_ok h hv ?_ (flat_small hgl)) ?_⟩
      · obtain ⟨s, e, _⟩ := (mem_grow h (m := m) (by omega)).mp (List.getElem_mem hi)
        rw [e]
        have := lot_len (n := m + 1) (s := s)
        have := h.len1
        omega
      · rintro o ρ ⟨rfl, rfl⟩
        exact ⟨_, nb_va, by rw [flat_succ hi]⟩
    · rintro ρ ⟨t8, q8, rfl⟩
      rw [List.take_length]
      refine ok_step (ρ1 := stP rs k big (.va (.list ((grow rs (m + 1)).map tN))) (.va (.int ((m + 1 : Nat) : Int))) (.va (pD (parOf rs (m + 1)))) (.va rs[m + 1].way) s6 (.va (.list ((grow rs (m + 1)).map tN))) t8 .no .no .no) ?_ (ok_nil (ok_nil ⟨rfl, _, _, t8, .inr rfl, nb_va, q8, rfl⟩))
      show _ = some (Out.nx, stP rs k big (.va (.list (((grow rs m).flatMap (ext rs (m + 1))).map tN))) _ _ _ _ (.va (.list (((grow rs m).flatMap (ext rs (m + 1))).map tN))) _ _ _ _)
      generalize ((grow rs m).flatMap (ext rs (m + 1))).map tN = X
      unfold stP
      simp [Den.Cd.denD, Den.fsStar, Den.f1, Den.fExt, Den.fRep, Den.fTr, Den.fCh, Den.opI, Den.opB, Den.opC, Den.opM, Den.bodyRun, Den.Ss.den, Den.S.den, Den.C.den, Den.C.denT, Den.Cs.denA, Den.Cs.denO, Den.Cs.denAT, Den.Cs.denOT, Den.Cs.denV, Den.Cs.denF, Den.Co.den, Den.Co.denT, Den.Ci.den, Den.Tg.den, Den.Tg.dens, Den.Tg.slots, Den.Tg.slotsL, Den.parL, Den.fSeq, Den.fRet, Den.fRetN, Den.fNop, Den.fBk, Den.fCt, Den.fSet, Den.fO, Den.fDrop, Den.SlOf, Den.notBg, Den.fIfS, Den.fIf, Den.fT, Den.truth, Den.fAnd, Den.fOr, Den.fNot, Den.fAndV, Den.fOrV, Den.fNotV, Den.isB, Den.fV, Den.fF, Den.frz, Den.half, Den.vw, Den.vws, Den.f1, Den.f2, Den.fL, Den.fM, Den.fVar, Den.fC, Den.fTup, Den.fLst, Den.fsCons, Den.fsNil, Den.fSetIx, Den.fAugIx, Den.fAug, Den.asInt, Den.items, Den.putItems, Den.sameKind, Den.fMut, Den.φApp, Den.φIns, Den.fCall, Den.fCallM, Den.fPar, Den.fPar3, Den.fAsg, Den.gNm, Den.gTp, Den.gsCons, Den.gsNil, Den.fSl, Den.fPt, Den.φSl, Den.add_int, Den.sub_int, Den.φNeg, Den.φCmp, Den.φIs, Den.φIsNot, Den.isNone, Den.len_lst, Den.len_tup, Den.φAbs, Den.φInt, Den.φTuple, Den.φList, Den.fdmt, Den.fdnp, L2.ixN, Den.eq_str, Den.ne_str, Den.eq_int, Den.ne_int, Den.ix_lst, Den.ix_tup, Den.at_zero, Den.at_one, Den.at_two, Den.at_three, Den.lim_lit]
theorem alike_tN {a b : List Nat} : PySem.W.alike (tN a) (tN b) = true := by
  have q : ∀ a b : List Nat, PySem.W.alikeAll (nD a) (nD b) = true := fun a => by
    induction a with
    | nil => intro b; simp [nD, PySem.W.alikeAll]
    | cons x a ih =>
      intro b
      cases b with
      | nil => simp [nD, PySem.W.alikeAll]
      | cons y b =>
        have e : ∀ (z : Nat) (zs : List Nat), nD (z :: zs) = nI z :: nD zs := fun _ _ => rfl
        rw [e, e, PySem.W.alikeAll, ih b]
        simp [PySem.W.alike, nI]
  rw [tN, tN, PySem.W.alike]
  exact q a b
theorem sorted_tN {L : List (List Nat)} (hn : ∀ p ∈ L, p ≠ []) (hl : L.length ≤ lim) : φSorted [.list (L.map tN)] = some (.ls (sortD (L.map tN))) := by
  unfold φSorted
  refine if_pos ⟨?_, .inl ?_, by rw [List.length_map]; exact hl, ?_⟩
  · unfold alikes
    rw [List.all_eq_true]
    intro x hx
    rw [List.all_eq_true]
    intro y hy
    obtain ⟨a, _, rfl⟩ := List.mem_map.mp hx
    obtain ⟨b, _, rfl⟩ := List.mem_map.mp hy
    exact alike_tN
  · rw [List.all_eq_true]
    intro x hx
    obtain ⟨a, ha, rfl⟩ := List.mem_map.mp hx
    cases a with
    | nil => exact absurd rfl (hn _ ha)
    | cons y ys => rfl
  · rw [List.all_eq_true]
    intro x hx
    obtain ⟨a, _, rfl⟩ := List.mem_map.mp hx
    have := (tN_lay (a := a)).2
    simp
    omega
def unT : D → List Nat
  | .tuple ds => ds.map fun d => match d with | .int i => i.toNat | _ => 0
  | _ => []
theorem unT_tN {a : List Nat} : unT (tN a) = a := by
  unfold tN unT nD
  simp only [List.map_map]
  conv => rhs; rw [← List.map_id a]
  exact List.map_congr_left fun i _ => by simp [nI]
theorem sort_tN {L : List (List Nat)} : ∃ M : List (List Nat), sortD (L.map tN) = M.map tN ∧ M.Perm L := by
  have p := sort_perm (ds := L.map tN)
  have inv : ∀ {l : List D}, (∀ x ∈ l, ∃ a, x = tN a) → ∃ M : List (List Nat), l = M.map tN := by
    intro l
    induction l with
    | nil => exact fun _ => ⟨[], rfl⟩
    | cons x l ih =>
      intro h
      obtain ⟨a, rfl⟩ := h x List.mem_cons_self
      obtain ⟨M, rfl⟩ := ih fun y hy => h y (List.mem_cons_of_mem _ hy)
      exact ⟨a :: M, rfl⟩
  obtain ⟨M, e⟩ := inv (l := sortD (L.map tN)) fun x hx => by
    obtain ⟨a, _, rfl⟩ := List.mem_map.mp (p.mem_iff.mp hx)
    exact ⟨a, rfl⟩
  refine ⟨M, e, ?_⟩
  rw [e] at p
  have q := p.map unT
  rw [List.map_map, List.map_map] at q
  have e2 : ∀ X : List (List Nat), X.map (unT ∘ tN) = X := fun X => by
    conv => rhs; rw [← List.map_id X]
    exact List.map_congr_left fun a _ => unT_tN
  rw [e2, e2] at q
  exact q
theorem lp2_ok (h : Dun rs) {big : Option Nat} {s2 s3 s4 s5 s6 s7 s10 s12 : Sl} {p : List Nat} {acc : List (List Nat)} (hb : ∀ b, big = some b → b < rs.length) (ha : acc.length ≤ 10000) (p3 : Nb s3) (p10 : Nb s10) (p12 : Nb s12) :
    Ok (b_lparts_2.den g_lparts (stP rs k big s2 s3 s4 s5 s6 s7 (.va (tN p)) (.ls (acc.map tN)) s10 s12))
      fun o ρ => o = .nx ∧ ∃ t10 t12, Nb t10 ∧ Nb t12 ∧ ρ = stP rs k big s2 s3 s4 s5 s6 s7 (.va (tN p)) (.ls ((acc ++ if keepB rs big p = true then [p] else []).map tN)) t10 t12 := by
  unfold b_lparts_2
  have hl1 := h.len1
  have q0 : q_lparts_0.den g_lparts (stP rs k big s2 s3 s4 s5 s6 s7 (.va (tN p)) (.ls (acc.map tN)) s10 s12) = some (.ls ((barred rs p).map nI), stP rs k big s2 s3 s4 s5 s6 s7 (.va (tN p)) (.ls (acc.map tN)) s10 s12) := by
    unfold q_lparts_0
    have hr : ((List.range rs.length).map fun i => .tuple [nI i, (rs.map roomD)[i]?.getD .none]) = enumFrom 0 (rs.map roomD) := enum_rooms.symm
    refine lc2 (l := List.range rs.length) (f1 := nI) (f2 := fun i => (rs.map roomD)[i]?.getD .none) (g := nI) (b := fun v => isBar rs v && oin (parOf rs v) p) (s := s3) (s2 := .no) (ρ1 := stP rs k big s2 s3 s4 s5 s6 s7 (.va (tN p)) (.ls (acc.map tN)) s10 s12) (by decide) ?_ (by rw [List.length_range]; exact lim_11 hl1) rfl rfl (fun v hv => ?_) (fun v hv _ => by rfl)
    · rw [hr]
      unfold stP
      simp [Den.Cd.denD, Den.fsStar, Den.f1, Den.fExt, Den.fRep, Den.fTr, Den.fCh, Den.opI, Den.opB, Den.opC, Den.opM, Den.bodyRun, Den.Ss.den, Den.S.den, Den.C.den, Den.C.denT, Den.Cs.denA, Den.Cs.denO, Den.Cs.denAT, Den.Cs.denOT, Den.Cs.denV, Den.Cs.denF, Den.Co.den, Den.Co.denT, Den.Ci.den, Den.Tg.den, Den.Tg.dens, Den.Tg.slots, Den.Tg.slotsL, Den.parL, Den.fSeq, Den.fRet, Den.fRetN, Den.fNop, Den.fBk, Den.fCt, Den.fSet, Den.fO, Den.fDrop, Den.SlOf, Den.notBg, Den.fIfS, Den.fIf, Den.fT, Den.truth, Den.fAnd, Den.fOr, Den.fNot, Den.fAndV, Den.fOrV, Den.fNotV, Den.isB, Den.fV, Den.fF, Den.frz, Den.half, Den.vw, Den.vws, Den.f1, Den.f2, Den.fL, Den.fM, Den.fVar, Den.fC, Den.fTup, Den.fLst, Den.fsCons, Den.fsNil, Den.fSetIx, Den.fAugIx, Den.fAug, Den.asInt, Den.items, Den.putItems, Den.sameKind, Den.fMut, Den.φApp, Den.φIns, Den.fCall, Den.fCallM, Den.fPar, Den.fPar3, Den.fAsg, Den.gNm, Den.gTp, Den.gsCons, Den.gsNil, Den.fSl, Den.fPt, Den.φSl, Den.add_int, Den.sub_int, Den.φNeg, Den.φCmp, Den.φIs, Den.φIsNot, Den.isNone, Den.len_lst, Den.len_tup, Den.φAbs, Den.φInt, Den.φTuple, Den.φList, Den.fdmt, Den.fdnp, L2.ixN, Den.eq_str, Den.ne_str, Den.eq_int, Den.ne_int, Den.ix_lst, Den.ix_tup, Den.at_zero, Den.at_one, Den.at_two, Den.at_three, Den.lim_lit, fEn, fIt, its, dunD]
    · have hv2 : v < rs.length := List.mem_range.mp hv
      have e1 : (rs.map roomD)[v]?.getD .none = roomD rs[v] := by
        rw [List.getElem?_map, List.getElem?_eq_getElem hv2]
        rfl
      rw [e1]
      have e2 := in_pD (l := p) (parOf rs v)
      rw [← par_eq hv2] at e2 ⊢
      have e3 := bar_at h hv2
      cases hbv : isBar rs v <;> rw [hbv] at e3 <;> unfold stP tN <;> simp [Den.Cd.denD, Den.fsStar, Den.f1, Den.fExt, Den.fRep, Den.fTr, Den.fCh, Den.opI, Den.opB, Den.opC, Den.opM, Den.bodyRun, Den.Ss.den, Den.S.den, Den.C.den, Den.C.denT, Den.Cs.denA, Den.Cs.denO, Den.Cs.denAT, Den.Cs.denOT, Den.Cs.denV, Den.Cs.denF, Den.Co.den, Den.Co.denT, Den.Ci.den, Den.Tg.den, Den.Tg.dens, Den.Tg.slots, Den.Tg.slotsL, Den.parL, Den.fSeq, Den.fRet, Den.fRetN, Den.fNop, Den.fBk, Den.fCt, Den.fSet, Den.fO, Den.fDrop, Den.SlOf, Den.notBg, Den.fIfS, Den.fIf, Den.fT, Den.truth, Den.fAnd, Den.fOr, Den.fNot, Den.fAndV, Den.fOrV, Den.fNotV, Den.isB, Den.fV, Den.fF, Den.frz, Den.half, Den.vw, Den.vws, Den.f1, Den.f2, Den.fL, Den.fM, Den.fVar, Den.fC, Den.fTup, Den.fLst, Den.fsCons, Den.fsNil, Den.fSetIx, Den.fAugIx, Den.fAug, Den.asInt, Den.items, Den.putItems, Den.sameKind, Den.fMut, Den.φApp, Den.φIns, Den.fCall, Den.fCallM, Den.fPar, Den.fPar3, Den.fAsg, Den.gNm, Den.gTp, Den.gsCons, Den.gsNil, Den.fSl, Den.fPt, Den.φSl, Den.add_int, Den.sub_int, Den.φNeg, Den.φCmp, Den.φIs, Den.φIsNot, Den.isNone, Den.len_lst, Den.len_tup, Den.φAbs, Den.φInt, Den.φTuple, Den.φList, Den.fdmt, Den.fdnp, L2.ixN, Den.eq_str, Den.ne_str, Den.eq_int, Den.ne_int, Den.ix_lst, Den.ix_tup, Den.at_zero, Den.at_one, Den.at_two, Den.at_three, Den.lim_lit, roomD, e3, e2]
  have hbn : (barred rs p).length ≤ lim := by
    unfold barred
    have := List.length_filter_le (fun v => isBar rs v && oin (parOf rs v) p) (List.range rs.length)
    rw [List.length_range] at this
    exact lim_11 (by omega)
  refine ok_step (ρ1 := stP rs k big s2 s3 s4 s5 s6 s7 (.va (tN p)) (.ls (acc.map tN)) (.ls (nD (barred rs p))) s12) (set_ls q0 p10 rfl rfl) ?_
  have q1 : q_lparts_1.den g_lparts (stP rs k big s2 s3 s4 s5 s6 s7 (.va (tN p)) (.ls (acc.map tN)) (.ls (nD (barred rs p))) s12) = some (.ls (((barred rs p).filter fun v => decide (v ∈ p)).map nI), stP rs k big s2 s3 s4 s5 s6 s7 (.va (tN p)) (.ls (acc.map tN)) (.va (.list (nD (barred rs p)))) s12) := by
    unfold q_lparts_1
    refine lc1 (l := barred rs p) (f := nI) (g := nI) (s := s3) (ρ1 := stP rs k big s2 s3 s4 s5 s6 s7 (.va (tN p)) (.ls (acc.map tN)) (.va (.list (nD (barred rs p)))) s12) (by unfold stP; simp [Den.Cd.denD, Den.fsStar, Den.f1, Den.fExt, Den.fRep, Den.fTr, Den.fCh, Den.opI, Den.opB, Den.opC, Den.opM, Den.bodyRun, Den.Ss.den, Den.S.den, Den.C.den, Den.C.denT, Den.Cs.denA, Den.Cs.denO, Den.Cs.denAT, Den.Cs.denOT, Den.Cs.denV, Den.Cs.denF, Den.Co.den, Den.Co.denT, Den.Ci.den, Den.Tg.den, Den.Tg.dens, Den.Tg.slots, Den.Tg.slotsL, Den.parL, Den.fSeq, Den.fRet, Den.fRetN, Den.fNop, Den.fBk, Den.fCt, Den.fSet, Den.fO, Den.fDrop, Den.SlOf, Den.notBg, Den.fIfS, Den.fIf, Den.fT, Den.truth, Den.fAnd, Den.fOr, Den.fNot, Den.fAndV, Den.fOrV, Den.fNotV, Den.isB, Den.fV, Den.fF, Den.frz, Den.half, Den.vw, Den.vws, Den.f1, Den.f2, Den.fL, Den.fM, Den.fVar, Den.fC, Den.fTup, Den.fLst, Den.fsCons, Den.fsNil, Den.fSetIx, Den.fAugIx, Den.fAug, Den.asInt, Den.items, Den.putItems, Den.sameKind, Den.fMut, Den.φApp, Den.φIns, Den.fCall, Den.fCallM, Den.fPar, Den.fPar3, Den.fAsg, Den.gNm, Den.gTp, Den.gsCons, Den.gsNil, Den.fSl, Den.fPt, Den.φSl, Den.add_int, Den.sub_int, Den.φNeg, Den.φCmp, Den.φIs, Den.φIsNot, Den.isNone, Den.len_lst, Den.len_tup, Den.φAbs, Den.φInt, Den.φTuple, Den.φList, Den.fdmt, Den.fdnp, L2.ixN, Den.eq_str, Den.ne_str, Den.eq_int, Den.ne_int, Den.ix_lst, Den.ix_tup, Den.at_zero, Den.at_one, Den.at_two, Den.at_three, Den.lim_lit, fIt, its, nD]) hbn rfl (fun v hv => ?_) (fun v hv _ => by rfl)
    unfold stP tN nI
    simp [Den.Cd.denD, Den.fsStar, Den.f1, Den.fExt, Den.fRep, Den.fTr, Den.fCh, Den.opI, Den.opB, Den.opC, Den.opM, Den.bodyRun, Den.Ss.den, Den.S.den, Den.C.den, Den.C.denT, Den.Cs.denA, Den.Cs.denO, Den.Cs.denAT, Den.Cs.denOT, Den.Cs.denV, Den.Cs.denF, Den.Co.den, Den.Co.denT, Den.Ci.den, Den.Tg.den, Den.Tg.dens, Den.Tg.slots, Den.Tg.slotsL, Den.parL, Den.fSeq, Den.fRet, Den.fRetN, Den.fNop, Den.fBk, Den.fCt, Den.fSet, Den.fO, Den.fDrop, Den.SlOf, Den.notBg, Den.fIfS, Den.fIf, Den.fT, Den.truth, Den.fAnd, Den.fOr, Den.fNot, Den.fAndV, Den.fOrV, Den.fNotV, Den.isB, Den.fV, Den.fF, Den.frz, Den.half, Den.vw, Den.vws, Den.f1, Den.f2, Den.fL, Den.fM, Den.fVar, Den.fC, Den.fTup, Den.fLst, Den.fsCons, Den.fsNil, Den.fSetIx, Den.fAugIx, Den.fAug, Den.asInt, Den.items, Den.putItems, Den.sameKind, Den.fMut, Den.φApp, Den.φIns, Den.fCall, Den.fCallM, Den.fPar, Den.fPar3, Den.fAsg, Den.gNm, Den.gTp, Den.gsCons, Den.gsNil, Den.fSl, Den.fPt, Den.φSl, Den.add_int, Den.sub_int, Den.φNeg, Den.φCmp, Den.φIs, Den.φIsNot, Den.isNone, Den.len_lst, Den.len_tup, Den.φAbs, Den.φInt, Den.φTuple, Den.φList, Den.fdmt, Den.fdnp, L2.ixN, Den.eq_str, Den.ne_str, Den.eq_int, Den.ne_int, Den.ix_lst, Den.ix_tup, Den.at_zero, Den.at_one, Den.at_two, Den.at_three, Den.lim_lit, in_natT]
  refine ok_step (ρ1 := stP rs k big s2 s3 s4 s5 s6 s7 (.va (tN p)) (.ls (acc.map tN)) (.va (.list (nD (barred rs p)))) (.ls (nD ((barred rs p).filter fun v => decide (v ∈ p))))) (set_ls q1 p12 rfl rfl) ?_
  have c4 : acc.length < lim := by
    show _ < 1000000
    omega
  have e3 := in_pD (l := p) big
  have e4 : ([] : List D) = nD [] := rfl
  refine ok_cons (ok_if (v := keepB rs big p) (ρ1 := stP rs k big s2 s3 s4 s5 s6 s7 (.va (tN p)) (.ls (acc.map tN)) (.va (.list (nD (barred rs p)))) (.ls (nD ((barred rs p).filter fun v => decide (v ∈ p))))) ?_ (fun hk => ?_) (fun hk => ?_))
  · unfold keepB
    have e5 : φEq (.list (nD ((barred rs p).filter fun v => decide (v ∈ p)))) (.list []) = some (.va (.bool (decide ((barred rs p).filter (fun v => decide (v ∈ p)) = [])))) := eq_lN (b := [])
    generalize hF : ((barred rs p).filter fun v => decide (v ∈ p)) = F at e5 ⊢
    cases hbg : oin big p <;> rw [hbg] at e3
    · unfold stP tN
      simp [Den.Cd.denD, Den.fsStar, Den.f1, Den.fExt, Den.fRep, Den.fTr, Den.fCh, Den.opI, Den.opB, Den.opC, Den.opM, Den.bodyRun, Den.Ss.den, Den.S.den, Den.C.den, Den.C.denT, Den.Cs.denA, Den.Cs.denO, Den.Cs.denAT, Den.Cs.denOT, Den.Cs.denV, Den.Cs.denF, Den.Co.den, Den.Co.denT, Den.Ci.den, Den.Tg.den, Den.Tg.dens, Den.Tg.slots, Den.Tg.slotsL, Den.parL, Den.fSeq, Den.fRet, Den.fRetN, Den.fNop, Den.fBk, Den.fCt, Den.fSet, Den.fO, Den.fDrop, Den.SlOf, Den.notBg, Den.fIfS, Den.fIf, Den.fT, Den.truth, Den.fAnd, Den.fOr, Den.fNot, Den.fAndV, Den.fOrV, Den.fNotV, Den.isB, Den.fV, Den.fF, Den.frz, Den.half, Den.vw, Den.vws, Den.f1, Den.f2, Den.fL, Den.fM, Den.fVar, Den.fC, Den.fTup, Den.fLst, Den.fsCons, Den.fsNil, Den.fSetIx, Den.fAugIx, Den.fAug, Den.asInt, Den.items, Den.putItems, Den.sameKind, Den.fMut, Den.φApp, Den.φIns, Den.fCall, Den.fCallM, Den.fPar, Den.fPar3, Den.fAsg, Den.gNm, Den.gTp, Den.gsCons, Den.gsNil, Den.fSl, Den.fPt, Den.φSl, Den.add_int, Den.sub_int, Den.φNeg, Den.φCmp, Den.φIs, Den.φIsNot, Den.isNone, Den.len_lst, Den.len_tup, Den.φAbs, Den.φInt, Den.φTuple, Den.φList, Den.fdmt, Den.fdnp, L2.ixN, Den.eq_str, Den.ne_str, Den.eq_int, Den.ne_int, Den.ix_lst, Den.ix_tup, Den.at_zero, Den.at_one, Den.at_two, Den.at_three, Den.lim_lit, e3, e5]
    · unfold stP tN
      simp [Den.Cd.denD, Den.fsStar, Den.f1, Den.fExt, Den.fRep, Den.fTr, Den.fCh, Den.opI, Den.opB, Den.opC, Den.opM, Den.bodyRun, Den.Ss.den, Den.S.den, Den.C.den, Den.C.denT, Den.Cs.denA, Den.Cs.denO, Den.Cs.denAT, Den.Cs.denOT, Den.Cs.denV, Den.Cs.denF, Den.Co.den, Den.Co.denT, Den.Ci.den, Den.Tg.den, Den.Tg.dens, Den.Tg.slots, Den.Tg.slotsL, Den.parL, Den.fSeq, Den.fRet, Den.fRetN, Den.fNop, Den.fBk, Den.fCt, Den.fSet, Den.fO, Den.fDrop, Den.SlOf, Den.notBg, Den.fIfS, Den.fIf, Den.fT, Den.truth, Den.fAnd, Den.fOr, Den.fNot, Den.fAndV, Den.fOrV, Den.fNotV, Den.isB, Den.fV, Den.fF, Den.frz, Den.half, Den.vw, Den.vws, Den.f1, Den.f2, Den.fL, Den.fM, Den.fVar, Den.fC, Den.fTup, Den.fLst, Den.fsCons, Den.fsNil, Den.fSetIx, Den.fAugIx, Den.fAug, Den.asInt, Den.items, Den.putItems, Den.sameKind, Den.fMut, Den.φApp, Den.φIns, Den.fCall, Den.fCallM, Den.fPar, Den.fPar3, Den.fAsg, Den.gNm, Den.gTp, Den.gsCons, Den.gsNil, Den.fSl, Den.fPt, Den.φSl, Den.add_int, Den.sub_int, Den.φNeg, Den.φCmp, Den.φIs, Den.φIsNot, Den.isNone, Den.len_lst, Den.len_tup, Den.φAbs, Den.φInt, Den.φTuple, Den.φList, Den.fdmt, Den.fdnp, L2.ixN, Den.eq_str, Den.ne_str, Den.eq_int, Den.ne_int, Den.ix_lst, Den.ix_tup, Den.at_zero, Den.at_one, Den.at_two, Den.at_three, Den.lim_lit, e3, eq_lN]
  · refine ok_step (ρ1 := stP rs k big s2 s3 s4 s5 s6 s7 (.va (tN p)) (.ls ((acc ++ [p]).map tN)) (.va (.list (nD (barred rs p)))) (.ls (nD ((barred rs p).filter fun v => decide (v ∈ p))))) (by unfold stP; simp [Den.Cd.denD, Den.fsStar, Den.f1, Den.fExt, Den.fRep, Den.fTr, Den.fCh, Den.opI, Den.opB, Den.opC, Den.opM, Den.bodyRun, Den.Ss.den, Den.S.den, Den.C.den, Den.C.denT, Den.Cs.denA, Den.Cs.denO, Den.Cs.denAT, Den.Cs.denOT, Den.Cs.denV, Den.Cs.denF, Den.Co.den, Den.Co.denT, Den.Ci.den, Den.Tg.den, Den.Tg.dens, Den.Tg.slots, Den.Tg.slotsL, Den.parL, Den.fSeq, Den.fRet, Den.fRetN, Den.fNop, Den.fBk, Den.fCt, Den.fSet, Den.fO, Den.fDrop, Den.SlOf, Den.notBg, Den.fIfS, Den.fIf, Den.fT, Den.truth, Den.fAnd, Den.fOr, Den.fNot, Den.fAndV, Den.fOrV, Den.fNotV, Den.isB, Den.fV, Den.fF, Den.frz, Den.half, Den.vw, Den.vws, Den.f1, Den.f2, Den.fL, Den.fM, Den.fVar, Den.fC, Den.fTup, Den.fLst, Den.fsCons, Den.fsNil, Den.fSetIx, Den.fAugIx, Den.fAug, Den.asInt, Den.items, Den.putItems, Den.sameKind, Den.fMut, Den.φApp, Den.φIns, Den.fCall, Den.fCallM, Den.fPar, Den.fPar3, Den.fAsg, Den.gNm, Den.gTp, Den.gsCons, Den.gsNil, Den.fSl, Den.fPt, Den.φSl, Den.add_int, Den.sub_int, Den.φNeg, Den.φCmp, Den.φIs, Den.φIsNot, Den.isNone, Den.len_lst, Den.len_tup, Den.φAbs, Den.φInt, Den.φTuple, Den.φList, Den.fdmt, Den.fdnp, L2.ixN, Den.eq_str, Den.ne_str, Den.eq_int, Den.ne_int, Den.ix_lst, Den.ix_tup, Den.at_zero, Den.at_one, Den.at_two, Den.at_three, Den.lim_lit, c4]) (ok_nil (ok_nil ⟨rfl, _, _, nb_va, nb_ls, by rw [if_pos hk]⟩))
  · exact ok_nil (ok_nil ⟨rfl, _, _, nb_va, nb_ls, by rw [if_neg (by simp [hk]), List.append_nil]⟩)
theorem filt_succ {α : Type} {p : α → Bool} {l : List α} {i : Nat} (hi : i < l.length) : (l.take (i + 1)).filter p = (l.take i).filter p ++ (if p l[i] = true then [l[i]] else []) := by
  rw [List.take_succ_eq_append_getElem hi, List.filter_append]
  congr 1
  cases h : p l[i] <;> simp [List.filter_cons, h]
theorem lparts_ok (h : Dun rs) {big : Option Nat} (hb : ∀ b, big = some b → b < rs.length) : d_lparts.run [] [dunD rs k, pD big] = some (.ls (sortD ((partsL rs big).map tN)), []) := by
  refine eqr ?_
  rw [r_lparts]
  refine run_f ?_
  have hl1 := h.len1
  have hl0 := h.len0
  refine ok_step (ρ1 := stP rs k big (.ls ((grow rs 0).map tN)) .no .no .no .no .no .no .no .no .no) (by unfold stP; simp [Den.Cd.denD, Den.fsStar, Den.f1, Den.fExt, Den.fRep, Den.fTr, Den.fCh, Den.opI, Den.opB, Den.opC, Den.opM, Den.bodyRun, Den.Ss.den, Den.S.den, Den.C.den, Den.C.denT, Den.Cs.denA, Den.Cs.denO, Den.Cs.denAT, Den.Cs.denOT, Den.Cs.denV, Den.Cs.denF, Den.Co.den, Den.Co.denT, Den.Ci.den, Den.Tg.den, Den.Tg.dens, Den.Tg.slots, Den.Tg.slotsL, Den.parL, Den.fSeq, Den.fRet, Den.fRetN, Den.fNop, Den.fBk, Den.fCt, Den.fSet, Den.fO, Den.fDrop, Den.SlOf, Den.notBg, Den.fIfS, Den.fIf, Den.fT, Den.truth, Den.fAnd, Den.fOr, Den.fNot, Den.fAndV, Den.fOrV, Den.fNotV, Den.isB, Den.fV, Den.fF, Den.frz, Den.half, Den.vw, Den.vws, Den.f1, Den.f2, Den.fL, Den.fM, Den.fVar, Den.fC, Den.fTup, Den.fLst, Den.fsCons, Den.fsNil, Den.fSetIx, Den.fAugIx, Den.fAug, Den.asInt, Den.items, Den.putItems, Den.sameKind, Den.fMut, Den.φApp, Den.φIns, Den.fCall, Den.fCallM, Den.fPar, Den.fPar3, Den.fAsg, Den.gNm, Den.gTp, Den.gsCons, Den.gsNil, Den.fSl, Den.fPt, Den.φSl, Den.add_int, Den.sub_int, Den.φNeg, Den.φCmp, Den.φIs, Den.φIsNot, Den.isNone, Den.len_lst, Den.len_tup, Den.φAbs, Den.φInt, Den.φTuple, Den.φList, Den.fdmt, Den.fdnp, L2.ixN, Den.eq_str, Den.ne_str, Den.eq_int, Den.ne_int, Den.ix_lst, Den.ix_tup, Den.at_zero, Den.at_one, Den.at_two, Den.at_three, Den.lim_lit, grow, tN, nD, nI]) ?_
  refine ok_cons (for_at (f := enI rs) (l := List.range rs.length) (ρ1 := stP rs k big (.ls ((grow rs 0).map tN)) .no .no .no .no .no .no .no .no .no)
    (fun i ρ => ∃ t2 t3 t4 t5 t6 t7 t8, LsV t2 (grow rs (i - 1)) ∧ Nb t3 ∧ Nb t4 ∧ Nb t5 ∧ Nb t6 ∧ Nb t7 ∧ Nb t8 ∧ ρ = stP rs k big t2 t3 t4 t5 t6 t7 t8 .no .no .no)
    (by rw [← enum_rooms]; unfold stP; simp [Den.Cd.denD, Den.fsStar, Den.f1, Den.fExt, Den.fRep, Den.fTr, Den.fCh, Den.opI, Den.opB, Den.opC, Den.opM, Den.bodyRun, Den.Ss.den, Den.S.den, Den.C.den, Den.C.denT, Den.Cs.denA, Den.Cs.denO, Den.Cs.denAT, Den.Cs.denOT, Den.Cs.denV, Den.Cs.denF, Den.Co.den, Den.Co.denT, Den.Ci.den, Den.Tg.den, Den.Tg.dens, Den.Tg.slots, Den.Tg.slotsL, Den.parL, Den.fSeq, Den.fRet, Den.fRetN, Den.fNop, Den.fBk, Den.fCt, Den.fSet, Den.fO, Den.fDrop, Den.SlOf, Den.notBg, Den.fIfS, Den.fIf, Den.fT, Den.truth, Den.fAnd, Den.fOr, Den.fNot, Den.fAndV, Den.fOrV, Den.fNotV, Den.isB, Den.fV, Den.fF, Den.frz, Den.half, Den.vw, Den.vws, Den.f1, Den.f2, Den.fL, Den.fM, Den.fVar, Den.fC, Den.fTup, Den.fLst, Den.fsCons, Den.fsNil, Den.fSetIx, Den.fAugIx, Den.fAug, Den.asInt, Den.items, Den.putItems, Den.sameKind, Den.fMut, Den.φApp, Den.φIns, Den.fCall, Den.fCallM, Den.fPar, Den.fPar3, Den.fAsg, Den.gNm, Den.gTp, Den.gsCons, Den.gsNil, Den.fSl, Den.fPt, Den.φSl, Den.add_int, Den.sub_int, Den.φNeg, Den.φCmp, Den.φIs, Den.φIsNot, Den.isNone, Den.len_lst, Den.len_tup, Den.φAbs, Den.φInt, Den.φTuple, Den.φList, Den.fdmt, Den.fdnp, L2.ixN, Den.eq_str, Den.ne_str, Den.eq_int, Den.ne_int, Den.ix_lst, Den.ix_tup, Den.at_zero, Den.at_one, Den.at_two, Den.at_three, Den.lim_lit, fEn, fIt, its, dunD]) ⟨_, .no, .no, .no, .no, .no, .no, .inl rfl, rfl, rfl, rfl, rfl, rfl, rfl, rfl⟩ ?_ ?_)
  · rintro i hi ρ ⟨t2, t3, t4, t5, t6, t7, t8, h2, p3, p4, p5, p6, p7, p8, rfl⟩
    have hv : i < rs.length := by simpa using hi
    rw [List.getElem_range, enI_at hv]
    refine ⟨stP rs k big t2 (.va (.int (i : Int))) (.va (pD (parOf rs i))) (.va rs[i].way) (.va (.int rs[i].ch)) t7 t8 .no .no .no, ?_, ok_mono (lp1_ok h hv h2 p7 p8) ?_⟩
    · rw [← par_eq hv]
      unfold stP roomD
      cases t3 <;> first | cases p3; done | skip
      all_goals cases t4 <;> first | cases p4; done | skip
      all_goals cases t5 <;> first | cases p5; done | skip
      all_goals cases t6 <;> first | cases p6; done | rfl
    · rintro o ρ ⟨rfl, u2, u7, u8, q2, q7, q8, rfl⟩
      exact ⟨u2, _, _, _, _, u7, u8, q2, nb_va, nb_va, nb_va, nb_va, q7, q8, rfl⟩
  · rintro ρ ⟨t2, t3, t4, t5, t6, t7, t8, h2, p3, p4, p5, p6, p7, p8, rfl⟩
    rw [List.length_range] at h2
    have hgl := grow_small h (m := rs.length - 1) (by omega)
    refine ok_step (ρ1 := stP rs k big t2 t3 t4 t5 t6 t7 t8 (.ls []) .no .no) (by unfold stP; simp [Den.Cd.denD, Den.fsStar, Den.f1, Den.fExt, Den.fRep, Den.fTr, Den.fCh, Den.opI, Den.opB, Den.opC, Den.opM, Den.bodyRun, Den.Ss.den, Den.S.den, Den.C.den, Den.C.denT, Den.Cs.denA, Den.Cs.denO, Den.Cs.denAT, Den.Cs.denOT, Den.Cs.denV, Den.Cs.denF, Den.Co.den, Den.Co.denT, Den.Ci.den, Den.Tg.den, Den.Tg.dens, Den.Tg.slots, Den.Tg.slotsL, Den.parL, Den.fSeq, Den.fRet, Den.fRetN, Den.fNop, Den.fBk, Den.fCt, Den.fSet, Den.fO, Den.fDrop, Den.SlOf, Den.notBg, Den.fIfS, Den.fIf, Den.fT, Den.truth, Den.fAnd, Den.fOr, Den.fNot, Den.fAndV, Den.fOrV, Den.fNotV, Den.isB, Den.fV, Den.fF, Den.frz, Den.half, Den.vw, Den.vws, Den.f1, Den.f2, Den.fL, Den.fM, Den.fVar, Den.fC, Den.fTup, Den.fLst, Den.fsCons, Den.fsNil, Den.fSetIx, Den.fAugIx, Den.fAug, Den.asInt, Den.items, Den.putItems, Den.sameKind, Den.fMut, Den.φApp, Den.φIns, Den.fCall, Den.fCallM, Den.fPar, Den.fPar3, Den.fAsg, Den.gNm, Den.gTp, Den.gsCons, Den.gsNil, Den.fSl, Den.fPt, Den.φSl, Den.add_int, Den.sub_int, Den.φNeg, Den.φCmp, Den.φIs, Den.φIsNot, Den.isNone, Den.len_lst, Den.len_tup, Den.φAbs, Den.φInt, Den.φTuple, Den.φList, Den.fdmt, Den.fdnp, L2.ixN, Den.eq_str, Den.ne_str, Den.eq_int, Den.ne_int, Den.ix_lst, Den.ix_tup, Den.at_zero, Den.at_one, Den.at_two, Den.at_three, Den.lim_lit]) ?_
    refine ok_cons (for_at (f := tN) (l := grow rs (rs.length - 1)) (ρ1 := stP rs k big (.va (.list ((grow rs (rs.length - 1)).map tN))) t3 t4 t5 t6 t7 t8 (.ls []) .no .no)
      (fun i ρ => ∃ t8 t10 t12, Nb t8 ∧ Nb t10 ∧ Nb t12 ∧ ρ = stP rs k big (.va (.list ((grow rs (rs.length - 1)).map tN))) t3 t4 t5 t6 t7 t8 (.ls ((((grow rs (rs.length - 1)).take i).filter (keepB rs big)).map tN)) t10 t12)
      (by unfold stP; rcases h2 with rfl | rfl <;> simp [Den.Cd.denD, Den.fsStar, Den.f1, Den.fExt, Den.fRep, Den.fTr, Den.fCh, Den.opI, Den.opB, Den.opC, Den.opM, Den.bodyRun, Den.Ss.den, Den.S.den, Den.C.den, Den.C.denT, Den.Cs.denA, Den.Cs.denO, Den.Cs.denAT, Den.Cs.denOT, Den.Cs.denV, Den.Cs.denF, Den.Co.den, Den.Co.denT, Den.Ci.den, Den.Tg.den, Den.Tg.dens, Den.Tg.slots, Den.Tg.slotsL, Den.parL, Den.fSeq, Den.fRet, Den.fRetN, Den.fNop, Den.fBk, Den.fCt, Den.fSet, Den.fO, Den.fDrop, Den.SlOf, Den.notBg, Den.fIfS, Den.fIf, Den.fT, Den.truth, Den.fAnd, Den.fOr, Den.fNot, Den.fAndV, Den.fOrV, Den.fNotV, Den.isB, Den.fV, Den.fF, Den.frz, Den.half, Den.vw, Den.vws, Den.f1, Den.f2, Den.fL, Den.fM, Den.fVar, Den.fC, Den.fTup, Den.fLst, Den.fsCons, Den.fsNil, Den.fSetIx, Den.fAugIx, Den.fAug, Den.asInt, Den.items, Den.putItems, Den.sameKind, Den.fMut, Den.φApp, Den.φIns, Den.fCall, Den.fCallM, Den.fPar, Den.fPar3, Den.fAsg, Den.gNm, Den.gTp, Den.gsCons, Den.gsNil, Den.fSl, Den.fPt, Den.φSl, Den.add_int, Den.sub_int, Den.φNeg, Den.φCmp, Den.φIs, Den.φIsNot, Den.isNone, Den.len_lst, Den.len_tup, Den.φAbs, Den.φInt, Den.φTuple, Den.φList, Den.fdmt, Den.fdnp, L2.ixN, Den.eq_str, Den.ne_str, Den.eq_int, Den.ne_int, Den.ix_lst, Den.ix_tup, Den.at_zero, Den.at_one, Den.at_two, Den.at_three, Den.lim_lit, fIt, its]) ⟨t8, .no, .no, p8, rfl, rfl, by simp⟩ ?_ ?_)
    · rintro i hi ρ ⟨t8, t10, t12, p8, p10, p12, rfl⟩
      refine ⟨stP rs k big (.va (.list ((grow rs (rs.length - 1)).map tN))) t3 t4 t5 t6 t7 (.va (tN (grow rs (rs.length - 1))[i])) (.ls ((((grow rs (rs.length - 1)).take i).filter (keepB rs big)).map tN)) t10 t12, nm_ok p8 rfl rfl, ok_mono (lp2_ok h hb ?_ p3 p10 p12) ?_⟩
      · have h1 := List.length_filter_le (keepB rs big) ((grow rs (rs.length - 1)).take i)
        rw [List.length_take] at h1
        omega
      · rintro o ρ ⟨rfl, u10, u12, q10, q12, rfl⟩
        exact ⟨_, u10, u12, nb_va, q10, q12, by rw [filt_succ hi]⟩
    · rintro ρ ⟨t8, t10, t12, p8, p10, p12, rfl⟩
      rw [List.take_length]
      have hs := sorted_tN (L := partsL rs big) (fun p hp => by
        obtain ⟨s, rfl, hP⟩ := (mem_parts h hb).mp hp
        intro z
        have : 0 ∈ lot rs.length s := mem_lot.mpr ⟨hl0, hP.root⟩
        rw [z] at this
        cases this) (by
        unfold partsL
        have := List.length_filter_le (keepB rs big) (grow rs (rs.length - 1))
        show _ ≤ 1000000
        omega)
      refine ok_last (r := .ls (sortD ((partsL rs big).map tN))) (ρ1 := stP rs k big (.va (.list ((grow rs (rs.length - 1)).map tN))) t3 t4 t5 t6 t7 t8 (.ls ((partsL rs big).map tN)) t10 t12) ?_ ⟨rfl, rfl⟩
      show S.den g_lparts _ (stP rs k big (.va (.list ((grow rs (rs.length - 1)).map tN))) t3 t4 t5 t6 t7 t8 (.ls ((partsL rs big).map tN)) t10 t12) = _
      generalize hX : (partsL rs big).map tN = X at hs ⊢
      unfold stP
      simp [Den.Cd.denD, Den.fsStar, Den.f1, Den.fExt, Den.fRep, Den.fTr, Den.fCh, Den.opI, Den.opB, Den.opC, Den.opM, Den.bodyRun, Den.Ss.den, Den.S.den, Den.C.den, Den.C.denT, Den.Cs.denA, Den.Cs.denO, Den.Cs.denAT, Den.Cs.denOT, Den.Cs.denV, Den.Cs.denF, Den.Co.den, Den.Co.denT, Den.Ci.den, Den.Tg.den, Den.Tg.dens, Den.Tg.slots, Den.Tg.slotsL, Den.parL, Den.fSeq, Den.fRet, Den.fRetN, Den.fNop, Den.fBk, Den.fCt, Den.fSet, Den.fO, Den.fDrop, Den.SlOf, Den.notBg, Den.fIfS, Den.fIf, Den.fT, Den.truth, Den.fAnd, Den.fOr, Den.fNot, Den.fAndV, Den.fOrV, Den.fNotV, Den.isB, Den.fV, Den.fF, Den.frz, Den.half, Den.vw, Den.vws, Den.f1, Den.f2, Den.fL, Den.fM, Den.fVar, Den.fC, Den.fTup, Den.fLst, Den.fsCons, Den.fsNil, Den.fSetIx, Den.fAugIx, Den.fAug, Den.asInt, Den.items, Den.putItems, Den.sameKind, Den.fMut, Den.φApp, Den.φIns, Den.fCall, Den.fCallM, Den.fPar, Den.fPar3, Den.fAsg, Den.gNm, Den.gTp, Den.gsCons, Den.gsNil, Den.fSl, Den.fPt, Den.φSl, Den.add_int, Den.sub_int, Den.φNeg, Den.φCmp, Den.φIs, Den.φIsNot, Den.isNone, Den.len_lst, Den.len_tup, Den.φAbs, Den.φInt, Den.φTuple, Den.φList, Den.fdmt, Den.fdnp, L2.ixN, Den.eq_str, Den.ne_str, Den.eq_int, Den.ne_int, Den.ix_lst, Den.ix_tup, Den.at_zero, Den.at_one, Den.at_two, Den.at_three, Den.lim_lit, hs]
end W

set_option autoImplicit false
/-! closed parts, opened parts, what is come to: the programs -/
namespace W
open PySem PySem.Spec L2 Den
variable {rs : List Rm} {k : Int}
theorem eqv_pD {o : Option Nat} {v : Nat} : PyData.eqv (pD o) (.int (v : Int)) = decide (o = some v) := by
  cases o with
  | none => simp [pD, PyData.eqv]
  | some p =>
    have := eqv_nat (a := p) (b := v)
    simp only [nI] at this
    simp only [pD]
    rw [this]
    by_cases h : p = v <;> simp [h]
theorem eq_pD {o : Option Nat} {v : Nat} : φEq (.int (v : Int)) (pD o) = some (.va (.bool (decide (o = some v)))) := by
  cases o with
  | none => exact if_pos (.inl ⟨rfl, rfl⟩)
  | some p =>
    show φEq (.int (v : Int)) (.int (p : Int)) = _
    rw [eq_int]
    by_cases h : p = v
    · simp [h]
    · have : ((v : Int) == (p : Int)) = false := by
        rw [beq_eq_false_iff_ne]
        omega
      simp [this, h]
theorem in_pars {S : List Nat} {v : Nat} : φIn (.int (v : Int)) (.list (S.map fun u => pD (parOf rs u))) = some (.va (.bool (S.any fun u => decide (parOf rs u = some v)))) := by
  have hs : SeqAt.shaped (.list (S.map fun u => pD (parOf rs u))) = true := (sh_list fun x hx => by
    obtain ⟨u, _, rfl⟩ := List.mem_map.mp hx
    cases parOf rs u <;> simp [pD, PyData.canLay0, PyData.depth]).1
  have q : φIn (.int (v : Int)) (.list (S.map fun u => pD (parOf rs u))) = some (.va (.bool ((S.map fun u => pD (parOf rs u)).any fun z => PyData.eqv z (.int (v : Int))))) := if_pos ⟨rfl, hs⟩
  rw [q, List.any_map]
  simp only [Function.comp_def, eqv_pD]
def wayD (rs : List Rm) (u : Nat) : D := match rs[u]? with
  | some r => r.way
  | none => .none
theorem wayD_at {u : Nat} (hu : u < rs.length) : wayD rs u = rs[u].way := by
  unfold wayD
  rw [List.getElem?_eq_getElem hu]
theorem wayD_ok (h : Dun rs) (u : Nat) : (wayD rs u).canLay0 = true ∧ (wayD rs u).depth ≤ 60 ∧ PyData.eqv (wayD rs u) (.str "bar") = isBar rs u := by
  unfold wayD isBar
  cases e : rs[u]? with
  | none => exact ⟨by simp [PyData.canLay0], by simp [PyData.depth], by simp [PyData.eqv]⟩
  | some r =>
    by_cases h0 : u = 0
    · subst h0
      simp only [(h.root r e).2]
      exact ⟨by simp [PyData.canLay0], by simp [PyData.depth], by simp [PyData.eqv, isBarD]⟩
    · rcases h.way u r e (by omega) with z | z | z <;> simp only [z] <;> exact ⟨by decide +kernel, by simp [PyData.depth], by simp [PyData.eqv, isBarD]⟩
theorem in_ways (h : Dun rs) {S : List Nat} : φIn (.str "bar") (.list (S.map (wayD rs))) = some (.va (.bool (S.any (isBar rs)))) := by
  have hs : SeqAt.shaped (.list (S.map (wayD rs))) = true := (sh_list fun x hx => by
    obtain ⟨u, _, rfl⟩ := List.mem_map.mp hx
    exact ⟨(wayD_ok h u).1, (wayD_ok h u).2.1⟩).1
  have q : φIn (.str "bar") (.list (S.map (wayD rs))) = some (.va (.bool ((S.map (wayD rs)).any fun z => PyData.eqv z (.str "bar")))) := if_pos ⟨by decide +kernel, hs⟩
  rw [q, List.any_map]
  have : ((fun z => PyData.eqv z (.str "bar")) ∘ wayD rs) = isBar rs := funext fun u => (wayD_ok h u).2.2
  rw [this]
/-- the store of must_have -/
def stM (rs : List Rm) (k : Int) (big : Option Nat) (sm S : List Nat) (v : Nat) (s4 s5 s6 : Sl) : Lo := [.va (dunD rs k), .va (laidD big sm), .va (tN S), .va (.int (v : Int)), s4, s5, s6, .no]
theorem must_ok (h : Dun rs) {big : Option Nat} {sm S : List Nat} {v : Nat} (hv : v < rs.length) (hS : ∀ u ∈ S, u < rs.length) (hl : S.length ≤ 11) :
    d_must_have.run [] [dunD rs k, laidD big sm, tN S, .int (v : Int)] = some (.va (.bool (mustB rs big S v)), []) := by
  refine eqr ?_
  rw [r_must_have]
  refine run_f ?_
  refine ok_step (ρ1 := stM rs k big sm S v (.va (pD (parOf rs v))) (.va rs[v].way) (.va (.int rs[v].ch))) (by rw [← par_eq hv]; unfold stM; simp [Den.Cd.denD, Den.fsStar, Den.f1, Den.fExt, Den.fRep, Den.fTr, Den.fCh, Den.opI, Den.opB, Den.opC, Den.opM, Den.bodyRun, Den.Ss.den, Den.S.den, Den.C.den, Den.C.denT, Den.Cs.denA, Den.Cs.denO, Den.Cs.denAT, Den.Cs.denOT, Den.Cs.denV, Den.Cs.denF, Den.Co.den, Den.Co.denT, Den.Ci.den, Den.Tg.den, Den.Tg.dens, Den.Tg.slots, Den.Tg.slotsL, Den.parL, Den.fSeq, Den.fRet, Den.fRetN, Den.fNop, Den.fBk, Den.fCt, Den.fSet, Den.fO, Den.fDrop, Den.SlOf, Den.notBg, Den.fIfS, Den.fIf, Den.fT, Den.truth, Den.fAnd, Den.fOr, Den.fNot, Den.fAndV, Den.fOrV, Den.fNotV, Den.isB, Den.fV, Den.fF, Den.frz, Den.half, Den.vw, Den.vws, Den.f1, Den.f2, Den.fL, Den.fM, Den.fVar, Den.fC, Den.fTup, Den.fLst, Den.fsCons, Den.fsNil, Den.fSetIx, Den.fAugIx, Den.fAug, Den.asInt, Den.items, Den.putItems, Den.sameKind, Den.fMut, Den.φApp, Den.φIns, Den.fCall, Den.fCallM, Den.fPar, Den.fPar3, Den.fAsg, Den.gNm, Den.gTp, Den.gsCons, Den.gsNil, Den.fSl, Den.fPt, Den.φSl, Den.add_int, Den.sub_int, Den.φNeg, Den.φCmp, Den.φIs, Den.φIsNot, Den.isNone, Den.len_lst, Den.len_tup, Den.φAbs, Den.φInt, Den.φTuple, Den.φList, Den.fdmt, Den.fdnp, L2.ixN, Den.eq_str, Den.ne_str, Den.eq_int, Den.ne_int, Den.ix_lst, Den.ix_tup, Den.at_zero, Den.at_one, Den.at_two, Den.at_three, Den.lim_lit, dunD, roomD, room_at hv]) ?_
  have q0 : q_must_have_0.den g_must_have (stM rs k big sm S v (.va (pD (parOf rs v))) (.va rs[v].way) (.va (.int rs[v].ch))) = some (.ls (S.map fun u => pD (parOf rs u)), stM rs k big sm S v (.va (pD (parOf rs v))) (.va rs[v].way) (.va (.int rs[v].ch))) := by
    have q : q_must_have_0.den g_must_have (stM rs k big sm S v (.va (pD (parOf rs v))) (.va rs[v].way) (.va (.int rs[v].ch))) = some (.ls ((S.filter fun _ => true).map fun u => pD (parOf rs u)), stM rs k big sm S v (.va (pD (parOf rs v))) (.va rs[v].way) (.va (.int rs[v].ch))) := by
      unfold q_must_have_0
      refine lc1 (l := S) (f := nI) (s := .no) (ρ1 := stM rs k big sm S v (.va (pD (parOf rs v))) (.va rs[v].way) (.va (.int rs[v].ch))) (by unfold stM tN; simp [Den.Cd.denD, Den.fsStar, Den.f1, Den.fExt, Den.fRep, Den.fTr, Den.fCh, Den.opI, Den.opB, Den.opC, Den.opM, Den.bodyRun, Den.Ss.den, Den.S.den, Den.C.den, Den.C.denT, Den.Cs.denA, Den.Cs.denO, Den.Cs.denAT, Den.Cs.denOT, Den.Cs.denV, Den.Cs.denF, Den.Co.den, Den.Co.denT, Den.Ci.den, Den.Tg.den, Den.Tg.dens, Den.Tg.slots, Den.Tg.slotsL, Den.parL, Den.fSeq, Den.fRet, Den.fRetN, Den.fNop, Den.fBk, Den.fCt, Den.fSet, Den.fO, Den.fDrop, Den.SlOf, Den.notBg, Den.fIfS, Den.fIf, Den.fT, Den.truth, Den.fAnd, Den.fOr, Den.fNot, Den.fAndV, Den.fOrV, Den.fNotV, Den.isB, Den.fV, Den.fF, Den.frz, Den.half, Den.vw, Den.vws, Den.f1, Den.f2, Den.fL, Den.fM, Den.fVar, Den.fC, Den.fTup, Den.fLst, Den.fsCons, Den.fsNil, Den.fSetIx, Den.fAugIx, Den.fAug, Den.asInt, Den.items, Den.putItems, Den.sameKind, Den.fMut, Den.φApp, Den.φIns, Den.fCall, Den.fCallM, Den.fPar, Den.fPar3, Den.fAsg, Den.gNm, Den.gTp, Den.gsCons, Den.gsNil, Den.fSl, Den.fPt, Den.φSl, Den.add_int, Den.sub_int, Den.φNeg, Den.φCmp, Den.φIs, Den.φIsNot, Den.isNone, Den.len_lst, Den.len_tup, Den.φAbs, Den.φInt, Den.φTuple, Den.φList, Den.fdmt, Den.fdnp, L2.ixN, Den.eq_str, Den.ne_str, Den.eq_int, Den.ne_int, Den.ix_lst, Den.ix_tup, Den.at_zero, Den.at_one, Den.at_two, Den.at_three, Den.lim_lit, fIt, its, nD]) (lim_11 hl) rfl (fun u hu => by rfl) (fun u hu _ => ?_)
      rw [← par_eq (hS u hu)]
      unfold stM nI
      simp [Den.Cd.denD, Den.fsStar, Den.f1, Den.fExt, Den.fRep, Den.fTr, Den.fCh, Den.opI, Den.opB, Den.opC, Den.opM, Den.bodyRun, Den.Ss.den, Den.S.den, Den.C.den, Den.C.denT, Den.Cs.denA, Den.Cs.denO, Den.Cs.denAT, Den.Cs.denOT, Den.Cs.denV, Den.Cs.denF, Den.Co.den, Den.Co.denT, Den.Ci.den, Den.Tg.den, Den.Tg.dens, Den.Tg.slots, Den.Tg.slotsL, Den.parL, Den.fSeq, Den.fRet, Den.fRetN, Den.fNop, Den.fBk, Den.fCt, Den.fSet, Den.fO, Den.fDrop, Den.SlOf, Den.notBg, Den.fIfS, Den.fIf, Den.fT, Den.truth, Den.fAnd, Den.fOr, Den.fNot, Den.fAndV, Den.fOrV, Den.fNotV, Den.isB, Den.fV, Den.fF, Den.frz, Den.half, Den.vw, Den.vws, Den.f1, Den.f2, Den.fL, Den.fM, Den.fVar, Den.fC, Den.fTup, Den.fLst, Den.fsCons, Den.fsNil, Den.fSetIx, Den.fAugIx, Den.fAug, Den.asInt, Den.items, Den.putItems, Den.sameKind, Den.fMut, Den.φApp, Den.φIns, Den.fCall, Den.fCallM, Den.fPar, Den.fPar3, Den.fAsg, Den.gNm, Den.gTp, Den.gsCons, Den.gsNil, Den.fSl, Den.fPt, Den.φSl, Den.add_int, Den.sub_int, Den.φNeg, Den.φCmp, Den.φIs, Den.φIsNot, Den.isNone, Den.len_lst, Den.len_tup, Den.φAbs, Den.φInt, Den.φTuple, Den.φList, Den.fdmt, Den.fdnp, L2.ixN, Den.eq_str, Den.ne_str, Den.eq_int, Den.ne_int, Den.ix_lst, Den.ix_tup, Den.at_zero, Den.at_one, Den.at_two, Den.at_three, Den.lim_lit, dunD, roomD, room_at (hS u hu)]
    rw [List.filter_eq_self.mpr (fun _ _ => rfl)] at q
    exact q
  have q1 : q_must_have_1.den g_must_have (stM rs k big sm S v (.va (pD (parOf rs v))) (.va rs[v].way) (.va (.int rs[v].ch))) = some (.ls (S.map (wayD rs)), stM rs k big sm S v (.va (pD (parOf rs v))) (.va rs[v].way) (.va (.int rs[v].ch))) := by
    have q : q_must_have_1.den g_must_have (stM rs k big sm S v (.va (pD (parOf rs v))) (.va rs[v].way) (.va (.int rs[v].ch))) = some (.ls ((S.filter fun _ => true).map (wayD rs)), stM rs k big sm S v (.va (pD (parOf rs v))) (.va rs[v].way) (.va (.int rs[v].ch))) := by
      unfold q_must_have_1
      refine lc1 (l := S) (f := nI) (s := .no) (ρ1 := stM rs k big sm S v (.va (pD (parOf rs v))) (.va rs[v].way) (.va (.int rs[v].ch))) (by unfold stM tN; simp [Den.Cd.denD, Den.fsStar, Den.f1, Den.fExt, Den.fRep, Den.fTr, Den.fCh, Den.opI, Den.opB, Den.opC, Den.opM, Den.bodyRun, Den.Ss.den, Den.S.den, Den.C.den, Den.C.denT, Den.Cs.denA, Den.Cs.denO, Den.Cs.denAT, Den.Cs.denOT, Den.Cs.denV, Den.Cs.denF, Den.Co.den, Den.Co.denT, Den.Ci.den, Den.Tg.den, Den.Tg.dens, Den.Tg.slots, Den.Tg.slotsL, Den.parL, Den.fSeq, Den.fRet, Den.fRetN, Den.fNop, Den.fBk, Den.fCt, Den.fSet, Den.fO, Den.fDrop, Den.SlOf, Den.notBg, Den.fIfS, Den.fIf, Den.fT, Den.truth, Den.fAnd, Den.fOr, Den.fNot, Den.fAndV, Den.fOrV, Den.fNotV, Den.isB, Den.fV, Den.fF, Den.frz, Den.half, Den.vw, Den.vws, Den.f1, Den.f2, Den.fL, Den.fM, Den.fVar, Den.fC, Den.fTup, Den.fLst, Den.fsCons, Den.fsNil, Den.fSetIx, Den.fAugIx, Den.fAug, Den.asInt, Den.items, Den.putItems, Den.sameKind, Den.fMut, Den.φApp, Den.φIns, Den.fCall, Den.fCallM, Den.fPar, Den.fPar3, Den.fAsg, Den.gNm, Den.gTp, Den.gsCons, Den.gsNil, Den.fSl, Den.fPt, Den.φSl, Den.add_int, Den.sub_int, Den.φNeg, Den.φCmp, Den.φIs, Den.φIsNot, Den.isNone, Den.len_lst, Den.len_tup, Den.φAbs, Den.φInt, Den.φTuple, Den.φList, Den.fdmt, Den.fdnp, L2.ixN, Den.eq_str, Den.ne_str, Den.eq_int, Den.ne_int, Den.ix_lst, Den.ix_tup, Den.at_zero, Den.at_one, Den.at_two, Den.at_three, Den.lim_lit, fIt, its, nD]) (lim_11 hl) rfl (fun u hu => by rfl) (fun u hu _ => ?_)
      rw [wayD_at (hS u hu)]
      unfold stM nI
      simp [Den.Cd.denD, Den.fsStar, Den.f1, Den.fExt, Den.fRep, Den.fTr, Den.fCh, Den.opI, Den.opB, Den.opC, Den.opM, Den.bodyRun, Den.Ss.den, Den.S.den, Den.C.den, Den.C.denT, Den.Cs.denA, Den.Cs.denO, Den.Cs.denAT, Den.Cs.denOT, Den.Cs.denV, Den.Cs.denF, Den.Co.den, Den.Co.denT, Den.Ci.den, Den.Tg.den, Den.Tg.dens, Den.Tg.slots, Den.Tg.slotsL, Den.parL, Den.fSeq, Den.fRet, Den.fRetN, Den.fNop, Den.fBk, Den.fCt, Den.fSet, Den.fO, Den.fDrop, Den.SlOf, Den.notBg, Den.fIfS, Den.fIf, Den.fT, Den.truth, Den.fAnd, Den.fOr, Den.fNot, Den.fAndV, Den.fOrV, Den.fNotV, Den.isB, Den.fV, Den.fF, Den.frz, Den.half, Den.vw, Den.vws, Den.f1, Den.f2, Den.fL, Den.fM, Den.fVar, Den.fC, Den.fTup, Den.fLst, Den.fsCons, Den.fsNil, Den.fSetIx, Den.fAugIx, Den.fAug, Den.asInt, Den.items, Den.putItems, Den.sameKind, Den.fMut, Den.φApp, Den.φIns, Den.fCall, Den.fCallM, Den.fPar, Den.fPar3, Den.fAsg, Den.gNm, Den.gTp, Den.gsCons, Den.gsNil, Den.fSl, Den.fPt, Den.φSl, Den.add_int, Den.sub_int, Den.φNeg, Den.φCmp, Den.φIs, Den.φIsNot, Den.isNone, Den.len_lst, Den.len_tup, Den.φAbs, Den.φInt, Den.φTuple, Den.φList, Den.fdmt, Den.fdnp, L2.ixN, Den.eq_str, Den.ne_str, Den.eq_int, Den.ne_int, Den.ix_lst, Den.ix_tup, Den.at_zero, Den.at_one, Den.at_two, Den.at_three, Den.lim_lit, dunD, roomD, room_at (hS u hu)]
    rw [List.filter_eq_self.mpr (fun _ _ => rfl)] at q
    exact q
  have e1 := in_natT (p := v) (ns := S)
  have e2 := in_pars (rs := rs) (S := S) (v := v)
  have e3 := in_ways h (S := S)
  have e4 := eq_pD (o := big) (v := v)
  have e5 := in_pD (l := S) (parOf rs v)
  have e6 := in_pD (l := S) big
  have e7 := (opn_at h hv).1
  have e8 := bar_at h hv
  unfold stM tN at q0 q1
  refine ok_cons (ok_if (v := decide (v ∈ S) || S.any fun u => decide (parOf rs u = some v)) (ρ1 := stM rs k big sm S v (.va (pD (parOf rs v))) (.va rs[v].way) (.va (.int rs[v].ch))) ?_ (fun hc => ?_) (fun hc => ?_))
  · unfold stM tN
    cases a : decide (v ∈ S) <;> rw [a] at e1
    · simp [Den.Cd.denD, Den.fsStar, Den.f1, Den.fExt, Den.fRep, Den.fTr, Den.fCh, Den.opI, Den.opB, Den.opC, Den.opM, Den.bodyRun, Den.Ss.den, Den.S.den, Den.C.den, Den.C.denT, Den.Cs.denA, Den.Cs.denO, Den.Cs.denAT, Den.Cs.denOT, Den.Cs.denV, Den.Cs.denF, Den.Co.den, Den.Co.denT, Den.Ci.den, Den.Tg.den, Den.Tg.dens, Den.Tg.slots, Den.Tg.slotsL, Den.parL, Den.fSeq, Den.fRet, Den.fRetN, Den.fNop, Den.fBk, Den.fCt, Den.fSet, Den.fO, Den.fDrop, Den.SlOf, Den.notBg, Den.fIfS, Den.fIf, Den.fT, Den.truth, Den.fAnd, Den.fOr, Den.fNot, Den.fAndV, Den.fOrV, Den.fNotV, Den.isB, Den.fV, Den.fF, Den.frz, Den.half, Den.vw, Den.vws, Den.f1, Den.f2, Den.fL, Den.fM, Den.fVar, Den.fC, Den.fTup, Den.fLst, Den.fsCons, Den.fsNil, Den.fSetIx, Den.fAugIx, Den.fAug, Den.asInt, Den.items, Den.putItems, Den.sameKind, Den.fMut, Den.φApp, Den.φIns, Den.fCall, Den.fCallM, Den.fPar, Den.fPar3, Den.fAsg, Den.gNm, Den.gTp, Den.gsCons, Den.gsNil, Den.fSl, Den.fPt, Den.φSl, Den.add_int, Den.sub_int, Den.φNeg, Den.φCmp, Den.φIs, Den.φIsNot, Den.isNone, Den.len_lst, Den.len_tup, Den.φAbs, Den.φInt, Den.φTuple, Den.φList, Den.fdmt, Den.fdnp, L2.ixN, Den.eq_str, Den.ne_str, Den.eq_int, Den.ne_int, Den.ix_lst, Den.ix_tup, Den.at_zero, Den.at_one, Den.at_two, Den.at_three, Den.lim_lit, e1, q0, e2]
    · simp [Den.Cd.denD, Den.fsStar, Den.f1, Den.fExt, Den.fRep, Den.fTr, Den.fCh, Den.opI, Den.opB, Den.opC, Den.opM, Den.bodyRun, Den.Ss.den, Den.S.den, Den.C.den, Den.C.denT, Den.Cs.denA, Den.Cs.denO, Den.Cs.denAT, Den.Cs.denOT, Den.Cs.denV, Den.Cs.denF, Den.Co.den, Den.Co.denT, Den.Ci.den, Den.Tg.den, Den.Tg.dens, Den.Tg.slots, Den.Tg.slotsL, Den.parL, Den.fSeq, Den.fRet, Den.fRetN, Den.fNop, Den.fBk, Den.fCt, Den.fSet, Den.fO, Den.fDrop, Den.SlOf, Den.notBg, Den.fIfS, Den.fIf, Den.fT, Den.truth, Den.fAnd, Den.fOr, Den.fNot, Den.fAndV, Den.fOrV, Den.fNotV, Den.isB, Den.fV, Den.fF, Den.frz, Den.half, Den.vw, Den.vws, Den.f1, Den.f2, Den.fL, Den.fM, Den.fVar, Den.fC, Den.fTup, Den.fLst, Den.fsCons, Den.fsNil, Den.fSetIx, Den.fAugIx, Den.fAug, Den.asInt, Den.items, Den.putItems, Den.sameKind, Den.fMut, Den.φApp, Den.φIns, Den.fCall, Den.fCallM, Den.fPar, Den.fPar3, Den.fAsg, Den.gNm, Den.gTp, Den.gsCons, Den.gsNil, Den.fSl, Den.fPt, Den.φSl, Den.add_int, Den.sub_int, Den.φNeg, Den.φCmp, Den.φIs, Den.φIsNot, Den.isNone, Den.len_lst, Den.len_tup, Den.φAbs, Den.φInt, Den.φTuple, Den.φList, Den.fdmt, Den.fdnp, L2.ixN, Den.eq_str, Den.ne_str, Den.eq_int, Den.ne_int, Den.ix_lst, Den.ix_tup, Den.at_zero, Den.at_one, Den.at_two, Den.at_three, Den.lim_lit, e1]
  · refine ok_last (r := .va (.bool true)) (ρ1 := stM rs k big sm S v (.va (pD (parOf rs v))) (.va rs[v].way) (.va (.int rs[v].ch))) (by unfold stM; simp [Den.Cd.denD, Den.fsStar, Den.f1, Den.fExt, Den.fRep, Den.fTr, Den.fCh, Den.opI, Den.opB, Den.opC, Den.opM, Den.bodyRun, Den.Ss.den, Den.S.den, Den.C.den, Den.C.denT, Den.Cs.denA, Den.Cs.denO, Den.Cs.denAT, Den.Cs.denOT, Den.Cs.denV, Den.Cs.denF, Den.Co.den, Den.Co.denT, Den.Ci.den, Den.Tg.den, Den.Tg.dens, Den.Tg.slots, Den.Tg.slotsL, Den.parL, Den.fSeq, Den.fRet, Den.fRetN, Den.fNop, Den.fBk, Den.fCt, Den.fSet, Den.fO, Den.fDrop, Den.SlOf, Den.notBg, Den.fIfS, Den.fIf, Den.fT, Den.truth, Den.fAnd, Den.fOr, Den.fNot, Den.fAndV, Den.fOrV, Den.fNotV, Den.isB, Den.fV, Den.fF, Den.frz, Den.half, Den.vw, Den.vws, Den.f1, Den.f2, Den.fL, Den.fM, Den.fVar, Den.fC, Den.fTup, Den.fLst, Den.fsCons, Den.fsNil, Den.fSetIx, Den.fAugIx, Den.fAug, Den.asInt, Den.items, Den.putItems, Den.sameKind, Den.fMut, Den.φApp, Den.φIns, Den.fCall, Den.fCallM, Den.fPar, Den.fPar3, Den.fAsg, Den.gNm, Den.gTp, Den.gsCons, Den.gsNil, Den.fSl, Den.fPt, Den.φSl, Den.add_int, Den.sub_int, Den.φNeg, Den.φCmp, Den.φIs, Den.φIsNot, Den.isNone, Den.len_lst, Den.len_tup, Den.φAbs, Den.φInt, Den.φTuple, Den.φList, Den.fdmt, Den.fdnp, L2.ixN, Den.eq_str, Den.ne_str, Den.eq_int, Den.ne_int, Den.ix_lst, Den.ix_tup, Den.at_zero, Den.at_one, Den.at_two, Den.at_three, Den.lim_lit]) ?_
    unfold mustB
    rw [hc]
    exact ⟨rfl, rfl⟩
  refine ok_nil (ok_cons (ok_if (v := decide (big = some v) && S.any (isBar rs)) (ρ1 := stM rs k big sm S v (.va (pD (parOf rs v))) (.va rs[v].way) (.va (.int rs[v].ch))) ?_ (fun hc2 => ?_) (fun hc2 => ?_)))
  · unfold stM tN laidD
    cases a : decide (big = some v) <;> rw [a] at e4
    · simp [Den.Cd.denD, Den.fsStar, Den.f1, Den.fExt, Den.fRep, Den.fTr, Den.fCh, Den.opI, Den.opB, Den.opC, Den.opM, Den.bodyRun, Den.Ss.den, Den.S.den, Den.C.den, Den.C.denT, Den.Cs.denA, Den.Cs.denO, Den.Cs.denAT, Den.Cs.denOT, Den.Cs.denV, Den.Cs.denF, Den.Co.den, Den.Co.denT, Den.Ci.den, Den.Tg.den, Den.Tg.dens, Den.Tg.slots, Den.Tg.slotsL, Den.parL, Den.fSeq, Den.fRet, Den.fRetN, Den.fNop, Den.fBk, Den.fCt, Den.fSet, Den.fO, Den.fDrop, Den.SlOf, Den.notBg, Den.fIfS, Den.fIf, Den.fT, Den.truth, Den.fAnd, Den.fOr, Den.fNot, Den.fAndV, Den.fOrV, Den.fNotV, Den.isB, Den.fV, Den.fF, Den.frz, Den.half, Den.vw, Den.vws, Den.f1, Den.f2, Den.fL, Den.fM, Den.fVar, Den.fC, Den.fTup, Den.fLst, Den.fsCons, Den.fsNil, Den.fSetIx, Den.fAugIx, Den.fAug, Den.asInt, Den.items, Den.putItems, Den.sameKind, Den.fMut, Den.φApp, Den.φIns, Den.fCall, Den.fCallM, Den.fPar, Den.fPar3, Den.fAsg, Den.gNm, Den.gTp, Den.gsCons, Den.gsNil, Den.fSl, Den.fPt, Den.φSl, Den.add_int, Den.sub_int, Den.φNeg, Den.φCmp, Den.φIs, Den.φIsNot, Den.isNone, Den.len_lst, Den.len_tup, Den.φAbs, Den.φInt, Den.φTuple, Den.φList, Den.fdmt, Den.fdnp, L2.ixN, Den.eq_str, Den.ne_str, Den.eq_int, Den.ne_int, Den.ix_lst, Den.ix_tup, Den.at_zero, Den.at_one, Den.at_two, Den.at_three, Den.lim_lit, e4]
    · unfold laidD at q1
      simp [Den.Cd.denD, Den.fsStar, Den.f1, Den.fExt, Den.fRep, Den.fTr, Den.fCh, Den.opI, Den.opB, Den.opC, Den.opM, Den.bodyRun, Den.Ss.den, Den.S.den, Den.C.den, Den.C.denT, Den.Cs.denA, Den.Cs.denO, Den.Cs.denAT, Den.Cs.denOT, Den.Cs.denV, Den.Cs.denF, Den.Co.den, Den.Co.denT, Den.Ci.den, Den.Tg.den, Den.Tg.dens, Den.Tg.slots, Den.Tg.slotsL, Den.parL, Den.fSeq, Den.fRet, Den.fRetN, Den.fNop, Den.fBk, Den.fCt, Den.fSet, Den.fO, Den.fDrop, Den.SlOf, Den.notBg, Den.fIfS, Den.fIf, Den.fT, Den.truth, Den.fAnd, Den.fOr, Den.fNot, Den.fAndV, Den.fOrV, Den.fNotV, Den.isB, Den.fV, Den.fF, Den.frz, Den.half, Den.vw, Den.vws, Den.f1, Den.f2, Den.fL, Den.fM, Den.fVar, Den.fC, Den.fTup, Den.fLst, Den.fsCons, Den.fsNil, Den.fSetIx, Den.fAugIx, Den.fAug, Den.asInt, Den.items, Den.putItems, Den.sameKind, Den.fMut, Den.φApp, Den.φIns, Den.fCall, Den.fCallM, Den.fPar, Den.fPar3, Den.fAsg, Den.gNm, Den.gTp, Den.gsCons, Den.gsNil, Den.fSl, Den.fPt, Den.φSl, Den.add_int, Den.sub_int, Den.φNeg, Den.φCmp, Den.φIs, Den.φIsNot, Den.isNone, Den.len_lst, Den.len_tup, Den.φAbs, Den.φInt, Den.φTuple, Den.φList, Den.fdmt, Den.fdnp, L2.ixN, Den.eq_str, Den.ne_str, Den.eq_int, Den.ne_int, Den.ix_lst, Den.ix_tup, Den.at_zero, Den.at_one, Den.at_two, Den.at_three, Den.lim_lit, e4, q1, e3]
  · refine ok_last (r := .va (.bool true)) (ρ1 := stM rs k big sm S v (.va (pD (parOf rs v))) (.va rs[v].way) (.va (.int rs[v].ch))) (by unfold stM; simp [Den.Cd.denD, Den.fsStar, Den.f1, Den.fExt, Den.fRep, Den.fTr, Den.fCh, Den.opI, Den.opB, Den.opC, Den.opM, Den.bodyRun, Den.Ss.den, Den.S.den, Den.C.den, Den.C.denT, Den.Cs.denA, Den.Cs.denO, Den.Cs.denAT, Den.Cs.denOT, Den.Cs.denV, Den.Cs.denF, Den.Co.den, Den.Co.denT, Den.Ci.den, Den.Tg.den, Den.Tg.dens, Den.Tg.slots, Den.Tg.slotsL, Den.parL, Den.fSeq, Den.fRet, Den.fRetN, Den.fNop, Den.fBk, Den.fCt, Den.fSet, Den.fO, Den.fDrop, Den.SlOf, Den.notBg, Den.fIfS, Den.fIf, Den.fT, Den.truth, Den.fAnd, Den.fOr, Den.fNot, Den.fAndV, Den.fOrV, Den.fNotV, Den.isB, Den.fV, Den.fF, Den.frz, Den.half, Den.vw, Den.vws, Den.f1, Den.f2, Den.fL, Den.fM, Den.fVar, Den.fC, Den.fTup, Den.fLst, Den.fsCons, Den.fsNil, Den.fSetIx, Den.fAugIx, Den.fAug, Den.asInt, Den.items, Den.putItems, Den.sameKind, Den.fMut, Den.φApp, Den.φIns, Den.fCall, Den.fCallM, Den.fPar, Den.fPar3, Den.fAsg, Den.gNm, Den.gTp, Den.gsCons, Den.gsNil, Den.fSl, Den.fPt, Den.φSl, Den.add_int, Den.sub_int, Den.φNeg, Den.φCmp, Den.φIs, Den.φIsNot, Den.isNone, Den.len_lst, Den.len_tup, Den.φAbs, Den.φInt, Den.φTuple, Den.φList, Den.fdmt, Den.fdnp, L2.ixN, Den.eq_str, Den.ne_str, Den.eq_int, Den.ne_int, Den.ix_lst, Den.ix_tup, Den.at_zero, Den.at_one, Den.at_two, Den.at_three, Den.lim_lit]) ?_
    unfold mustB
    rw [hc, hc2]
    exact ⟨rfl, rfl⟩
  refine ok_nil (ok_last (r := .va (.bool (mustB rs big S v))) (ρ1 := stM rs k big sm S v (.va (pD (parOf rs v))) (.va rs[v].way) (.va (.int rs[v].ch))) ?_ ⟨rfl, rfl⟩)
  have em : mustB rs big S v = (oin (parOf rs v) S && (isOpn rs v || (isBar rs v && oin big S))) := by
    unfold mustB
    rw [hc, hc2]
    rfl
  rw [em]
  unfold stM tN laidD
  cases a : oin (parOf rs v) S <;> rw [a] at e5
  · simp [Den.Cd.denD, Den.fsStar, Den.f1, Den.fExt, Den.fRep, Den.fTr, Den.fCh, Den.opI, Den.opB, Den.opC, Den.opM, Den.bodyRun, Den.Ss.den, Den.S.den, Den.C.den, Den.C.denT, Den.Cs.denA, Den.Cs.denO, Den.Cs.denAT, Den.Cs.denOT, Den.Cs.denV, Den.Cs.denF, Den.Co.den, Den.Co.denT, Den.Ci.den, Den.Tg.den, Den.Tg.dens, Den.Tg.slots, Den.Tg.slotsL, Den.parL, Den.fSeq, Den.fRet, Den.fRetN, Den.fNop, Den.fBk, Den.fCt, Den.fSet, Den.fO, Den.fDrop, Den.SlOf, Den.notBg, Den.fIfS, Den.fIf, Den.fT, Den.truth, Den.fAnd, Den.fOr, Den.fNot, Den.fAndV, Den.fOrV, Den.fNotV, Den.isB, Den.fV, Den.fF, Den.frz, Den.half, Den.vw, Den.vws, Den.f1, Den.f2, Den.fL, Den.fM, Den.fVar, Den.fC, Den.fTup, Den.fLst, Den.fsCons, Den.fsNil, Den.fSetIx, Den.fAugIx, Den.fAug, Den.asInt, Den.items, Den.putItems, Den.sameKind, Den.fMut, Den.φApp, Den.φIns, Den.fCall, Den.fCallM, Den.fPar, Den.fPar3, Den.fAsg, Den.gNm, Den.gTp, Den.gsCons, Den.gsNil, Den.fSl, Den.fPt, Den.φSl, Den.add_int, Den.sub_int, Den.φNeg, Den.φCmp, Den.φIs, Den.φIsNot, Den.isNone, Den.len_lst, Den.len_tup, Den.φAbs, Den.φInt, Den.φTuple, Den.φList, Den.fdmt, Den.fdnp, L2.ixN, Den.eq_str, Den.ne_str, Den.eq_int, Den.ne_int, Den.ix_lst, Den.ix_tup, Den.at_zero, Den.at_one, Den.at_two, Den.at_three, Den.lim_lit, e5]
  · cases b : isOpn rs v <;> rw [b] at e7
    · cases c : isBar rs v <;> rw [c] at e8
      · simp [Den.Cd.denD, Den.fsStar, Den.f1, Den.fExt, Den.fRep, Den.fTr, Den.fCh, Den.opI, Den.opB, Den.opC, Den.opM, Den.bodyRun, Den.Ss.den, Den.S.den, Den.C.den, Den.C.denT, Den.Cs.denA, Den.Cs.denO, Den.Cs.denAT, Den.Cs.denOT, Den.Cs.denV, Den.Cs.denF, Den.Co.den, Den.Co.denT, Den.Ci.den, Den.Tg.den, Den.Tg.dens, Den.Tg.slots, Den.Tg.slotsL, Den.parL, Den.fSeq, Den.fRet, Den.fRetN, Den.fNop, Den.fBk, Den.fCt, Den.fSet, Den.fO, Den.fDrop, Den.SlOf, Den.notBg, Den.fIfS, Den.fIf, Den.fT, Den.truth, Den.fAnd, Den.fOr, Den.fNot, Den.fAndV, Den.fOrV, Den.fNotV, Den.isB, Den.fV, Den.fF, Den.frz, Den.half, Den.vw, Den.vws, Den.f1, Den.f2, Den.fL, Den.fM, Den.fVar, Den.fC, Den.fTup, Den.fLst, Den.fsCons, Den.fsNil, Den.fSetIx, Den.fAugIx, Den.fAug, Den.asInt, Den.items, Den.putItems, Den.sameKind, Den.fMut, Den.φApp, Den.φIns, Den.fCall, Den.fCallM, Den.fPar, Den.fPar3, Den.fAsg, Den.gNm, Den.gTp, Den.gsCons, Den.gsNil, Den.fSl, Den.fPt, Den.φSl, Den.add_int, Den.sub_int, Den.φNeg, Den.φCmp, Den.φIs, Den.φIsNot, Den.isNone, Den.len_lst, Den.len_tup, Den.φAbs, Den.φInt, Den.φTuple, Den.φList, Den.fdmt, Den.fdnp, L2.ixN, Den.eq_str, Den.ne_str, Den.eq_int, Den.ne_int, Den.ix_lst, Den.ix_tup, Den.at_zero, Den.at_one, Den.at_two, Den.at_three, Den.lim_lit, e5, e7, e8]
      · simp [Den.Cd.denD, Den.fsStar, Den.f1, Den.fExt, Den.fRep, Den.fTr, Den.fCh, Den.opI, Den.opB, Den.opC, Den.opM, Den.bodyRun, Den.Ss.den, Den.S.den, Den.C.den, Den.C.denT, Den.Cs.denA, Den.Cs.denO, Den.Cs.denAT, Den.Cs.denOT, Den.Cs.denV, Den.Cs.denF, Den.Co.den, Den.Co.denT, Den.Ci.den, Den.Tg.den, Den.Tg.dens, Den.Tg.slots, Den.Tg.slotsL, Den.parL, Den.fSeq, Den.fRet, Den.fRetN, Den.fNop, Den.fBk, Den.fCt, Den.fSet, Den.fO, Den.fDrop, Den.SlOf, Den.notBg, Den.fIfS, Den.fIf, Den.fT, Den.truth, Den.fAnd, Den.fOr, Den.fNot, Den.fAndV, Den.fOrV, Den.fNotV, Den.isB, Den.fV, Den.fF, Den.frz, Den.half, Den.vw, Den.vws, Den.f1, Den.f2, Den.fL, Den.fM, Den.fVar, Den.fC, Den.fTup, Den.fLst, Den.fsCons, Den.fsNil, Den.fSetIx, Den.fAugIx, Den.fAug, Den.asInt, Den.items, Den.putItems, Den.sameKind, Den.fMut, Den.φApp, Den.φIns, Den.fCall, Den.fCallM, Den.fPar, Den.fPar3, Den.fAsg, Den.gNm, Den.gTp, Den.gsCons, Den.gsNil, Den.fSl, Den.fPt, Den.φSl, Den.add_int, Den.sub_int, Den.φNeg, Den.φCmp, Den.φIs, Den.φIsNot, Den.isNone, Den.len_lst, Den.len_tup, Den.φAbs, Den.φInt, Den.φTuple, Den.φList, Den.fdmt, Den.fdnp, L2.ixN, Den.eq_str, Den.ne_str, Den.eq_int, Den.ne_int, Den.ix_lst, Den.ix_tup, Den.at_zero, Den.at_one, Den.at_two, Den.at_three, Den.lim_lit, e5, e7, e8, e6]
    · simp [Den.Cd.denD, Den.fsStar, Den.f1, Den.fExt, Den.fRep, Den.fTr, Den.fCh, Den.opI, Den.opB, Den.opC, Den.opM, Den.bodyRun, Den.Ss.den, Den.S.den, Den.C.den, Den.C.denT, Den.Cs.denA, Den.Cs.denO, Den.Cs.denAT, Den.Cs.denOT, Den.Cs.denV, Den.Cs.denF, Den.Co.den, Den.Co.denT, Den.Ci.den, Den.Tg.den, Den.Tg.dens, Den.Tg.slots, Den.Tg.slotsL, Den.parL, Den.fSeq, Den.fRet, Den.fRetN, Den.fNop, Den.fBk, Den.fCt, Den.fSet, Den.fO, Den.fDrop, Den.SlOf, Den.notBg, Den.fIfS, Den.fIf, Den.fT, Den.truth, Den.fAnd, Den.fOr, Den.fNot, Den.fAndV, Den.fOrV, Den.fNotV, Den.isB, Den.fV, Den.fF, Den.frz, Den.half, Den.vw, Den.vws, Den.f1, Den.f2, Den.fL, Den.fM, Den.fVar, Den.fC, Den.fTup, Den.fLst, Den.fsCons, Den.fsNil, Den.fSetIx, Den.fAugIx, Den.fAug, Den.asInt, Den.items, Den.putItems, Den.sameKind, Den.fMut, Den.φApp, Den.φIns, Den.fCall, Den.fCallM, Den.fPar, Den.fPar3, Den.fAsg, Den.gNm, Den.gTp, Den.gsCons, Den.gsNil, Den.fSl, Den.fPt, Den.φSl, Den.add_int, Den.sub_int, Den.φNeg, Den.φCmp, Den.φIs, Den.φIsNot, Den.isNone, Den.len_lst, Den.len_tup, Den.φAbs, Den.φInt, Den.φTuple, Den.φList, Den.fdmt, Den.fdnp, L2.ixN, Den.eq_str, Den.ne_str, Den.eq_int, Den.ne_int, Den.ix_lst, Den.ix_tup, Den.at_zero, Den.at_one, Den.at_two, Den.at_three, Den.lim_lit, e5, e7]
/-- the least part that has some rooms -/
def Least (rs : List Rm) (big : Option Nat) (l : List Nat) (s : Nat → Bool) : Prop := IsP rs big s ∧ (∀ u ∈ l, s u = true) ∧ ∀ t, IsP rs big t → (∀ u ∈ l, t u = true) → ∀ v, v < rs.length → s v = true → t v = true
def stC (rs : List Rm) (k : Int) (big : Option Nat) (sm l p g : List Nat) : Lo := [.va (dunD rs k), .va (laidD big sm), .va (tN l), .va (tN p), .va (tN g), .no]
theorem q_closed (h : Dun rs) {big : Option Nat} {sm l p g : List Nat} (hp : ∀ u ∈ p, u < rs.length) (hl : p.length ≤ 11) :
    q_closed_part_0.den g_closed_part (stC rs k big sm l p g) = some (.ls ((lot rs.length (mustB rs big p)).map nI), stC rs k big sm l p g) := by
  unfold q_closed_part_0
  refine lc1 (l := List.range rs.length) (f := nI) (g := nI) (s := .no) (ρ1 := stC rs k big sm l p g) ?_ (by rw [List.length_range]; exact lim_11 h.len1) rfl (fun v hv => ?_) (fun v hv _ => by rfl)
  · rw [it_rng1 (x := rs.length) (ρ1 := stC rs k big sm l p g) (by unfold stC; simp [Den.Cd.denD, Den.fsStar, Den.f1, Den.fExt, Den.fRep, Den.fTr, Den.fCh, Den.opI, Den.opB, Den.opC, Den.opM, Den.bodyRun, Den.Ss.den, Den.S.den, Den.C.den, Den.C.denT, Den.Cs.denA, Den.Cs.denO, Den.Cs.denAT, Den.Cs.denOT, Den.Cs.denV, Den.Cs.denF, Den.Co.den, Den.Co.denT, Den.Ci.den, Den.Tg.den, Den.Tg.dens, Den.Tg.slots, Den.Tg.slotsL, Den.parL, Den.fSeq, Den.fRet, Den.fRetN, Den.fNop, Den.fBk, Den.fCt, Den.fSet, Den.fO, Den.fDrop, Den.SlOf, Den.notBg, Den.fIfS, Den.fIf, Den.fT, Den.truth, Den.fAnd, Den.fOr, Den.fNot, Den.fAndV, Den.fOrV, Den.fNotV, Den.isB, Den.fV, Den.fF, Den.frz, Den.half, Den.vw, Den.vws, Den.f1, Den.f2, Den.fL, Den.fM, Den.fVar, Den.fC, Den.fTup, Den.fLst, Den.fsCons, Den.fsNil, Den.fSetIx, Den.fAugIx, Den.fAug, Den.asInt, Den.items, Den.putItems, Den.sameKind, Den.fMut, Den.φApp, Den.φIns, Den.fCall, Den.fCallM, Den.fPar, Den.fPar3, Den.fAsg, Den.gNm, Den.gTp, Den.gsCons, Den.gsNil, Den.fSl, Den.fPt, Den.φSl, Den.add_int, Den.sub_int, Den.φNeg, Den.φCmp, Den.φIs, Den.φIsNot, Den.isNone, Den.len_lst, Den.len_tup, Den.φAbs, Den.φInt, Den.φTuple, Den.φList, Den.fdmt, Den.fdnp, L2.ixN, Den.eq_str, Den.ne_str, Den.eq_int, Den.ne_int, Den.ix_lst, Den.ix_tup, Den.at_zero, Den.at_one, Den.at_two, Den.at_three, Den.lim_lit, dunD]) (rng_ok h.len1), rng_nat]
    rfl
  · have e := cf (must_ok (k := k) (big := big) (sm := sm) (v := v) h (List.mem_range.mp hv) hp hl) mt_must_have np_must_have
    unfold stC nI
    simp [Den.Cd.denD, Den.fsStar, Den.f1, Den.fExt, Den.fRep, Den.fTr, Den.fCh, Den.opI, Den.opB, Den.opC, Den.opM, Den.bodyRun, Den.Ss.den, Den.S.den, Den.C.den, Den.C.denT, Den.Cs.denA, Den.Cs.denO, Den.Cs.denAT, Den.Cs.denOT, Den.Cs.denV, Den.Cs.denF, Den.Co.den, Den.Co.denT, Den.Ci.den, Den.Tg.den, Den.Tg.dens, Den.Tg.slots, Den.Tg.slotsL, Den.parL, Den.fSeq, Den.fRet, Den.fRetN, Den.fNop, Den.fBk, Den.fCt, Den.fSet, Den.fO, Den.fDrop, Den.SlOf, Den.notBg, Den.fIfS, Den.fIf, Den.fT, Den.truth, Den.fAnd, Den.fOr, Den.fNot, Den.fAndV, Den.fOrV, Den.fNotV, Den.isB, Den.fV, Den.fF, Den.frz, Den.half, Den.vw, Den.vws, Den.f1, Den.f2, Den.fL, Den.fM, Den.fVar, Den.fC, Den.fTup, Den.fLst, Den.fsCons, Den.fsNil, Den.fSetIx, Den.fAugIx, Den.fAug, Den.asInt, Den.items, Den.putItems, Den.sameKind, Den.fMut, Den.φApp, Den.φIns, Den.fCall_eq, Den.fCallM_eq, Den.fPar, Den.fPar3, Den.fAsg, Den.gNm, Den.gTp, Den.gsCons, Den.gsNil, Den.fSl, Den.fPt, Den.φSl, Den.add_int, Den.sub_int, Den.φNeg, Den.φCmp, Den.φIs, Den.φIsNot, Den.isNone, Den.len_lst, Den.len_tup, Den.φAbs, Den.φInt, Den.φTuple, Den.φList, Den.fdmt, Den.fdnp, L2.ixN, Den.eq_str, Den.ne_str, Den.eq_int, Den.ne_int, Den.ix_lst, Den.ix_tup, Den.at_zero, Den.at_one, Den.at_two, Den.at_three, Den.lim_lit, g_closed_part, e]
theorem closed_ok (h : Dun rs) {big : Option Nat} {sm l : List Nat} (hb : ∀ b, big = some b → b < rs.length) (hbn : big = none → ∀ v, v < rs.length → isBar rs v = false) (hl : l.Pairwise (· < ·)) (hn : ∀ u ∈ l, u < rs.length) :
    ∃ s, d_closed_part.run [] [dunD rs k, laidD big sm, tN l] = some (.va (tN (lot rs.length s)), []) ∧ Least rs big l s := by
  suffices q : Ans (d_closed_part.run [] [dunD rs k, laidD big sm, tN l]) fun r β => ∃ s, r = .va (tN (lot rs.length s)) ∧ β = [] ∧ Least rs big l s by
    obtain ⟨r, β, e, s, rfl, rfl, hs⟩ := q
    exact ⟨s, e, hs⟩
  have hl1 := h.len1
  have hl0 := h.len0
  rw [r_closed_part]
  refine run_f ?_
  refine ok_step (ρ1 := [.va (dunD rs k), .va (laidD big sm), .va (tN l), .va (tN []), .no, .no]) (by simp [Den.Cd.denD, Den.fsStar, Den.f1, Den.fExt, Den.fRep, Den.fTr, Den.fCh, Den.opI, Den.opB, Den.opC, Den.opM, Den.bodyRun, Den.Ss.den, Den.S.den, Den.C.den, Den.C.denT, Den.Cs.denA, Den.Cs.denO, Den.Cs.denAT, Den.Cs.denOT, Den.Cs.denV, Den.Cs.denF, Den.Co.den, Den.Co.denT, Den.Ci.den, Den.Tg.den, Den.Tg.dens, Den.Tg.slots, Den.Tg.slotsL, Den.parL, Den.fSeq, Den.fRet, Den.fRetN, Den.fNop, Den.fBk, Den.fCt, Den.fSet, Den.fO, Den.fDrop, Den.SlOf, Den.notBg, Den.fIfS, Den.fIf, Den.fT, Den.truth, Den.fAnd, Den.fOr, Den.fNot, Den.fAndV, Den.fOrV, Den.fNotV, Den.isB, Den.fV, Den.fF, Den.frz, Den.half, Den.vw, Den.vws, Den.f1, Den.f2, Den.fL, Den.fM, Den.fVar, Den.fC, Den.fTup, Den.fLst, Den.fsCons, Den.fsNil, Den.fSetIx, Den.fAugIx, Den.fAug, Den.asInt, Den.items, Den.putItems, Den.sameKind, Den.fMut, Den.φApp, Den.φIns, Den.fCall, Den.fCallM, Den.fPar, Den.fPar3, Den.fAsg, Den.gNm, Den.gTp, Den.gsCons, Den.gsNil, Den.fSl, Den.fPt, Den.φSl, Den.add_int, Den.sub_int, Den.φNeg, Den.φCmp, Den.φIs, Den.φIsNot, Den.isNone, Den.len_lst, Den.len_tup, Den.φAbs, Den.φInt, Den.φTuple, Den.φList, Den.fdmt, Den.fdnp, L2.ixN, Den.eq_str, Den.ne_str, Den.eq_int, Den.ne_int, Den.ix_lst, Den.ix_tup, Den.at_zero, Den.at_one, Den.at_two, Den.at_three, Den.lim_lit, tN, nD]) ?_
  have hg0 : (if 0 ∈ l then l else 0 :: l) = lot rs.length fun u => (u == 0) || decide (u ∈ l) := by
    refine asc_eq ?_ lot_asc fun u => ?_
    · by_cases h0 : 0 ∈ l
      · rw [if_pos h0]
        exact hl
      · rw [if_neg h0]
        refine List.pairwise_cons.mpr ⟨fun a ha => ?_, hl⟩
        rcases Nat.eq_zero_or_pos a with z | z
        · rw [z] at ha
          exact absurd ha h0
        · exact z
    · rw [mem_lot]
      simp only [Bool.or_eq_true, beq_iff_eq, decide_eq_true_eq]
      by_cases h0 : 0 ∈ l
      · rw [if_pos h0]
        constructor
        · intro hu
          exact ⟨hn u hu, .inr hu⟩
        · rintro ⟨_, rfl | hu⟩
          · exact h0
          · exact hu
      · rw [if_neg h0, List.mem_cons]
        constructor
        · rintro (rfl | hu)
          · exact ⟨hl0, .inl rfl⟩
          · exact ⟨hn u hu, .inr hu⟩
        · rintro ⟨_, hu⟩
          exact hu
  refine ok_step (ρ1 := stC rs k big sm l [] (lot rs.length fun u => (u == 0) || decide (u ∈ l))) ?_ ?_
  · rw [← hg0]
    have e1 : φIn (.int 0) (.tuple (nD l)) = some (.va (.bool (decide (0 ∈ l)))) := in_natT (p := 0)
    by_cases h0 : 0 ∈ l
    · simp only [h0, decide_true] at e1
      unfold stC tN
      simp only [if_pos h0]
      simp [Den.Cd.denD, Den.fsStar, Den.f1, Den.fExt, Den.fRep, Den.fTr, Den.fCh, Den.opI, Den.opB, Den.opC, Den.opM, Den.bodyRun, Den.Ss.den, Den.S.den, Den.C.den, Den.C.denT, Den.Cs.denA, Den.Cs.denO, Den.Cs.denAT, Den.Cs.denOT, Den.Cs.denV, Den.Cs.denF, Den.Co.den, Den.Co.denT, Den.Ci.den, Den.Tg.den, Den.Tg.dens, Den.Tg.slots, Den.Tg.slotsL, Den.parL, Den.fSeq, Den.fRet, Den.fRetN, Den.fNop, Den.fBk, Den.fCt, Den.fSet, Den.fO, Den.fDrop, Den.SlOf, Den.notBg, Den.fIfS, Den.fIf, Den.fT, Den.truth, Den.fAnd, Den.fOr, Den.fNot, Den.fAndV, Den.fOrV, Den.fNotV, Den.isB, Den.fV, Den.fF, Den.frz, Den.half, Den.vw, Den.vws, Den.f1, Den.f2, Den.fL, Den.fM, Den.fVar, Den.fC, Den.fTup, Den.fLst, Den.fsCons, Den.fsNil, Den.fSetIx, Den.fAugIx, Den.fAug, Den.asInt, Den.items, Den.putItems, Den.sameKind, Den.fMut, Den.φApp, Den.φIns, Den.fCall, Den.fCallM, Den.fPar, Den.fPar3, Den.fAsg, Den.gNm, Den.gTp, Den.gsCons, Den.gsNil, Den.fSl, Den.fPt, Den.φSl, Den.add_int, Den.sub_int, Den.φNeg, Den.φCmp, Den.φIs, Den.φIsNot, Den.isNone, Den.len_lst, Den.len_tup, Den.φAbs, Den.φInt, Den.φTuple, Den.φList, Den.fdmt, Den.fdnp, L2.ixN, Den.eq_str, Den.ne_str, Den.eq_int, Den.ne_int, Den.ix_lst, Den.ix_tup, Den.at_zero, Den.at_one, Den.at_two, Den.at_three, Den.lim_lit, e1]
    · simp only [h0, decide_false] at e1
      have c1 : (PyData.int 0 :: nD l).length ≤ lim := by
        have hll : l.length ≤ rs.length := by
          have := lot_of hl hn
          rw [this]
          exact lot_len
        rw [List.length_cons, nD_len]
        show _ ≤ 1000000
        omega
      have c2 : nD (0 :: l) = PyData.int 0 :: nD l := rfl
      unfold stC tN
      simp only [if_neg h0, c2]
      simp only [List.length_cons] at c1
      simp [Den.Cd.denD, Den.fsStar, Den.f1, Den.fExt, Den.fRep, Den.fTr, Den.fCh, Den.opI, Den.opB, Den.opC, Den.opM, Den.bodyRun, Den.Ss.den, Den.S.den, Den.C.den, Den.C.denT, Den.Cs.denA, Den.Cs.denO, Den.Cs.denAT, Den.Cs.denOT, Den.Cs.denV, Den.Cs.denF, Den.Co.den, Den.Co.denT, Den.Ci.den, Den.Tg.den, Den.Tg.dens, Den.Tg.slots, Den.Tg.slotsL, Den.parL, Den.fSeq, Den.fRet, Den.fRetN, Den.fNop, Den.fBk, Den.fCt, Den.fSet, Den.fO, Den.fDrop, Den.SlOf, Den.notBg, Den.fIfS, Den.fIf, Den.fT, Den.truth, Den.fAnd, Den.fOr, Den.fNot, Den.fAndV, Den.fOrV, Den.fNotV, Den.isB, Den.fV, Den.fF, Den.frz, Den.half, Den.vw, Den.vws, Den.f1, Den.f2, Den.fL, Den.fM, Den.fVar, Den.fC, Den.fTup, Den.fLst, Den.fsCons, Den.fsNil, Den.fSetIx, Den.fAugIx, Den.fAug, Den.asInt, Den.items, Den.putItems, Den.sameKind, Den.fMut, Den.φApp, Den.φIns, Den.fCall, Den.fCallM, Den.fPar, Den.fPar3, Den.fAsg, Den.gNm, Den.gTp, Den.gsCons, Den.gsNil, Den.fSl, Den.fPt, Den.φSl, Den.add_int, Den.sub_int, Den.φNeg, Den.φCmp, Den.φIs, Den.φIsNot, Den.isNone, Den.len_lst, Den.len_tup, Den.φAbs, Den.φInt, Den.φTuple, Den.φList, Den.fdmt, Den.fdnp, L2.ixN, Den.eq_str, Den.ne_str, Den.eq_int, Den.ne_int, Den.ix_lst, Den.ix_tup, Den.at_zero, Den.at_one, Den.at_two, Den.at_three, Den.lim_lit, e1, its, c1]
  refine ok_cons (ok_while (n := rs.length + 1) (fun m ρ => ∃ (P : List Nat) (g : Nat → Bool), ρ = stC rs k big sm l P (lot rs.length g) ∧ g 0 = true ∧ (∀ u ∈ l, g u = true) ∧
      (∀ t, IsP rs big t → (∀ u ∈ l, t u = true) → ∀ v, v < rs.length → g v = true → t v = true) ∧ (P = lot rs.length g → ∀ v, v < rs.length → mustB rs big P v = g v) ∧ (P = lot rs.length g ∨ rs.length + 1 ≤ m + (lot rs.length g).length))
    ⟨[], _, rfl, by simp, fun u hu => by simp [hu], fun t ht hlt v hv hg => ?_, fun z => ?_, .inr (by omega)⟩ (by omega) ?_)
  · simp only [Bool.or_eq_true, beq_iff_eq, decide_eq_true_eq] at hg
    rcases hg with rfl | hg
    · exact ht.root
    · exact hlt v hg
  · have : 0 ∈ lot rs.length fun u => (u == 0) || decide (u ∈ l) := mem_lot.mpr ⟨hl0, by simp⟩
    rw [← z] at this
    cases this
  rintro m ρ ⟨P, g, rfl, g0, gl, gt, gm, gc⟩
  refine ⟨!decide (P = lot rs.length g), stC rs k big sm l P (lot rs.length g), by unfold stC tN; simp [Den.Cd.denD, Den.fsStar, Den.f1, Den.fExt, Den.fRep, Den.fTr, Den.fCh, Den.opI, Den.opB, Den.opC, Den.opM, Den.bodyRun, Den.Ss.den, Den.S.den, Den.C.den, Den.C.denT, Den.Cs.denA, Den.Cs.denO, Den.Cs.denAT, Den.Cs.denOT, Den.Cs.denV, Den.Cs.denF, Den.Co.den, Den.Co.denT, Den.Ci.den, Den.Tg.den, Den.Tg.dens, Den.Tg.slots, Den.Tg.slotsL, Den.parL, Den.fSeq, Den.fRet, Den.fRetN, Den.fNop, Den.fBk, Den.fCt, Den.fSet, Den.fO, Den.fDrop, Den.SlOf, Den.notBg, Den.fIfS, Den.fIf, Den.fT, Den.truth, Den.fAnd, Den.fOr, Den.fNot, Den.fAndV, Den.fOrV, Den.fNotV, Den.isB, Den.fV, Den.fF, Den.frz, Den.half, Den.vw, Den.vws, Den.f1, Den.f2, Den.fL, Den.fM, Den.fVar, Den.fC, Den.fTup, Den.fLst, Den.fsCons, Den.fsNil, Den.fSetIx, Den.fAugIx, Den.fAug, Den.asInt, Den.items, Den.putItems, Den.sameKind, Den.fMut, Den.φApp, Den.φIns, Den.fCall, Den.fCallM, Den.fPar, Den.fPar3, Den.fAsg, Den.gNm, Den.gTp, Den.gsCons, Den.gsNil, Den.fSl, Den.fPt, Den.φSl, Den.add_int, Den.sub_int, Den.φNeg, Den.φCmp, Den.φIs, Den.φIsNot, Den.isNone, Den.len_lst, Den.len_tup, Den.φAbs, Den.φInt, Den.φTuple, Den.φList, Den.fdmt, Den.fdnp, L2.ixN, Den.eq_str, Den.ne_str, Den.eq_int, Den.ne_int, Den.ix_lst, Den.ix_tup, Den.at_zero, Den.at_one, Den.at_two, Den.at_three, Den.lim_lit, ne_tN], fun hf => ?_, fun hf => ?_⟩
  · have he : P = lot rs.length g := by simpa using hf
    have hm := gm he
    subst he
    exact ok_last (r := .va (tN (lot rs.length g))) (ρ1 := stC rs k big sm l (lot rs.length g) (lot rs.length g)) (by unfold stC; simp [Den.Cd.denD, Den.fsStar, Den.f1, Den.fExt, Den.fRep, Den.fTr, Den.fCh, Den.opI, Den.opB, Den.opC, Den.opM, Den.bodyRun, Den.Ss.den, Den.S.den, Den.C.den, Den.C.denT, Den.Cs.denA, Den.Cs.denO, Den.Cs.denAT, Den.Cs.denOT, Den.Cs.denV, Den.Cs.denF, Den.Co.den, Den.Co.denT, Den.Ci.den, Den.Tg.den, Den.Tg.dens, Den.Tg.slots, Den.Tg.slotsL, Den.parL, Den.fSeq, Den.fRet, Den.fRetN, Den.fNop, Den.fBk, Den.fCt, Den.fSet, Den.fO, Den.fDrop, Den.SlOf, Den.notBg, Den.fIfS, Den.fIf, Den.fT, Den.truth, Den.fAnd, Den.fOr, Den.fNot, Den.fAndV, Den.fOrV, Den.fNotV, Den.isB, Den.fV, Den.fF, Den.frz, Den.half, Den.vw, Den.vws, Den.f1, Den.f2, Den.fL, Den.fM, Den.fVar, Den.fC, Den.fTup, Den.fLst, Den.fsCons, Den.fsNil, Den.fSetIx, Den.fAugIx, Den.fAug, Den.asInt, Den.items, Den.putItems, Den.sameKind, Den.fMut, Den.φApp, Den.φIns, Den.fCall, Den.fCallM, Den.fPar, Den.fPar3, Den.fAsg, Den.gNm, Den.gTp, Den.gsCons, Den.gsNil, Den.fSl, Den.fPt, Den.φSl, Den.add_int, Den.sub_int, Den.φNeg, Den.φCmp, Den.φIs, Den.φIsNot, Den.isNone, Den.len_lst, Den.len_tup, Den.φAbs, Den.φInt, Den.φTuple, Den.φList, Den.fdmt, Den.fdnp, L2.ixN, Den.eq_str, Den.ne_str, Den.eq_int, Den.ne_int, Den.ix_lst, Den.ix_tup, Den.at_zero, Den.at_one, Den.at_two, Den.at_three, Den.lim_lit]) ⟨g, rfl, rfl, must_fix h hb hbn g0 hm, gl, gt⟩
  · have hne : P ≠ lot rs.length g := by simpa using hf
    have hll := lot_len (n := rs.length) (s := g)
    have gc2 : rs.length + 1 ≤ m + (lot rs.length g).length := gc.resolve_left hne
    obtain ⟨m', rfl⟩ : ∃ m', m = m' + 1 := ⟨m - 1, by omega⟩
    refine ⟨m', rfl, ?_⟩
    unfold b_closed_part_0
    refine ok_step (ρ1 := stC rs k big sm l (lot rs.length g) (lot rs.length g)) (by unfold stC; simp [Den.Cd.denD, Den.fsStar, Den.f1, Den.fExt, Den.fRep, Den.fTr, Den.fCh, Den.opI, Den.opB, Den.opC, Den.opM, Den.bodyRun, Den.Ss.den, Den.S.den, Den.C.den, Den.C.denT, Den.Cs.denA, Den.Cs.denO, Den.Cs.denAT, Den.Cs.denOT, Den.Cs.denV, Den.Cs.denF, Den.Co.den, Den.Co.denT, Den.Ci.den, Den.Tg.den, Den.Tg.dens, Den.Tg.slots, Den.Tg.slotsL, Den.parL, Den.fSeq, Den.fRet, Den.fRetN, Den.fNop, Den.fBk, Den.fCt, Den.fSet, Den.fO, Den.fDrop, Den.SlOf, Den.notBg, Den.fIfS, Den.fIf, Den.fT, Den.truth, Den.fAnd, Den.fOr, Den.fNot, Den.fAndV, Den.fOrV, Den.fNotV, Den.isB, Den.fV, Den.fF, Den.frz, Den.half, Den.vw, Den.vws, Den.f1, Den.f2, Den.fL, Den.fM, Den.fVar, Den.fC, Den.fTup, Den.fLst, Den.fsCons, Den.fsNil, Den.fSetIx, Den.fAugIx, Den.fAug, Den.asInt, Den.items, Den.putItems, Den.sameKind, Den.fMut, Den.φApp, Den.φIns, Den.fCall, Den.fCallM, Den.fPar, Den.fPar3, Den.fAsg, Den.gNm, Den.gTp, Den.gsCons, Den.gsNil, Den.fSl, Den.fPt, Den.φSl, Den.add_int, Den.sub_int, Den.φNeg, Den.φCmp, Den.φIs, Den.φIsNot, Den.isNone, Den.len_lst, Den.len_tup, Den.φAbs, Den.φInt, Den.φTuple, Den.φList, Den.fdmt, Den.fdnp, L2.ixN, Den.eq_str, Den.ne_str, Den.eq_int, Den.ne_int, Den.ix_lst, Den.ix_tup, Den.at_zero, Den.at_one, Den.at_two, Den.at_three, Den.lim_lit]) ?_
    have q := q_closed (k := k) (big := big) (sm := sm) (l := l) (p := lot rs.length g) (g := lot rs.length g) h (fun u hu => (mem_lot.mp hu).1) (by omega)
    refine ok_step (ρ1 := stC rs k big sm l (lot rs.length g) (lot rs.length (mustB rs big (lot rs.length g)))) ?_ (ok_nil ⟨lot rs.length g, mustB rs big (lot rs.length g), rfl, must_up (mem_lot.mpr ⟨hl0, g0⟩), fun u hu => must_up (mem_lot.mpr ⟨hn u hu, gl u hu⟩),
      fun t ht hlt v hv hm => must_in h hb ht (fun u hu hgu => gt t ht hlt u hu hgu) hv hm, fun _ v _ => rfl, ?_⟩)
    · exact set_va (den_tuple q) nb_va rfl rfl
    · by_cases he : lot rs.length g = lot rs.length (mustB rs big (lot rs.length g))
      · exact .inl he
      · have := cnt_lt (n := rs.length) (g := g) (g' := mustB rs big (lot rs.length g)) (fun u hu hgu => must_up (mem_lot.mpr ⟨hu, hgu⟩)) he
        exact .inr (by omega)
theorem sorted_natsT {ns : List Nat} (h : ns.length ≤ lim) : φSorted [.tuple (nD ns)] = some (.ls (sortD (nD ns))) := by
  unfold φSorted
  refine if_pos ⟨alike_nats, .inr ?_, by rw [nD_len]; exact h, ?_⟩
  · rw [List.all_eq_true]
    intro x hx
    obtain ⟨a, _, rfl⟩ := List.mem_map.mp hx
    rfl
  · rw [List.all_eq_true]
    intro x hx
    obtain ⟨a, _, rfl⟩ := List.mem_map.mp hx
    simp [nI, PyData.depth]
/-! ### opened parts -/
theorem free_ok (h : Dun rs) {big : Option Nat} {sm lk P : List Nat} {v : Nat} (hv : v < rs.length) (h0 : 0 < v) :
    d_way_is_free.run [] [dunD rs k, laidD big sm, tN lk, tN P, .int (v : Int)] = some (.va (.bool (isOpn rs v || (isLck rs v && decide (v ∈ lk)) || (isBar rs v && oin big P))), []) := by
  have e1 := lck_at h hv
  have e2 := (opn_at h hv).1
  have e3 := in_natT (p := v) (ns := lk)
  have e4 := in_pD (l := P) big
  rw [r_way_is_free]
  rcases way_one h hv h0 with ⟨a, b, c⟩ | ⟨a, b, c⟩ | ⟨a, b, c⟩
  · rw [a, b, c]
    rw [b] at e1
    rw [a] at e2
    unfold tN dunD laidD
    simp [Den.Cd.denD, Den.fsStar, Den.f1, Den.fExt, Den.fRep, Den.fTr, Den.fCh, Den.opI, Den.opB, Den.opC, Den.opM, Den.bodyRun, Den.Ss.den, Den.S.den, Den.C.den, Den.C.denT, Den.Cs.denA, Den.Cs.denO, Den.Cs.denAT, Den.Cs.denOT, Den.Cs.denV, Den.Cs.denF, Den.Co.den, Den.Co.denT, Den.Ci.den, Den.Tg.den, Den.Tg.dens, Den.Tg.slots, Den.Tg.slotsL, Den.parL, Den.fSeq, Den.fRet, Den.fRetN, Den.fNop, Den.fBk, Den.fCt, Den.fSet, Den.fO, Den.fDrop, Den.SlOf, Den.notBg, Den.fIfS, Den.fIf, Den.fT, Den.truth, Den.fAnd, Den.fOr, Den.fNot, Den.fAndV, Den.fOrV, Den.fNotV, Den.isB, Den.fV, Den.fF, Den.frz, Den.half, Den.vw, Den.vws, Den.f1, Den.f2, Den.fL, Den.fM, Den.fVar, Den.fC, Den.fTup, Den.fLst, Den.fsCons, Den.fsNil, Den.fSetIx, Den.fAugIx, Den.fAug, Den.asInt, Den.items, Den.putItems, Den.sameKind, Den.fMut, Den.φApp, Den.φIns, Den.fCall, Den.fCallM, Den.fPar, Den.fPar3, Den.fAsg, Den.gNm, Den.gTp, Den.gsCons, Den.gsNil, Den.fSl, Den.fPt, Den.φSl, Den.add_int, Den.sub_int, Den.φNeg, Den.φCmp, Den.φIs, Den.φIsNot, Den.isNone, Den.len_lst, Den.len_tup, Den.φAbs, Den.φInt, Den.φTuple, Den.φList, Den.fdmt, Den.fdnp, L2.ixN, Den.eq_str, Den.ne_str, Den.eq_int, Den.ne_int, Den.ix_lst, Den.ix_tup, Den.at_zero, Den.at_one, Den.at_two, Den.at_three, Den.lim_lit, c_way_is_free, roomD, room_at hv, e1, e2]
  · rw [a, b, c]
    rw [b] at e1
    unfold tN dunD laidD
    simp [Den.Cd.denD, Den.fsStar, Den.f1, Den.fExt, Den.fRep, Den.fTr, Den.fCh, Den.opI, Den.opB, Den.opC, Den.opM, Den.bodyRun, Den.Ss.den, Den.S.den, Den.C.den, Den.C.denT, Den.Cs.denA, Den.Cs.denO, Den.Cs.denAT, Den.Cs.denOT, Den.Cs.denV, Den.Cs.denF, Den.Co.den, Den.Co.denT, Den.Ci.den, Den.Tg.den, Den.Tg.dens, Den.Tg.slots, Den.Tg.slotsL, Den.parL, Den.fSeq, Den.fRet, Den.fRetN, Den.fNop, Den.fBk, Den.fCt, Den.fSet, Den.fO, Den.fDrop, Den.SlOf, Den.notBg, Den.fIfS, Den.fIf, Den.fT, Den.truth, Den.fAnd, Den.fOr, Den.fNot, Den.fAndV, Den.fOrV, Den.fNotV, Den.isB, Den.fV, Den.fF, Den.frz, Den.half, Den.vw, Den.vws, Den.f1, Den.f2, Den.fL, Den.fM, Den.fVar, Den.fC, Den.fTup, Den.fLst, Den.fsCons, Den.fsNil, Den.fSetIx, Den.fAugIx, Den.fAug, Den.asInt, Den.items, Den.putItems, Den.sameKind, Den.fMut, Den.φApp, Den.φIns, Den.fCall, Den.fCallM, Den.fPar, Den.fPar3, Den.fAsg, Den.gNm, Den.gTp, Den.gsCons, Den.gsNil, Den.fSl, Den.fPt, Den.φSl, Den.add_int, Den.sub_int, Den.φNeg, Den.φCmp, Den.φIs, Den.φIsNot, Den.isNone, Den.len_lst, Den.len_tup, Den.φAbs, Den.φInt, Den.φTuple, Den.φList, Den.fdmt, Den.fdnp, L2.ixN, Den.eq_str, Den.ne_str, Den.eq_int, Den.ne_int, Den.ix_lst, Den.ix_tup, Den.at_zero, Den.at_one, Den.at_two, Den.at_three, Den.lim_lit, c_way_is_free, roomD, room_at hv, e1, e3]
  · rw [a, b, c]
    rw [b] at e1
    rw [a] at e2
    unfold tN dunD laidD
    simp [Den.Cd.denD, Den.fsStar, Den.f1, Den.fExt, Den.fRep, Den.fTr, Den.fCh, Den.opI, Den.opB, Den.opC, Den.opM, Den.bodyRun, Den.Ss.den, Den.S.den, Den.C.den, Den.C.denT, Den.Cs.denA, Den.Cs.denO, Den.Cs.denAT, Den.Cs.denOT, Den.Cs.denV, Den.Cs.denF, Den.Co.den, Den.Co.denT, Den.Ci.den, Den.Tg.den, Den.Tg.dens, Den.Tg.slots, Den.Tg.slotsL, Den.parL, Den.fSeq, Den.fRet, Den.fRetN, Den.fNop, Den.fBk, Den.fCt, Den.fSet, Den.fO, Den.fDrop, Den.SlOf, Den.notBg, Den.fIfS, Den.fIf, Den.fT, Den.truth, Den.fAnd, Den.fOr, Den.fNot, Den.fAndV, Den.fOrV, Den.fNotV, Den.isB, Den.fV, Den.fF, Den.frz, Den.half, Den.vw, Den.vws, Den.f1, Den.f2, Den.fL, Den.fM, Den.fVar, Den.fC, Den.fTup, Den.fLst, Den.fsCons, Den.fsNil, Den.fSetIx, Den.fAugIx, Den.fAug, Den.asInt, Den.items, Den.putItems, Den.sameKind, Den.fMut, Den.φApp, Den.φIns, Den.fCall, Den.fCallM, Den.fPar, Den.fPar3, Den.fAsg, Den.gNm, Den.gTp, Den.gsCons, Den.gsNil, Den.fSl, Den.fPt, Den.φSl, Den.add_int, Den.sub_int, Den.φNeg, Den.φCmp, Den.φIs, Den.φIsNot, Den.isNone, Den.len_lst, Den.len_tup, Den.φAbs, Den.φInt, Den.φTuple, Den.φList, Den.fdmt, Den.fdnp, L2.ixN, Den.eq_str, Den.ne_str, Den.eq_int, Den.ne_int, Den.ix_lst, Den.ix_tup, Den.at_zero, Den.at_one, Den.at_two, Den.at_three, Den.lim_lit, c_way_is_free, roomD, room_at hv, e1, e2, e4]
def stO (rs : List Rm) (k : Int) (big : Option Nat) (sm lk p c : List Nat) : Lo := [.va (dunD rs k), .va (laidD big sm), .va (tN lk), .va (tN p), .va (tN c), .no]
/-- the rooms behind a free way -/
def come (rs : List Rm) (big : Option Nat) (lk p : List Nat) (v : Nat) : Bool := rimB rs p v && (isOpn rs v || (isLck rs v && decide (v ∈ lk)) || (isBar rs v && oin big p))
theorem rim_pos (h : Dun rs) {p : List Nat} {v : Nat} (hv : rimB rs p v = true) : 0 < v := by
  rcases Nat.eq_zero_or_pos v with z | z
  · subst z
    unfold rimB at hv
    rw [par_root h] at hv
    simp at hv
  · exact z
theorem q_opened (h : Dun rs) {big : Option Nat} {sm lk p c : List Nat} : q_opened_part_0.den g_opened_part (stO rs k big sm lk p c) = some (.ls ((lot rs.length (come rs big lk p)).map nI), stO rs k big sm lk p c) := by
  have e0 := cf (rim_ok (k := k) h (lot := p)) mt_rim_of np_rim_of
  have q : q_opened_part_0.den g_opened_part (stO rs k big sm lk p c) = some (.ls ((((List.range rs.length).filter (rimB rs p)).filter fun v => isOpn rs v || (isLck rs v && decide (v ∈ lk)) || (isBar rs v && oin big p)).map nI), stO rs k big sm lk p c) := by
    unfold q_opened_part_0
    refine lc1 (l := (List.range rs.length).filter (rimB rs p)) (f := nI) (g := nI) (s := .no) (ρ1 := stO rs k big sm lk p c) ?_ ?_ rfl (fun v hv => ?_) (fun v hv _ => by rfl)
    · unfold stO tN
      simp [Den.Cd.denD, Den.fsStar, Den.f1, Den.fExt, Den.fRep, Den.fTr, Den.fCh, Den.opI, Den.opB, Den.opC, Den.opM, Den.bodyRun, Den.Ss.den, Den.S.den, Den.C.den, Den.C.denT, Den.Cs.denA, Den.Cs.denO, Den.Cs.denAT, Den.Cs.denOT, Den.Cs.denV, Den.Cs.denF, Den.Co.den, Den.Co.denT, Den.Ci.den, Den.Tg.den, Den.Tg.dens, Den.Tg.slots, Den.Tg.slotsL, Den.parL, Den.fSeq, Den.fRet, Den.fRetN, Den.fNop, Den.fBk, Den.fCt, Den.fSet, Den.fO, Den.fDrop, Den.SlOf, Den.notBg, Den.fIfS, Den.fIf, Den.fT, Den.truth, Den.fAnd, Den.fOr, Den.fNot, Den.fAndV, Den.fOrV, Den.fNotV, Den.isB, Den.fV, Den.fF, Den.frz, Den.half, Den.vw, Den.vws, Den.f1, Den.f2, Den.fL, Den.fM, Den.fVar, Den.fC, Den.fTup, Den.fLst, Den.fsCons, Den.fsNil, Den.fSetIx, Den.fAugIx, Den.fAug, Den.asInt, Den.items, Den.putItems, Den.sameKind, Den.fMut, Den.φApp, Den.φIns, Den.fCall_eq, Den.fCallM_eq, Den.fPar, Den.fPar3, Den.fAsg, Den.gNm, Den.gTp, Den.gsCons, Den.gsNil, Den.fSl, Den.fPt, Den.φSl, Den.add_int, Den.sub_int, Den.φNeg, Den.φCmp, Den.φIs, Den.φIsNot, Den.isNone, Den.len_lst, Den.len_tup, Den.φAbs, Den.φInt, Den.φTuple, Den.φList, Den.fdmt, Den.fdnp, L2.ixN, Den.eq_str, Den.ne_str, Den.eq_int, Den.ne_int, Den.ix_lst, Den.ix_tup, Den.at_zero, Den.at_one, Den.at_two, Den.at_three, Den.lim_lit, g_opened_part, fIt, its, e0]
      rfl
    · have := List.length_filter_le (rimB rs p) (List.range rs.length)
      rw [List.length_range] at this
      exact lim_11 (Nat.le_trans this h.len1)
    · obtain ⟨h1, h2⟩ := List.mem_filter.mp hv
      have e := cf (free_ok (k := k) (big := big) (sm := sm) (lk := lk) (P := p) h (List.mem_range.mp h1) (rim_pos h h2)) mt_way_is_free np_way_is_free
      unfold stO nI
      simp [Den.Cd.denD, Den.fsStar, Den.f1, Den.fExt, Den.fRep, Den.fTr, Den.fCh, Den.opI, Den.opB, Den.opC, Den.opM, Den.bodyRun, Den.Ss.den, Den.S.den, Den.C.den, Den.C.denT, Den.Cs.denA, Den.Cs.denO, Den.Cs.denAT, Den.Cs.denOT, Den.Cs.denV, Den.Cs.denF, Den.Co.den, Den.Co.denT, Den.Ci.den, Den.Tg.den, Den.Tg.dens, Den.Tg.slots, Den.Tg.slotsL, Den.parL, Den.fSeq, Den.fRet, Den.fRetN, Den.fNop, Den.fBk, Den.fCt, Den.fSet, Den.fO, Den.fDrop, Den.SlOf, Den.notBg, Den.fIfS, Den.fIf, Den.fT, Den.truth, Den.fAnd, Den.fOr, Den.fNot, Den.fAndV, Den.fOrV, Den.fNotV, Den.isB, Den.fV, Den.fF, Den.frz, Den.half, Den.vw, Den.vws, Den.f1, Den.f2, Den.fL, Den.fM, Den.fVar, Den.fC, Den.fTup, Den.fLst, Den.fsCons, Den.fsNil, Den.fSetIx, Den.fAugIx, Den.fAug, Den.asInt, Den.items, Den.putItems, Den.sameKind, Den.fMut, Den.φApp, Den.φIns, Den.fCall_eq, Den.fCallM_eq, Den.fPar, Den.fPar3, Den.fAsg, Den.gNm, Den.gTp, Den.gsCons, Den.gsNil, Den.fSl, Den.fPt, Den.φSl, Den.add_int, Den.sub_int, Den.φNeg, Den.φCmp, Den.φIs, Den.φIsNot, Den.isNone, Den.len_lst, Den.len_tup, Den.φAbs, Den.φInt, Den.φTuple, Den.φList, Den.fdmt, Den.fdnp, L2.ixN, Den.eq_str, Den.ne_str, Den.eq_int, Den.ne_int, Den.ix_lst, Den.ix_tup, Den.at_zero, Den.at_one, Den.at_two, Den.at_three, Den.lim_lit, g_opened_part, e]
  rw [List.filter_filter] at q
  rw [q]
  have e : (List.range rs.length).filter (fun a => (isOpn rs a || (isLck rs a && decide (a ∈ lk)) || (isBar rs a && oin big p)) && rimB rs p a) = lot rs.length (come rs big lk p) := List.filter_congr fun v _ => Bool.and_comm _ _
  rw [e]
theorem opened_ok (h : Dun rs) {big : Option Nat} {sm lk : List Nat} (hb : ∀ b, big = some b → b < rs.length) :
    ∃ s, d_opened_part.run [] [dunD rs k, laidD big sm, tN lk] = some (.va (tN (lot rs.length s)), []) ∧ Lst rs big lk s := by
  suffices q : Ans (d_opened_part.run [] [dunD rs k, laidD big sm, tN lk]) fun r β => ∃ s, r = .va (tN (lot rs.length s)) ∧ β = [] ∧ Lst rs big lk s by
    obtain ⟨r, β, e, s, rfl, rfl, hs⟩ := q
    exact ⟨s, e, hs⟩
  have hl1 := h.len1
  have hl0 := h.len0
  rw [r_opened_part]
  refine run_f ?_
  refine ok_step (ρ1 := [.va (dunD rs k), .va (laidD big sm), .va (tN lk), .va (tN []), .no, .no]) (by simp [Den.Cd.denD, Den.fsStar, Den.f1, Den.fExt, Den.fRep, Den.fTr, Den.fCh, Den.opI, Den.opB, Den.opC, Den.opM, Den.bodyRun, Den.Ss.den, Den.S.den, Den.C.den, Den.C.denT, Den.Cs.denA, Den.Cs.denO, Den.Cs.denAT, Den.Cs.denOT, Den.Cs.denV, Den.Cs.denF, Den.Co.den, Den.Co.denT, Den.Ci.den, Den.Tg.den, Den.Tg.dens, Den.Tg.slots, Den.Tg.slotsL, Den.parL, Den.fSeq, Den.fRet, Den.fRetN, Den.fNop, Den.fBk, Den.fCt, Den.fSet, Den.fO, Den.fDrop, Den.SlOf, Den.notBg, Den.fIfS, Den.fIf, Den.fT, Den.truth, Den.fAnd, Den.fOr, Den.fNot, Den.fAndV, Den.fOrV, Den.fNotV, Den.isB, Den.fV, Den.fF, Den.frz, Den.half, Den.vw, Den.vws, Den.f1, Den.f2, Den.fL, Den.fM, Den.fVar, Den.fC, Den.fTup, Den.fLst, Den.fsCons, Den.fsNil, Den.fSetIx, Den.fAugIx, Den.fAug, Den.asInt, Den.items, Den.putItems, Den.sameKind, Den.fMut, Den.φApp, Den.φIns, Den.fCall, Den.fCallM, Den.fPar, Den.fPar3, Den.fAsg, Den.gNm, Den.gTp, Den.gsCons, Den.gsNil, Den.fSl, Den.fPt, Den.φSl, Den.add_int, Den.sub_int, Den.φNeg, Den.φCmp, Den.φIs, Den.φIsNot, Den.isNone, Den.len_lst, Den.len_tup, Den.φAbs, Den.φInt, Den.φTuple, Den.φList, Den.fdmt, Den.fdnp, L2.ixN, Den.eq_str, Den.ne_str, Den.eq_int, Den.ne_int, Den.ix_lst, Den.ix_tup, Den.at_zero, Den.at_one, Den.at_two, Den.at_three, Den.lim_lit, tN, nD]) ?_
  have ez : ∀ n, 0 < n → lot n (fun u => u == 0) = [0] := fun n hn => by
    refine asc_eq lot_asc (by simp) fun u => ?_
    rw [mem_lot, List.mem_singleton, beq_iff_eq]
    exact ⟨fun h => h.2, fun h => ⟨by omega, h⟩⟩
  have en : ∀ n, lot n (fun _ => false) = [] := fun n => by simp [lot]
  refine ok_step (ρ1 := stO rs k big sm lk (lot rs.length fun _ => false) (lot rs.length fun u => u == 0)) (by rw [ez _ hl0, en]; unfold stO; simp [Den.Cd.denD, Den.fsStar, Den.f1, Den.fExt, Den.fRep, Den.fTr, Den.fCh, Den.opI, Den.opB, Den.opC, Den.opM, Den.bodyRun, Den.Ss.den, Den.S.den, Den.C.den, Den.C.denT, Den.Cs.denA, Den.Cs.denO, Den.Cs.denAT, Den.Cs.denOT, Den.Cs.denV, Den.Cs.denF, Den.Co.den, Den.Co.denT, Den.Ci.den, Den.Tg.den, Den.Tg.dens, Den.Tg.slots, Den.Tg.slotsL, Den.parL, Den.fSeq, Den.fRet, Den.fRetN, Den.fNop, Den.fBk, Den.fCt, Den.fSet, Den.fO, Den.fDrop, Den.SlOf, Den.notBg, Den.fIfS, Den.fIf, Den.fT, Den.truth, Den.fAnd, Den.fOr, Den.fNot, Den.fAndV, Den.fOrV, Den.fNotV, Den.isB, Den.fV, Den.fF, Den.frz, Den.half, Den.vw, Den.vws, Den.f1, Den.f2, Den.fL, Den.fM, Den.fVar, Den.fC, Den.fTup, Den.fLst, Den.fsCons, Den.fsNil, Den.fSetIx, Den.fAugIx, Den.fAug, Den.asInt, Den.items, Den.putItems, Den.sameKind, Den.fMut, Den.φApp, Den.φIns, Den.fCall, Den.fCallM, Den.fPar, Den.fPar3, Den.fAsg, Den.gNm, Den.gTp, Den.gsCons, Den.gsNil, Den.fSl, Den.fPt, Den.φSl, Den.add_int, Den.sub_int, Den.φNeg, Den.φCmp, Den.φIs, Den.φIsNot, Den.isNone, Den.len_lst, Den.len_tup, Den.φAbs, Den.φInt, Den.φTuple, Den.φList, Den.fdmt, Den.fdnp, L2.ixN, Den.eq_str, Den.ne_str, Den.eq_int, Den.ne_int, Den.ix_lst, Den.ix_tup, Den.at_zero, Den.at_one, Den.at_two, Den.at_three, Den.lim_lit, tN, nD, nI]) ?_
  refine ok_cons (ok_while (n := rs.length) (fun m ρ => ∃ s c : Nat → Bool, ρ = stO rs k big sm lk (lot rs.length s) (lot rs.length c) ∧ (∀ v, v < rs.length → s v = true → c v = false) ∧ (s 0 = true ∨ c 0 = true) ∧
      (∀ t, Cl rs big lk t → ∀ v, v < rs.length → (s v = true ∨ c v = true) → t v = true) ∧ (∀ v p, v < rs.length → parOf rs v = some p → s p = true → frS rs big lk s v = true → s v = true ∨ c v = true) ∧ rs.length ≤ m + (lot rs.length s).length)
    ⟨_, _, rfl, (fun v hv z => by cases z), .inr rfl, (fun t ht v hv hz => by
      rcases hz with z | z
      · cases z
      · rw [beq_iff_eq] at z
        rw [z]
        exact ht.1), (fun v p hv e z => by cases z), by omega⟩ (by omega) ?_)
  rintro m ρ ⟨s, c, rfl, hd, h0, ht, hc, hm⟩
  have e5 : φNe (.tuple (nD (lot rs.length c))) (.tuple []) = some (.va (.bool (!decide (lot rs.length c = [])))) := ne_tN (b := [])
  refine ⟨!decide (lot rs.length c = []), stO rs k big sm lk (lot rs.length s) (lot rs.length c), by unfold stO tN; simp [Den.Cd.denD, Den.fsStar, Den.f1, Den.fExt, Den.fRep, Den.fTr, Den.fCh, Den.opI, Den.opB, Den.opC, Den.opM, Den.bodyRun, Den.Ss.den, Den.S.den, Den.C.den, Den.C.denT, Den.Cs.denA, Den.Cs.denO, Den.Cs.denAT, Den.Cs.denOT, Den.Cs.denV, Den.Cs.denF, Den.Co.den, Den.Co.denT, Den.Ci.den, Den.Tg.den, Den.Tg.dens, Den.Tg.slots, Den.Tg.slotsL, Den.parL, Den.fSeq, Den.fRet, Den.fRetN, Den.fNop, Den.fBk, Den.fCt, Den.fSet, Den.fO, Den.fDrop, Den.SlOf, Den.notBg, Den.fIfS, Den.fIf, Den.fT, Den.truth, Den.fAnd, Den.fOr, Den.fNot, Den.fAndV, Den.fOrV, Den.fNotV, Den.isB, Den.fV, Den.fF, Den.frz, Den.half, Den.vw, Den.vws, Den.f1, Den.f2, Den.fL, Den.fM, Den.fVar, Den.fC, Den.fTup, Den.fLst, Den.fsCons, Den.fsNil, Den.fSetIx, Den.fAugIx, Den.fAug, Den.asInt, Den.items, Den.putItems, Den.sameKind, Den.fMut, Den.φApp, Den.φIns, Den.fCall, Den.fCallM, Den.fPar, Den.fPar3, Den.fAsg, Den.gNm, Den.gTp, Den.gsCons, Den.gsNil, Den.fSl, Den.fPt, Den.φSl, Den.add_int, Den.sub_int, Den.φNeg, Den.φCmp, Den.φIs, Den.φIsNot, Den.isNone, Den.len_lst, Den.len_tup, Den.φAbs, Den.φInt, Den.φTuple, Den.φList, Den.fdmt, Den.fdnp, L2.ixN, Den.eq_str, Den.ne_str, Den.eq_int, Den.ne_int, Den.ix_lst, Den.ix_tup, Den.at_zero, Den.at_one, Den.at_two, Den.at_three, Den.lim_lit, e5], fun hf => ?_, fun hf => ?_⟩
  · have he : lot rs.length c = [] := by simpa using hf
    have hc0 : ∀ v, v < rs.length → c v = false := fun v hv => by
      cases z : c v with
      | false => rfl
      | true =>
        have := mem_lot.mpr ⟨hv, z⟩
        rw [he] at this
        cases this
    refine ok_last (r := .va (tN (lot rs.length s))) (ρ1 := stO rs k big sm lk (lot rs.length s) (lot rs.length c)) (by unfold stO; simp [Den.Cd.denD, Den.fsStar, Den.f1, Den.fExt, Den.fRep, Den.fTr, Den.fCh, Den.opI, Den.opB, Den.opC, Den.opM, Den.bodyRun, Den.Ss.den, Den.S.den, Den.C.den, Den.C.denT, Den.Cs.denA, Den.Cs.denO, Den.Cs.denAT, Den.Cs.denOT, Den.Cs.denV, Den.Cs.denF, Den.Co.den, Den.Co.denT, Den.Ci.den, Den.Tg.den, Den.Tg.dens, Den.Tg.slots, Den.Tg.slotsL, Den.parL, Den.fSeq, Den.fRet, Den.fRetN, Den.fNop, Den.fBk, Den.fCt, Den.fSet, Den.fO, Den.fDrop, Den.SlOf, Den.notBg, Den.fIfS, Den.fIf, Den.fT, Den.truth, Den.fAnd, Den.fOr, Den.fNot, Den.fAndV, Den.fOrV, Den.fNotV, Den.isB, Den.fV, Den.fF, Den.frz, Den.half, Den.vw, Den.vws, Den.f1, Den.f2, Den.fL, Den.fM, Den.fVar, Den.fC, Den.fTup, Den.fLst, Den.fsCons, Den.fsNil, Den.fSetIx, Den.fAugIx, Den.fAug, Den.asInt, Den.items, Den.putItems, Den.sameKind, Den.fMut, Den.φApp, Den.φIns, Den.fCall, Den.fCallM, Den.fPar, Den.fPar3, Den.fAsg, Den.gNm, Den.gTp, Den.gsCons, Den.gsNil, Den.fSl, Den.fPt, Den.φSl, Den.add_int, Den.sub_int, Den.φNeg, Den.φCmp, Den.φIs, Den.φIsNot, Den.isNone, Den.len_lst, Den.len_tup, Den.φAbs, Den.φInt, Den.φTuple, Den.φList, Den.fdmt, Den.fdnp, L2.ixN, Den.eq_str, Den.ne_str, Den.eq_int, Den.ne_int, Den.ix_lst, Den.ix_tup, Den.at_zero, Den.at_one, Den.at_two, Den.at_three, Den.lim_lit]) ⟨s, rfl, rfl, ⟨h0.resolve_right (by rw [hc0 0 hl0]; simp), fun v p hv e hp hfr => (hc v p hv e hp hfr).resolve_right (by rw [hc0 v hv]; simp)⟩, fun t htt v hv hs => ht t htt v hv (.inl hs)⟩
  · have hne : lot rs.length c ≠ [] := by simpa using hf
    obtain ⟨w, hw⟩ := List.exists_mem_of_ne_nil _ hne
    obtain ⟨hwn, hwc⟩ := mem_lot.mp hw
    have hsub : (lot rs.length s).length < (lot rs.length fun u => s u || c u).length := cnt_lt (fun u hu z => by simp [z]) fun z => by
      have := lot_inj z hwn
      simp only [hwc, Bool.or_true] at this
      have := hd w hwn this
      rw [hwc] at this
      cases this
    have hll := lot_len (n := rs.length) (s := fun u => s u || c u)
    obtain ⟨m', rfl⟩ : ∃ m', m = m' + 1 := ⟨m - 1, by omega⟩
    refine ⟨m', rfl, ?_⟩
    unfold b_opened_part_0
    have hsort : sortD (nD (lot rs.length s ++ lot rs.length c)) = nD (lot rs.length fun u => s u || c u) := by
      refine sortD_asc lot_asc ((List.perm_ext_iff_of_nodup ?_ (asc_nodup lot_asc)).mpr fun u => ?_)
      · refine List.nodup_append.mpr ⟨asc_nodup lot_asc, asc_nodup lot_asc, fun a ha b hb2 hab => ?_⟩
        subst hab
        obtain ⟨h1, h2⟩ := mem_lot.mp ha
        have := (mem_lot.mp hb2).2
        rw [hd a h1 h2] at this
        cases this
      · rw [List.mem_append, mem_lot, mem_lot, mem_lot, Bool.or_eq_true]
        constructor
        · rintro (⟨a, b⟩ | ⟨a, b⟩)
          · exact ⟨a, .inl b⟩
          · exact ⟨a, .inr b⟩
        · rintro ⟨a, b | b⟩
          · exact .inl ⟨a, b⟩
          · exact .inr ⟨a, b⟩
    have hs1 := lot_len (n := rs.length) (s := s)
    have hs2 := lot_len (n := rs.length) (s := c)
    have c1 : (nD (lot rs.length s)).length + (nD (lot rs.length c)).length ≤ lim := by
      rw [nD_len, nD_len]
      show _ ≤ 1000000
      omega
    have c2 := sorted_natsT (ns := lot rs.length s ++ lot rs.length c) (by rw [List.length_append]; show _ ≤ 1000000; omega)
    rw [hsort] at c2
    refine ok_step (ρ1 := stO rs k big sm lk (lot rs.length fun u => s u || c u) (lot rs.length c)) ?_ ?_
    · unfold stO tN
      rw [nD_app] at c2
      generalize nD (lot rs.length fun u => s u || c u) = X at c2 ⊢
      have e7 := add_tup c1
      generalize nD (lot rs.length s) = A at e7 c2 ⊢
      generalize nD (lot rs.length c) = B at e7 c2 ⊢
      simp [Den.Cd.denD, Den.fsStar, Den.f1, Den.fExt, Den.fRep, Den.fTr, Den.fCh, Den.opI, Den.opB, Den.opC, Den.opM, Den.bodyRun, Den.Ss.den, Den.S.den, Den.C.den, Den.C.denT, Den.Cs.denA, Den.Cs.denO, Den.Cs.denAT, Den.Cs.denOT, Den.Cs.denV, Den.Cs.denF, Den.Co.den, Den.Co.denT, Den.Ci.den, Den.Tg.den, Den.Tg.dens, Den.Tg.slots, Den.Tg.slotsL, Den.parL, Den.fSeq, Den.fRet, Den.fRetN, Den.fNop, Den.fBk, Den.fCt, Den.fSet, Den.fO, Den.fDrop, Den.SlOf, Den.notBg, Den.fIfS, Den.fIf, Den.fT, Den.truth, Den.fAnd, Den.fOr, Den.fNot, Den.fAndV, Den.fOrV, Den.fNotV, Den.isB, Den.fV, Den.fF, Den.frz, Den.half, Den.vw, Den.vws, Den.f1, Den.f2, Den.fL, Den.fM, Den.fVar, Den.fC, Den.fTup, Den.fLst, Den.fsCons, Den.fsNil, Den.fSetIx, Den.fAugIx, Den.fAug, Den.asInt, Den.items, Den.putItems, Den.sameKind, Den.fMut, Den.φApp, Den.φIns, Den.fCall, Den.fCallM, Den.fPar, Den.fPar3, Den.fAsg, Den.gNm, Den.gTp, Den.gsCons, Den.gsNil, Den.fSl, Den.fPt, Den.φSl, Den.add_int, Den.sub_int, Den.φNeg, Den.φCmp, Den.φIs, Den.φIsNot, Den.isNone, Den.len_lst, Den.len_tup, Den.φAbs, Den.φInt, Den.φTuple, Den.φList, Den.fdmt, Den.fdnp, L2.ixN, Den.eq_str, Den.ne_str, Den.eq_int, Den.ne_int, Den.ix_lst, Den.ix_tup, Den.at_zero, Den.at_one, Den.at_two, Den.at_three, Den.lim_lit, e7, c2]
    · have q := q_opened (k := k) (big := big) (sm := sm) (lk := lk) (p := lot rs.length fun u => s u || c u) (c := lot rs.length c) h
      refine ok_step (set_va (den_tuple q) nb_va rfl rfl) ?_
      have hin : ∀ u, u < rs.length → (u ∈ lot rs.length (fun u => s u || c u) ↔ (s u = true ∨ c u = true)) := fun u hu => by
        rw [mem_lot, Bool.or_eq_true]
        exact ⟨fun z => z.2, fun z => ⟨hu, z⟩⟩
      have hrim : ∀ v, v < rs.length → ∀ p, parOf rs v = some p → rimB rs (lot rs.length fun u => s u || c u) v = (!(s v || c v) && (s p || c p)) := fun v hv p e => by
        unfold rimB
        rw [e]
        have a := hin v hv
        have b := hin p (par_lt2 h hv e)
        congr 1
        · congr 1
          by_cases z : s v = true ∨ c v = true
          · rw [decide_eq_true (a.mpr z), ← Bool.or_eq_true] at *
            rw [z]
          · rw [decide_eq_false fun y => z (a.mp y)]
            simp only [not_or, Bool.not_eq_true] at z
            rw [z.1, z.2]
            rfl
        · by_cases z : s p = true ∨ c p = true
          · show decide (p ∈ _) = _
            rw [decide_eq_true (b.mpr z)]
            exact ((Bool.or_eq_true _ _).mpr z).symm
          · show decide (p ∈ _) = _
            rw [decide_eq_false fun y => z (b.mp y)]
            simp only [not_or, Bool.not_eq_true] at z
            rw [z.1, z.2]
            rfl
      have hfr : ∀ v, (isOpn rs v || (isLck rs v && decide (v ∈ lk)) || (isBar rs v && oin big (lot rs.length fun u => s u || c u))) = frS rs big lk (fun u => s u || c u) v := fun v => by
        unfold frS
        rw [oin_lot hb]
      refine ok_nil ⟨fun u => s u || c u, come rs big lk (lot rs.length fun u => s u || c u), rfl, fun v hv z => ?_, .inl ?_, fun t htt v hv z => ?_, fun v p hv e hp hf2 => ?_, by omega⟩
      · unfold come
        cases e : parOf rs v with
        | none =>
          unfold rimB
          simp [e]
        | some p =>
          have z2 : (s v || c v) = true := z
          rw [hrim v hv p e, z2]
          rfl
      · show (s 0 || c 0) = true
        rw [Bool.or_eq_true]
        exact h0
      · rcases z with z | z
        · have z2 : (s v || c v) = true := z
          rw [Bool.or_eq_true] at z2
          exact ht t htt v hv z2
        · unfold come at z
          rw [hfr, Bool.and_eq_true] at z
          obtain ⟨z1, z2⟩ := z
          cases e : parOf rs v with
          | none =>
            unfold rimB at z1
            simp [e] at z1
          | some p =>
            rw [hrim v hv p e, Bool.and_eq_true, Bool.or_eq_true] at z1
            exact htt.2 v p hv e (ht t htt p (par_lt2 h hv e) z1.2) (fr_mono hb (fun u hu y => by
              have y2 : (s u || c u) = true := y
              rw [Bool.or_eq_true] at y2
              exact ht t htt u hu y2) z2)
      · cases a : (s v || c v) with
        | true => exact .inl a
        | false =>
          refine .inr ?_
          have hp2 : (s p || c p) = true := hp
          unfold come
          rw [hfr, hrim v hv p e, hf2, a, hp2]
          rfl
end W

set_option autoImplicit false
/-! what is come to, as the law walks -/
namespace W
open PySem PySem.Spec L2 Den
variable {rs : List Rm} {k : Int}
def frL (rs : List Rm) (big : Option Nat) (lk F : List Nat) (v : Nat) : Bool := isOpn rs v || (isLck rs v && decide (v ∈ lk)) || (isBar rs v && oin big F)
structure Gd (rs : List Rm) (big : Option Nat) (lk F : List Nat) : Prop where
  nd : F.Nodup
  lt : ∀ u ∈ F, u < rs.length
  z : 0 ∈ F
  inn : ∀ t, Cl rs big lk t → ∀ u ∈ F, t u = true
def Cls (rs : List Rm) (big : Option Nat) (lk F : List Nat) : Prop := ∀ v p, v < rs.length → parOf rs v = some p → p ∈ F → frL rs big lk F v = true → v ∈ F
theorem fr_dec {big : Option Nat} {lk F : List Nat} {v : Nat} : frS rs big lk (fun u => decide (u ∈ F)) v = frL rs big lk F v := by
  unfold frS frL oinS oin
  cases big <;> rfl
theorem cls_cl {big : Option Nat} {lk F : List Nat} (h0 : 0 ∈ F) (h : Cls rs big lk F) : Cl rs big lk fun u => decide (u ∈ F) := by
  refine ⟨decide_eq_true h0, fun v p hv e hp hf => ?_⟩
  rw [fr_dec] at hf
  exact decide_eq_true (h v p hv e (of_decide_eq_true hp) hf)
theorem fr_in {big : Option Nat} {lk F : List Nat} {t : Nat → Bool} {v : Nat} (h : ∀ u ∈ F, t u = true) (e : frL rs big lk F v = true) : frS rs big lk t v = true := by
  unfold frL at e
  unfold frS
  simp only [Bool.or_eq_true, Bool.and_eq_true] at e ⊢
  rcases e with e | ⟨e1, e2⟩
  · exact .inl e
  · refine .inr ⟨e1, ?_⟩
    cases big with
    | none => cases e2
    | some b => exact h b (of_decide_eq_true e2)
def stT (rs : List Rm) (k : Int) (big : Option Nat) (lk F : List Nat) (s4 s5 s6 s7 s8 s9 : Sl) : Lo := [.va (dunD rs k), .va (pD big), .va (tN lk), .ls (nD F), s4, s5, s6, s7, s8, s9]
theorem lct0_ok (h : Dun rs) {big : Option Nat} {lk F : List Nat} {s4 s9 : Sl} {v : Nat} (hv : v < rs.length) (p9 : Nb s9) (hF : F.length ≤ 100) :
    Ok (b_lcome_to_0.den g_lcome_to (stT rs k big lk F s4 (.va (.int (v : Int))) (.va (pD (parOf rs v))) (.va rs[v].way) (.va (.int rs[v].ch)) s9))
      fun o ρ => o = .nx ∧ ρ = stT rs k big lk (if (!decide (v ∈ F) && (oin (parOf rs v) F && frL rs big lk F v)) = true then F ++ [v] else F) s4 (.va (.int (v : Int))) (.va (pD (parOf rs v))) (.va rs[v].way) (.va (.int rs[v].ch)) (.va (.bool (frL rs big lk F v))) := by
  unfold b_lcome_to_0
  have e1 := (opn_at h hv).1
  have e2 := lck_at h hv
  have e3 := bar_at h hv
  have e4 := in_natT (p := v) (ns := lk)
  have e5 := in_pDL (l := F) big
  have e6 := notin_natL (p := v) (ns := F)
  have e7 := in_pDL (l := F) (parOf rs v)
  have c1 : (nD F).length < lim := by
    rw [nD_len]
    show _ < 1000000
    omega
  refine ok_step (ρ1 := stT rs k big lk F s4 (.va (.int (v : Int))) (.va (pD (parOf rs v))) (.va rs[v].way) (.va (.int rs[v].ch)) (.va (.bool (frL rs big lk F v)))) ?_ ?_
  · unfold frL
    have hw : (isOpn rs v = true ∧ isLck rs v = false ∧ isBar rs v = false) ∨ (isOpn rs v = false ∧ isLck rs v = true ∧ isBar rs v = false) ∨ (isOpn rs v = false ∧ isLck rs v = false ∧ isBar rs v = true) ∨ (isOpn rs v = false ∧ isLck rs v = false ∧ isBar rs v = false) := by
      rcases Nat.eq_zero_or_pos v with z | z
      · subst z
        exact .inr (.inr (.inr (way_root h)))
      · rcases way_one h hv z with q | q | q
        · exact .inl q
        · exact .inr (.inl q)
        · exact .inr (.inr (.inl q))
    cases dd : decide (v ∈ lk) <;> rw [dd] at e4 <;> rcases hw with ⟨a, b, c⟩ | ⟨a, b, c⟩ | ⟨a, b, c⟩ | ⟨a, b, c⟩ <;> rw [a] at e1 <;> rw [b] at e2 <;> rw [c] at e3 <;> rw [a, b, c] <;> unfold stT tN <;> (cases s9 <;> first | cases p9; done | simp [Den.Cd.denD, Den.fsStar, Den.f1, Den.fExt, Den.fRep, Den.fTr, Den.fCh, Den.opI, Den.opB, Den.opC, Den.opM, Den.bodyRun, Den.Ss.den, Den.S.den, Den.C.den, Den.C.denT, Den.Cs.denA, Den.Cs.denO, Den.Cs.denAT, Den.Cs.denOT, Den.Cs.denV, Den.Cs.denF, Den.Co.den, Den.Co.denT, Den.Ci.den, Den.Tg.den, Den.Tg.dens, Den.Tg.slots, Den.Tg.slotsL, Den.parL, Den.fSeq, Den.fRet, Den.fRetN, Den.fNop, Den.fBk, Den.fCt, Den.fSet, Den.fO, Den.fDrop, Den.SlOf, Den.notBg, Den.fIfS, Den.fIf, Den.fT, Den.truth, Den.fAnd, Den.fOr, Den.fNot, Den.fAndV, Den.fOrV, Den.fNotV, Den.isB, Den.fV, Den.fF, Den.frz, Den.half, Den.vw, Den.vws, Den.f1, Den.f2, Den.fL, Den.fM, Den.fVar, Den.fC, Den.fTup, Den.fLst, Den.fsCons, Den.fsNil, Den.fSetIx, Den.fAugIx, Den.fAug, Den.asInt, Den.items, Den.putItems, Den.sameKind, Den.fMut, Den.φApp, Den.φIns, Den.fCall, Den.fCallM, Den.fPar, Den.fPar3, Den.fAsg, Den.gNm, Den.gTp, Den.gsCons, Den.gsNil, Den.fSl, Den.fPt, Den.φSl, Den.add_int, Den.sub_int, Den.φNeg, Den.φCmp, Den.φIs, Den.φIsNot, Den.isNone, Den.len_lst, Den.len_tup, Den.φAbs, Den.φInt, Den.φTuple, Den.φList, Den.fdmt, Den.fdnp, L2.ixN, Den.eq_str, Den.ne_str, Den.eq_int, Den.ne_int, Den.ix_lst, Den.ix_tup, Den.at_zero, Den.at_one, Den.at_two, Den.at_three, Den.lim_lit, e1, e2, e3, e4, e5])
  · cases a : decide (v ∈ F) <;> rw [a] at e6
    · cases b : oin (parOf rs v) F <;> rw [b] at e7
      · refine ok_cons (ok_if (v := false) (ρ1 := stT rs k big lk F s4 (.va (.int (v : Int))) (.va (pD (parOf rs v))) (.va rs[v].way) (.va (.int rs[v].ch)) (.va (.bool (frL rs big lk F v)))) (by unfold stT; simp [Den.Cd.denD, Den.fsStar, Den.f1, Den.fExt, Den.fRep, Den.fTr, Den.fCh, Den.opI, Den.opB, Den.opC, Den.opM, Den.bodyRun, Den.Ss.den, Den.S.den, Den.C.den, Den.C.denT, Den.Cs.denA, Den.Cs.denO, Den.Cs.denAT, Den.Cs.denOT, Den.Cs.denV, Den.Cs.denF, Den.Co.den, Den.Co.denT, Den.Ci.den, Den.Tg.den, Den.Tg.dens, Den.Tg.slots, Den.Tg.slotsL, Den.parL, Den.fSeq, Den.fRet, Den.fRetN, Den.fNop, Den.fBk, Den.fCt, Den.fSet, Den.fO, Den.fDrop, Den.SlOf, Den.notBg, Den.fIfS, Den.fIf, Den.fT, Den.truth, Den.fAnd, Den.fOr, Den.fNot, Den.fAndV, Den.fOrV, Den.fNotV, Den.isB, Den.fV, Den.fF, Den.frz, Den.half, Den.vw, Den.vws, Den.f1, Den.f2, Den.fL, Den.fM, Den.fVar, Den.fC, Den.fTup, Den.fLst, Den.fsCons, Den.fsNil, Den.fSetIx, Den.fAugIx, Den.fAug, Den.asInt, Den.items, Den.putItems, Den.sameKind, Den.fMut, Den.φApp, Den.φIns, Den.fCall, Den.fCallM, Den.fPar, Den.fPar3, Den.fAsg, Den.gNm, Den.gTp, Den.gsCons, Den.gsNil, Den.fSl, Den.fPt, Den.φSl, Den.add_int, Den.sub_int, Den.φNeg, Den.φCmp, Den.φIs, Den.φIsNot, Den.isNone, Den.len_lst, Den.len_tup, Den.φAbs, Den.φInt, Den.φTuple, Den.φList, Den.fdmt, Den.fdnp, L2.ixN, Den.eq_str, Den.ne_str, Den.eq_int, Den.ne_int, Den.ix_lst, Den.ix_tup, Den.at_zero, Den.at_one, Den.at_two, Den.at_three, Den.lim_lit, e6, e7]) (fun z => by cases z) (fun _ => ok_nil (ok_nil ⟨rfl, by simp⟩)))
      · cases c : frL rs big lk F v
        · refine ok_cons (ok_if (v := false) (ρ1 := stT rs k big lk F s4 (.va (.int (v : Int))) (.va (pD (parOf rs v))) (.va rs[v].way) (.va (.int rs[v].ch)) (.va (.bool false))) (by unfold stT; simp [Den.Cd.denD, Den.fsStar, Den.f1, Den.fExt, Den.fRep, Den.fTr, Den.fCh, Den.opI, Den.opB, Den.opC, Den.opM, Den.bodyRun, Den.Ss.den, Den.S.den, Den.C.den, Den.C.denT, Den.Cs.denA, Den.Cs.denO, Den.Cs.denAT, Den.Cs.denOT, Den.Cs.denV, Den.Cs.denF, Den.Co.den, Den.Co.denT, Den.Ci.den, Den.Tg.den, Den.Tg.dens, Den.Tg.slots, Den.Tg.slotsL, Den.parL, Den.fSeq, Den.fRet, Den.fRetN, Den.fNop, Den.fBk, Den.fCt, Den.fSet, Den.fO, Den.fDrop, Den.SlOf, Den.notBg, Den.fIfS, Den.fIf, Den.fT, Den.truth, Den.fAnd, Den.fOr, Den.fNot, Den.fAndV, Den.fOrV, Den.fNotV, Den.isB, Den.fV, Den.fF, Den.frz, Den.half, Den.vw, Den.vws, Den.f1, Den.f2, Den.fL, Den.fM, Den.fVar, Den.fC, Den.fTup, Den.fLst, Den.fsCons, Den.fsNil, Den.fSetIx, Den.fAugIx, Den.fAug, Den.asInt, Den.items, Den.putItems, Den.sameKind, Den.fMut, Den.φApp, Den.φIns, Den.fCall, Den.fCallM, Den.fPar, Den.fPar3, Den.fAsg, Den.gNm, Den.gTp, Den.gsCons, Den.gsNil, Den.fSl, Den.fPt, Den.φSl, Den.add_int, Den.sub_int, Den.φNeg, Den.φCmp, Den.φIs, Den.φIsNot, Den.isNone, Den.len_lst, Den.len_tup, Den.φAbs, Den.φInt, Den.φTuple, Den.φList, Den.fdmt, Den.fdnp, L2.ixN, Den.eq_str, Den.ne_str, Den.eq_int, Den.ne_int, Den.ix_lst, Den.ix_tup, Den.at_zero, Den.at_one, Den.at_two, Den.at_three, Den.lim_lit, e6, e7]) (fun z => by cases z) (fun _ => ok_nil (ok_nil ⟨rfl, by simp⟩)))
        · refine ok_cons (ok_if (v := true) (ρ1 := stT rs k big lk F s4 (.va (.int (v : Int))) (.va (pD (parOf rs v))) (.va rs[v].way) (.va (.int rs[v].ch)) (.va (.bool true))) (by unfold stT; simp [Den.Cd.denD, Den.fsStar, Den.f1, Den.fExt, Den.fRep, Den.fTr, Den.fCh, Den.opI, Den.opB, Den.opC, Den.opM, Den.bodyRun, Den.Ss.den, Den.S.den, Den.C.den, Den.C.denT, Den.Cs.denA, Den.Cs.denO, Den.Cs.denAT, Den.Cs.denOT, Den.Cs.denV, Den.Cs.denF, Den.Co.den, Den.Co.denT, Den.Ci.den, Den.Tg.den, Den.Tg.dens, Den.Tg.slots, Den.Tg.slotsL, Den.parL, Den.fSeq, Den.fRet, Den.fRetN, Den.fNop, Den.fBk, Den.fCt, Den.fSet, Den.fO, Den.fDrop, Den.SlOf, Den.notBg, Den.fIfS, Den.fIf, Den.fT, Den.truth, Den.fAnd, Den.fOr, Den.fNot, Den.fAndV, Den.fOrV, Den.fNotV, Den.isB, Den.fV, Den.fF, Den.frz, Den.half, Den.vw, Den.vws, Den.f1, Den.f2, Den.fL, Den.fM, Den.fVar, Den.fC, Den.fTup, Den.fLst, Den.fsCons, Den.fsNil, Den.fSetIx, Den.fAugIx, Den.fAug, Den.asInt, Den.items, Den.putItems, Den.sameKind, Den.fMut, Den.φApp, Den.φIns, Den.fCall, Den.fCallM, Den.fPar, Den.fPar3, Den.fAsg, Den.gNm, Den.gTp, Den.gsCons, Den.gsNil, Den.fSl, Den.fPt, Den.φSl, Den.add_int, Den.sub_int, Den.φNeg, Den.φCmp, Den.φIs, Den.φIsNot, Den.isNone, Den.len_lst, Den.len_tup, Den.φAbs, Den.φInt, Den.φTuple, Den.φList, Den.fdmt, Den.fdnp, L2.ixN, Den.eq_str, Den.ne_str, Den.eq_int, Den.ne_int, Den.ix_lst, Den.ix_tup, Den.at_zero, Den.at_one, Den.at_two, Den.at_three, Den.lim_lit, e6, e7]) (fun _ => ?_) (fun z => by cases z))
          refine ok_step (ρ1 := stT rs k big lk (F ++ [v]) s4 (.va (.int (v : Int))) (.va (pD (parOf rs v))) (.va rs[v].way) (.va (.int rs[v].ch)) (.va (.bool true))) ?_ (ok_nil (ok_nil ⟨rfl, by simp⟩))
          have c2 : nD (F ++ [v]) = nD F ++ [.int (v : Int)] := nD_app
          unfold stT
          rw [c2]
          simp [Den.Cd.denD, Den.fsStar, Den.f1, Den.fExt, Den.fRep, Den.fTr, Den.fCh, Den.opI, Den.opB, Den.opC, Den.opM, Den.bodyRun, Den.Ss.den, Den.S.den, Den.C.den, Den.C.denT, Den.Cs.denA, Den.Cs.denO, Den.Cs.denAT, Den.Cs.denOT, Den.Cs.denV, Den.Cs.denF, Den.Co.den, Den.Co.denT, Den.Ci.den, Den.Tg.den, Den.Tg.dens, Den.Tg.slots, Den.Tg.slotsL, Den.parL, Den.fSeq, Den.fRet, Den.fRetN, Den.fNop, Den.fBk, Den.fCt, Den.fSet, Den.fO, Den.fDrop, Den.SlOf, Den.notBg, Den.fIfS, Den.fIf, Den.fT, Den.truth, Den.fAnd, Den.fOr, Den.fNot, Den.fAndV, Den.fOrV, Den.fNotV, Den.isB, Den.fV, Den.fF, Den.frz, Den.half, Den.vw, Den.vws, Den.f1, Den.f2, Den.fL, Den.fM, Den.fVar, Den.fC, Den.fTup, Den.fLst, Den.fsCons, Den.fsNil, Den.fSetIx, Den.fAugIx, Den.fAug, Den.asInt, Den.items, Den.putItems, Den.sameKind, Den.fMut, Den.φApp, Den.φIns, Den.fCall, Den.fCallM, Den.fPar, Den.fPar3, Den.fAsg, Den.gNm, Den.gTp, Den.gsCons, Den.gsNil, Den.fSl, Den.fPt, Den.φSl, Den.add_int, Den.sub_int, Den.φNeg, Den.φCmp, Den.φIs, Den.φIsNot, Den.isNone, Den.len_lst, Den.len_tup, Den.φAbs, Den.φInt, Den.φTuple, Den.φList, Den.fdmt, Den.fdnp, L2.ixN, Den.eq_str, Den.ne_str, Den.eq_int, Den.ne_int, Den.ix_lst, Den.ix_tup, Den.at_zero, Den.at_one, Den.at_two, Den.at_three, Den.lim_lit, c1]
    · refine ok_cons (ok_if (v := false) (ρ1 := stT rs k big lk F s4 (.va (.int (v : Int))) (.va (pD (parOf rs v))) (.va rs[v].way) (.va (.int rs[v].ch)) (.va (.bool (frL rs big lk F v)))) (by unfold stT; simp [Den.Cd.denD, Den.fsStar, Den.f1, Den.fExt, Den.fRep, Den.fTr, Den.fCh, Den.opI, Den.opB, Den.opC, Den.opM, Den.bodyRun, Den.Ss.den, Den.S.den, Den.C.den, Den.C.denT, Den.Cs.denA, Den.Cs.denO, Den.Cs.denAT, Den.Cs.denOT, Den.Cs.denV, Den.Cs.denF, Den.Co.den, Den.Co.denT, Den.Ci.den, Den.Tg.den, Den.Tg.dens, Den.Tg.slots, Den.Tg.slotsL, Den.parL, Den.fSeq, Den.fRet, Den.fRetN, Den.fNop, Den.fBk, Den.fCt, Den.fSet, Den.fO, Den.fDrop, Den.SlOf, Den.notBg, Den.fIfS, Den.fIf, Den.fT, Den.truth, Den.fAnd, Den.fOr, Den.fNot, Den.fAndV, Den.fOrV, Den.fNotV, Den.isB, Den.fV, Den.fF, Den.frz, Den.half, Den.vw, Den.vws, Den.f1, Den.f2, Den.fL, Den.fM, Den.fVar, Den.fC, Den.fTup, Den.fLst, Den.fsCons, Den.fsNil, Den.fSetIx, Den.fAugIx, Den.fAug, Den.asInt, Den.items, Den.putItems, Den.sameKind, Den.fMut, Den.φApp, Den.φIns, Den.fCall, Den.fCallM, Den.fPar, Den.fPar3, Den.fAsg, Den.gNm, Den.gTp, Den.gsCons, Den.gsNil, Den.fSl, Den.fPt, Den.φSl, Den.add_int, Den.sub_int, Den.φNeg, Den.φCmp, Den.φIs, Den.φIsNot, Den.isNone, Den.len_lst, Den.len_tup, Den.φAbs, Den.φInt, Den.φTuple, Den.φList, Den.fdmt, Den.fdnp, L2.ixN, Den.eq_str, Den.ne_str, Den.eq_int, Den.ne_int, Den.ix_lst, Den.ix_tup, Den.at_zero, Den.at_one, Den.at_two, Den.at_three, Den.lim_lit, e6]) (fun z => by cases z) (fun _ => ok_nil (ok_nil ⟨rfl, by simp⟩)))
theorem gd_len {big : Option Nat} {lk F : List Nat} (g : Gd rs big lk F) : F.length ≤ rs.length := by
  rw [nodup_len g.nd g.lt]
  exact lot_len
theorem gd_step {big : Option Nat} {lk F : List Nat} {v : Nat} (g : Gd rs big lk F) (hv : v < rs.length) (hc : (!decide (v ∈ F) && (oin (parOf rs v) F && frL rs big lk F v)) = true) : Gd rs big lk (F ++ [v]) := by
  simp only [Bool.and_eq_true, Bool.not_eq_true', decide_eq_false_iff_not] at hc
  obtain ⟨h1, h2, h3⟩ := hc
  refine ⟨?_, fun u hu => ?_, List.mem_append_left _ g.z, fun t ht u hu => ?_⟩
  · exact List.nodup_append.mpr ⟨g.nd, by simp, fun a ha b hb e => by
      rw [List.mem_singleton.mp hb] at e
      exact h1 (e ▸ ha)⟩
  · rcases List.mem_append.mp hu with z | z
    · exact g.lt u z
    · rw [List.mem_singleton.mp z]
      exact hv
  · rcases List.mem_append.mp hu with z | z
    · exact g.inn t ht u z
    · rw [List.mem_singleton.mp z]
      cases e : parOf rs v with
      | none =>
        rw [e] at h2
        cases h2
      | some p =>
        rw [e] at h2
        exact ht.2 v p hv e (g.inn t ht p (of_decide_eq_true h2)) (fr_in (g.inn t ht) h3)
theorem lct1_ok (h : Dun rs) {big : Option Nat} {lk F : List Nat} {s4 s5 s6 s7 s8 s9 : Sl} (g : Gd rs big lk F) (p5 : Nb s5) (p6 : Nb s6) (p7 : Nb s7) (p8 : Nb s8) (p9 : Nb s9) :
    Ok (b_lcome_to_1.den g_lcome_to (stT rs k big lk F s4 s5 s6 s7 s8 s9))
      fun o ρ => o = .nx ∧ ∃ F' t5 t6 t7 t8 t9, Gd rs big lk F' ∧ (F.length < F'.length ∨ (F' = F ∧ Cls rs big lk F)) ∧ Nb t5 ∧ Nb t6 ∧ Nb t7 ∧ Nb t8 ∧ Nb t9 ∧ ρ = stT rs k big lk F' s4 t5 t6 t7 t8 t9 := by
  unfold b_lcome_to_1
  have hl1 := h.len1
  refine ok_cons (for_at (f := enI rs) (l := List.range rs.length) (ρ1 := stT rs k big lk F s4 s5 s6 s7 s8 s9)
    (fun i ρ => ∃ F' t5 t6 t7 t8 t9, Gd rs big lk F' ∧ (F.length < F'.length ∨ (F' = F ∧ ∀ v p, v < i → parOf rs v = some p → p ∈ F → frL rs big lk F v = true → v ∈ F)) ∧ Nb t5 ∧ Nb t6 ∧ Nb t7 ∧ Nb t8 ∧ Nb t9 ∧ ρ = stT rs k big lk F' s4 t5 t6 t7 t8 t9)
    (by rw [← enum_rooms]; unfold stT; simp [Den.Cd.denD, Den.fsStar, Den.f1, Den.fExt, Den.fRep, Den.fTr, Den.fCh, Den.opI, Den.opB, Den.opC, Den.opM, Den.bodyRun, Den.Ss.den, Den.S.den, Den.C.den, Den.C.denT, Den.Cs.denA, Den.Cs.denO, Den.Cs.denAT, Den.Cs.denOT, Den.Cs.denV, Den.Cs.denF, Den.Co.den, Den.Co.denT, Den.Ci.den, Den.Tg.den, Den.Tg.dens, Den.Tg.slots, Den.Tg.slotsL, Den.parL, Den.fSeq, Den.fRet, Den.fRetN, Den.fNop, Den.fBk, Den.fCt, Den.fSet, Den.fO, Den.fDrop, Den.SlOf, Den.notBg, Den.fIfS, Den.fIf, Den.fT, Den.truth, Den.fAnd, Den.fOr, Den.fNot, Den.fAndV, Den.fOrV, Den.fNotV, Den.isB, Den.fV, Den.fF, Den.frz, Den.half, Den.vw, Den.vws, Den.f1, Den.f2, Den.fL, Den.fM, Den.fVar, Den.fC, Den.fTup, Den.fLst, Den.fsCons, Den.fsNil, Den.fSetIx, Den.fAugIx, Den.fAug, Den.asInt, Den.items, Den.putItems, Den.sameKind, Den.fMut, Den.φApp, Den.φIns, Den.fCall, Den.fCallM, Den.fPar, Den.fPar3, Den.fAsg, Den.gNm, Den.gTp, Den.gsCons, Den.gsNil, Den.fSl, Den.fPt, Den.φSl, Den.add_int, Den.sub_int, Den.φNeg, Den.φCmp, Den.φIs, Den.φIsNot, Den.isNone, Den.len_lst, Den.len_tup, Den.φAbs, Den.φInt, Den.φTuple, Den.φList, Den.fdmt, Den.fdnp, L2.ixN, Den.eq_str, Den.ne_str, Den.eq_int, Den.ne_int, Den.ix_lst, Den.ix_tup, Den.at_zero, Den.at_one, Den.at_two, Den.at_three, Den.lim_lit, fEn, fIt, its, dunD]) ⟨F, _, _, _, _, _, g, .inr ⟨rfl, fun v p z => by omega⟩, p5, p6, p7, p8, p9, rfl⟩ ?_ ?_)
  · rintro i hi ρ ⟨F', t5, t6, t7, t8, t9, g', hF, p5, p6, p7, p8, p9, rfl⟩
    have hv : i < rs.length := by simpa using hi
    rw [List.getElem_range, enI_at hv]
    refine ⟨stT rs k big lk F' s4 (.va (.int (i : Int))) (.va (pD (parOf rs i))) (.va rs[i].way) (.va (.int rs[i].ch)) t9, ?_, ok_mono (lct0_ok h hv p9 (by have := gd_len g'; omega)) ?_⟩
    · rw [← par_eq hv]
      unfold stT roomD
      cases t5 <;> first | cases p5; done | skip
      all_goals cases t6 <;> first | cases p6; done | skip
      all_goals cases t7 <;> first | cases p7; done | skip
      all_goals cases t8 <;> first | cases p8; done | rfl
    · rintro o ρ ⟨rfl, rfl⟩
      refine ⟨_, _, _, _, _, _, ?_, ?_, nb_va, nb_va, nb_va, nb_va, nb_va, rfl⟩
      · by_cases hc : (!decide (i ∈ F') && (oin (parOf rs i) F' && frL rs big lk F' i)) = true
        · rw [if_pos hc]
          exact gd_step g' hv hc
        · rw [if_neg hc]
          exact g'
      · by_cases hc : (!decide (i ∈ F') && (oin (parOf rs i) F' && frL rs big lk F' i)) = true
        · rw [if_pos hc]
          refine .inl ?_
          rw [List.length_append]
          rcases hF with z | ⟨z, _⟩
          · simp
            omega
          · rw [z]
            simp
        · rw [if_neg hc]
          rcases hF with z | ⟨rfl, z⟩
          · exact .inl z
          · refine .inr ⟨rfl, fun v p hv2 e hp hf => ?_⟩
            by_cases hvi : v = i
            · subst hvi
              by_cases hm : v ∈ F'
              · exact hm
              · exfalso
                apply hc
                rw [decide_eq_false hm, hf, e]
                simp [oin, hp]
            · exact z v p (by omega) e hp hf
  · rintro ρ ⟨F', t5, t6, t7, t8, t9, g', hF, p5, p6, p7, p8, p9, rfl⟩
    rw [List.length_range] at hF
    exact ok_nil ⟨rfl, F', t5, t6, t7, t8, t9, g', hF, p5, p6, p7, p8, p9, rfl⟩
theorem cls_len {big : Option Nat} {lk F F' : List Nat} (g : Gd rs big lk F) (g' : Gd rs big lk F') (hc : Cls rs big lk F) : F'.length ≤ F.length := by
  have hsub := g'.inn _ (cls_cl g.z hc)
  rw [nodup_len g.nd g.lt, nodup_len g'.nd g'.lt]
  exact (cnt_mono fun u hu z => hsub u (of_decide_eq_true z)).1
theorem lcome_ok (h : Dun rs) {big : Option Nat} {lk : List Nat} : ∃ s, d_lcome_to.run [] [dunD rs k, pD big, tN lk] = some (.va (tN (lot rs.length s)), []) ∧ Lst rs big lk s := by
  suffices q : Ans (d_lcome_to.run [] [dunD rs k, pD big, tN lk]) fun r β => ∃ s, r = .va (tN (lot rs.length s)) ∧ β = [] ∧ Lst rs big lk s by
    obtain ⟨r, β, e, s, rfl, rfl, hs⟩ := q
    exact ⟨s, e, hs⟩
  have hl1 := h.len1
  have hl0 := h.len0
  rw [r_lcome_to]
  refine run_f ?_
  refine ok_step (ρ1 := stT rs k big lk [0] .no .no .no .no .no .no) (by unfold stT; simp [Den.Cd.denD, Den.fsStar, Den.f1, Den.fExt, Den.fRep, Den.fTr, Den.fCh, Den.opI, Den.opB, Den.opC, Den.opM, Den.bodyRun, Den.Ss.den, Den.S.den, Den.C.den, Den.C.denT, Den.Cs.denA, Den.Cs.denO, Den.Cs.denAT, Den.Cs.denOT, Den.Cs.denV, Den.Cs.denF, Den.Co.den, Den.Co.denT, Den.Ci.den, Den.Tg.den, Den.Tg.dens, Den.Tg.slots, Den.Tg.slotsL, Den.parL, Den.fSeq, Den.fRet, Den.fRetN, Den.fNop, Den.fBk, Den.fCt, Den.fSet, Den.fO, Den.fDrop, Den.SlOf, Den.notBg, Den.fIfS, Den.fIf, Den.fT, Den.truth, Den.fAnd, Den.fOr, Den.fNot, Den.fAndV, Den.fOrV, Den.fNotV, Den.isB, Den.fV, Den.fF, Den.frz, Den.half, Den.vw, Den.vws, Den.f1, Den.f2, Den.fL, Den.fM, Den.fVar, Den.fC, Den.fTup, Den.fLst, Den.fsCons, Den.fsNil, Den.fSetIx, Den.fAugIx, Den.fAug, Den.asInt, Den.items, Den.putItems, Den.sameKind, Den.fMut, Den.φApp, Den.φIns, Den.fCall, Den.fCallM, Den.fPar, Den.fPar3, Den.fAsg, Den.gNm, Den.gTp, Den.gsCons, Den.gsNil, Den.fSl, Den.fPt, Den.φSl, Den.add_int, Den.sub_int, Den.φNeg, Den.φCmp, Den.φIs, Den.φIsNot, Den.isNone, Den.len_lst, Den.len_tup, Den.φAbs, Den.φInt, Den.φTuple, Den.φList, Den.fdmt, Den.fdnp, L2.ixN, Den.eq_str, Den.ne_str, Den.eq_int, Den.ne_int, Den.ix_lst, Den.ix_tup, Den.at_zero, Den.at_one, Den.at_two, Den.at_three, Den.lim_lit, nD, nI]) ?_
  refine ok_cons (for_at (f := nI) (l := List.range rs.length) (ρ1 := stT rs k big lk [0] .no .no .no .no .no .no)
    (fun i ρ => ∃ F t4 t5 t6 t7 t8 t9, Gd rs big lk F ∧ (Cls rs big lk F ∨ i + 1 ≤ F.length) ∧ Nb t4 ∧ Nb t5 ∧ Nb t6 ∧ Nb t7 ∧ Nb t8 ∧ Nb t9 ∧ ρ = stT rs k big lk F t4 t5 t6 t7 t8 t9)
    ?_ ⟨[0], _, _, _, _, _, _, ⟨by simp, fun u hu => by rw [List.mem_singleton.mp hu]; exact hl0, by simp, fun t ht u hu => by rw [List.mem_singleton.mp hu]; exact ht.1⟩, .inr (by simp), nb_no, nb_no, nb_no, nb_no, nb_no, nb_no, rfl⟩ ?_ ?_)
  · rw [it_rng1 (x := rs.length) (ρ1 := stT rs k big lk [0] .no .no .no .no .no .no) (by unfold stT; simp [Den.Cd.denD, Den.fsStar, Den.f1, Den.fExt, Den.fRep, Den.fTr, Den.fCh, Den.opI, Den.opB, Den.opC, Den.opM, Den.bodyRun, Den.Ss.den, Den.S.den, Den.C.den, Den.C.denT, Den.Cs.denA, Den.Cs.denO, Den.Cs.denAT, Den.Cs.denOT, Den.Cs.denV, Den.Cs.denF, Den.Co.den, Den.Co.denT, Den.Ci.den, Den.Tg.den, Den.Tg.dens, Den.Tg.slots, Den.Tg.slotsL, Den.parL, Den.fSeq, Den.fRet, Den.fRetN, Den.fNop, Den.fBk, Den.fCt, Den.fSet, Den.fO, Den.fDrop, Den.SlOf, Den.notBg, Den.fIfS, Den.fIf, Den.fT, Den.truth, Den.fAnd, Den.fOr, Den.fNot, Den.fAndV, Den.fOrV, Den.fNotV, Den.isB, Den.fV, Den.fF, Den.frz, Den.half, Den.vw, Den.vws, Den.f1, Den.f2, Den.fL, Den.fM, Den.fVar, Den.fC, Den.fTup, Den.fLst, Den.fsCons, Den.fsNil, Den.fSetIx, Den.fAugIx, Den.fAug, Den.asInt, Den.items, Den.putItems, Den.sameKind, Den.fMut, Den.φApp, Den.φIns, Den.fCall, Den.fCallM, Den.fPar, Den.fPar3, Den.fAsg, Den.gNm, Den.gTp, Den.gsCons, Den.gsNil, Den.fSl, Den.fPt, Den.φSl, Den.add_int, Den.sub_int, Den.φNeg, Den.φCmp, Den.φIs, Den.φIsNot, Den.isNone, Den.len_lst, Den.len_tup, Den.φAbs, Den.φInt, Den.φTuple, Den.φList, Den.fdmt, Den.fdnp, L2.ixN, Den.eq_str, Den.ne_str, Den.eq_int, Den.ne_int, Den.ix_lst, Den.ix_tup, Den.at_zero, Den.at_one, Den.at_two, Den.at_three, Den.lim_lit, dunD]) (rng_ok hl1), rng_nat]
    rfl
  · rintro i hi ρ ⟨F, t4, t5, t6, t7, t8, t9, g, hF, p4, p5, p6, p7, p8, p9, rfl⟩
    refine ⟨stT rs k big lk F (.va (nI (List.range rs.length)[i])) t5 t6 t7 t8 t9, nm_ok p4 rfl rfl, ok_mono (lct1_ok h g p5 p6 p7 p8 p9) ?_⟩
    rintro o ρ ⟨rfl, F', u5, u6, u7, u8, u9, g', hF', q5, q6, q7, q8, q9, rfl⟩
    refine ⟨F', _, u5, u6, u7, u8, u9, g', ?_, nb_va, q5, q6, q7, q8, q9, rfl⟩
    rcases hF' with z | ⟨rfl, z⟩
    · rcases hF with y | y
      · have := cls_len g g' y
        omega
      · exact .inr (by omega)
    · exact .inl z
  · rintro ρ ⟨F, t4, t5, t6, t7, t8, t9, g, hF, p4, p5, p6, p7, p8, p9, rfl⟩
    rw [List.length_range] at hF
    have hgl := gd_len g
    have hcl : Cls rs big lk F := hF.resolve_right (by omega)
    have hs := sorted_nats (ns := F) (by show _ ≤ 1000000; omega)
    rw [sortD_lot g.nd g.lt] at hs
    refine ok_last (r := .va (tN (lot rs.length fun u => decide (u ∈ F)))) (ρ1 := stT rs k big lk F t4 t5 t6 t7 t8 t9) ?_ ⟨_, rfl, rfl, cls_cl g.z hcl, fun t ht v hv z => g.inn t ht v (of_decide_eq_true z)⟩
    unfold stT tN
    generalize nD (lot rs.length fun u => decide (u ∈ F)) = X at hs ⊢
    simp [Den.Cd.denD, Den.fsStar, Den.f1, Den.fExt, Den.fRep, Den.fTr, Den.fCh, Den.opI, Den.opB, Den.opC, Den.opM, Den.bodyRun, Den.Ss.den, Den.S.den, Den.C.den, Den.C.denT, Den.Cs.denA, Den.Cs.denO, Den.Cs.denAT, Den.Cs.denOT, Den.Cs.denV, Den.Cs.denF, Den.Co.den, Den.Co.denT, Den.Ci.den, Den.Tg.den, Den.Tg.dens, Den.Tg.slots, Den.Tg.slotsL, Den.parL, Den.fSeq, Den.fRet, Den.fRetN, Den.fNop, Den.fBk, Den.fCt, Den.fSet, Den.fO, Den.fDrop, Den.SlOf, Den.notBg, Den.fIfS, Den.fIf, Den.fT, Den.truth, Den.fAnd, Den.fOr, Den.fNot, Den.fAndV, Den.fOrV, Den.fNotV, Den.isB, Den.fV, Den.fF, Den.frz, Den.half, Den.vw, Den.vws, Den.f1, Den.f2, Den.fL, Den.fM, Den.fVar, Den.fC, Den.fTup, Den.fLst, Den.fsCons, Den.fsNil, Den.fSetIx, Den.fAugIx, Den.fAug, Den.asInt, Den.items, Den.putItems, Den.sameKind, Den.fMut, Den.φApp, Den.φIns, Den.fCall, Den.fCallM, Den.fPar, Den.fPar3, Den.fAsg, Den.gNm, Den.gTp, Den.gsCons, Den.gsNil, Den.fSl, Den.fPt, Den.φSl, Den.add_int, Den.sub_int, Den.φNeg, Den.φCmp, Den.φIs, Den.φIsNot, Den.isNone, Den.len_lst, Den.len_tup, Den.φAbs, Den.φInt, Den.φTuple, Den.φList, Den.fdmt, Den.fdnp, L2.ixN, Den.eq_str, Den.ne_str, Den.eq_int, Den.ne_int, Den.ix_lst, Den.ix_tup, Den.at_zero, Den.at_one, Den.at_two, Den.at_three, Den.lim_lit, hs]
end W

set_option autoImplicit false
/-! drawn lots ascend; comprehensions that freeze what they look at -/
namespace W
open PySem PySem.Spec L2 Den
variable {rs : List Rm} {k : Int}
theorem lot_ok2 {β : List D} {n : Nat} (hb : Bag β) (hn : n ≤ 1000) : Ans (d_lany_lot.run β [.int (n : Int)]) fun r β' => ∃ us : List Nat, r = .va (tN us) ∧ us.Pairwise (· < ·) ∧ (∀ u ∈ us, u < n) ∧ Bag β' := by
  rw [r_lany_lot]
  refine run_t ?_
  obtain ⟨w, β1, w0, w1, hb1, e⟩ := take_ok (m := 3) hb (by omega) (by omega)
  refine ok_step (ρ1 := [.bg β1, .va (.int (n : Int)), .va (.int w), .no]) (by simp [Den.Cd.denD, Den.fsStar, Den.f1, Den.fExt, Den.fRep, Den.fTr, Den.fCh, Den.opI, Den.opB, Den.opC, Den.opM, Den.bodyRun, Den.Ss.den, Den.S.den, Den.C.den, Den.C.denT, Den.Cs.denA, Den.Cs.denO, Den.Cs.denAT, Den.Cs.denOT, Den.Cs.denV, Den.Cs.denF, Den.Co.den, Den.Co.denT, Den.Ci.den, Den.Tg.den, Den.Tg.dens, Den.Tg.slots, Den.Tg.slotsL, Den.parL, Den.fSeq, Den.fRet, Den.fRetN, Den.fNop, Den.fBk, Den.fCt, Den.fSet, Den.fO, Den.fDrop, Den.SlOf, Den.notBg, Den.fIfS, Den.fIf, Den.fT, Den.truth, Den.fAnd, Den.fOr, Den.fNot, Den.fAndV, Den.fOrV, Den.fNotV, Den.isB, Den.fV, Den.fF, Den.frz, Den.half, Den.vw, Den.vws, Den.f1, Den.f2, Den.fL, Den.fM, Den.fVar, Den.fC, Den.fTup, Den.fLst, Den.fsCons, Den.fsNil, Den.fSetIx, Den.fAugIx, Den.fAug, Den.asInt, Den.items, Den.putItems, Den.sameKind, Den.fMut, Den.φApp, Den.φIns, Den.fCall, Den.fCallM, Den.fPar, Den.fPar3, Den.fAsg, Den.gNm, Den.gTp, Den.gsCons, Den.gsNil, Den.fSl, Den.fPt, Den.φSl, Den.add_int, Den.sub_int, Den.φNeg, Den.φCmp, Den.φIs, Den.φIsNot, Den.isNone, Den.len_lst, Den.len_tup, Den.φAbs, Den.φInt, Den.φTuple, Den.φList, Den.fdmt, Den.fdnp, L2.ixN, Den.eq_str, Den.ne_str, Den.eq_int, Den.ne_int, Den.ix_lst, Den.ix_tup, Den.at_zero, Den.at_one, Den.at_two, Den.at_three, Den.lim_lit, g_lany_lot, mt_ltake, np_ltake, e]) ?_
  have hr : (-1000000 : Int) ≤ (n : Int) ∧ (n : Int) ≤ 1000000 := by omega
  obtain ⟨out, ρ2, e2, β2, us, a, e3, ha, ed, e5, e6, e7, e8⟩ := lc_inv (vs := [3]) (t := Tg.den (.nm 3)) (test := Co.denT g_lany_lot (.so (.cmp .eq (.callM 0 0 (.cons (.bin .add (.int 2) (.var 2)) .nil)) (.int 0)))) (elt := fF (C.den g_lany_lot (.var 3)))
    (fun ds acc ρ => ∃ β us a, ρ = [.bg β, .va (.int (n : Int)), .va (.int w), .no] ∧ a ≤ n ∧ ds = nD (List.range' a (n - a)) ∧ acc = nD us ∧ us.Pairwise (· < ·) ∧ (∀ u ∈ us, u < a) ∧ Bag β) (by
      rintro d ds acc ρ ⟨β, us, a, rfl, ha, hd, rfl, hp, hu, hb⟩
      obtain ⟨m, hm⟩ : ∃ m, n - a = m + 1 := by
        cases z : n - a with
        | zero => rw [z] at hd; cases hd
        | succ m => exact ⟨m, rfl⟩
      rw [hm, List.range'_succ] at hd
      have hd1 : d = .int (a : Int) := (List.cons.inj hd).1
      have hd2 : ds = nD (List.range' (a + 1) m) := (List.cons.inj hd).2
      subst hd1
      have hm2 : n - (a + 1) = m := by omega
      obtain ⟨x, β2, x0, x1, hb2, e2⟩ := take_ok (m := 2 + w) hb (by omega) (by omega)
      refine ⟨[.bg β, .va (.int (n : Int)), .va (.int w), .va (.int (a : Int))], x == 0, [.bg β2, .va (.int (n : Int)), .va (.int w), .va (.int (a : Int))], by rfl, ?_, fun _ => ⟨.int (a : Int), [.bg β2, .va (.int (n : Int)), .va (.int w), .va (.int (a : Int))], by rfl, β2, us ++ [a], a + 1, by rfl, by omega, by rw [hd2, hm2], by rw [nD_app, nD_one], ?_, ?_, hb2⟩,
        fun _ => ⟨β2, us, a + 1, by rfl, by omega, by rw [hd2, hm2], rfl, hp, fun u z => Nat.lt_succ_of_lt (hu u z), hb2⟩⟩
      · simp [Den.Cd.denD, Den.fsStar, Den.f1, Den.fExt, Den.fRep, Den.fTr, Den.fCh, Den.opI, Den.opB, Den.opC, Den.opM, Den.bodyRun, Den.Ss.den, Den.S.den, Den.C.den, Den.C.denT, Den.Cs.denA, Den.Cs.denO, Den.Cs.denAT, Den.Cs.denOT, Den.Cs.denV, Den.Cs.denF, Den.Co.den, Den.Co.denT, Den.Ci.den, Den.Tg.den, Den.Tg.dens, Den.Tg.slots, Den.Tg.slotsL, Den.parL, Den.fSeq, Den.fRet, Den.fRetN, Den.fNop, Den.fBk, Den.fCt, Den.fSet, Den.fO, Den.fDrop, Den.SlOf, Den.notBg, Den.fIfS, Den.fIf, Den.fT, Den.truth, Den.fAnd, Den.fOr, Den.fNot, Den.fAndV, Den.fOrV, Den.fNotV, Den.isB, Den.fV, Den.fF, Den.frz, Den.half, Den.vw, Den.vws, Den.f1, Den.f2, Den.fL, Den.fM, Den.fVar, Den.fC, Den.fTup, Den.fLst, Den.fsCons, Den.fsNil, Den.fSetIx, Den.fAugIx, Den.fAug, Den.asInt, Den.items, Den.putItems, Den.sameKind, Den.fMut, Den.φApp, Den.φIns, Den.fCall, Den.fCallM, Den.fPar, Den.fPar3, Den.fAsg, Den.gNm, Den.gTp, Den.gsCons, Den.gsNil, Den.fSl, Den.fPt, Den.φSl, Den.add_int, Den.sub_int, Den.φNeg, Den.φCmp, Den.φIs, Den.φIsNot, Den.isNone, Den.len_lst, Den.len_tup, Den.φAbs, Den.φInt, Den.φTuple, Den.φList, Den.fdmt, Den.fdnp, L2.ixN, Den.eq_str, Den.ne_str, Den.eq_int, Den.ne_int, Den.ix_lst, Den.ix_tup, Den.at_zero, Den.at_one, Den.at_two, Den.at_three, Den.lim_lit, g_lany_lot, mt_ltake, np_ltake, e2]
      · refine List.pairwise_append.mpr ⟨hp, by simp, fun u z v y => ?_⟩
        rw [List.mem_singleton.mp y]
        exact hu u z
      · intro y hy
        rcases List.mem_append.mp hy with z | z
        · exact Nat.lt_succ_of_lt (hu y z)
        · rw [List.mem_singleton.mp z]
          exact Nat.lt_succ_self _) (ds := nD (List.range n)) (acc := []) (ρ := [.bg β1, .va (.int (n : Int)), .va (.int w), .no]) ⟨β1, [], 0, rfl, by omega, by rw [Nat.sub_zero, List.range_eq_range'], rfl, by simp, (fun _ z => by cases z), hb1⟩
  have q : (q_lany_lot_0).den g_lany_lot [.bg β1, .va (.int (n : Int)), .va (.int w), .no] = some (.ls out, [.bg β2, .va (.int (n : Int)), .va (.int w), .no]) := by
    subst e3
    unfold q_lany_lot_0
    refine Eq.trans (lc_val (ds := nD (List.range n)) (ρ1 := [.bg β1, .va (.int (n : Int)), .va (.int w), .no]) (by rw [it_rng1 (x := n) (ρ1 := [.bg β1, .va (.int (n : Int)), .va (.int w), .no]) (by simp [Den.Cd.denD, Den.fsStar, Den.f1, Den.fExt, Den.fRep, Den.fTr, Den.fCh, Den.opI, Den.opB, Den.opC, Den.opM, Den.bodyRun, Den.Ss.den, Den.S.den, Den.C.den, Den.C.denT, Den.Cs.denA, Den.Cs.denO, Den.Cs.denAT, Den.Cs.denOT, Den.Cs.denV, Den.Cs.denF, Den.Co.den, Den.Co.denT, Den.Ci.den, Den.Tg.den, Den.Tg.dens, Den.Tg.slots, Den.Tg.slotsL, Den.parL, Den.fSeq, Den.fRet, Den.fRetN, Den.fNop, Den.fBk, Den.fCt, Den.fSet, Den.fO, Den.fDrop, Den.SlOf, Den.notBg, Den.fIfS, Den.fIf, Den.fT, Den.truth, Den.fAnd, Den.fOr, Den.fNot, Den.fAndV, Den.fOrV, Den.fNotV, Den.isB, Den.fV, Den.fF, Den.frz, Den.half, Den.vw, Den.vws, Den.f1, Den.f2, Den.fL, Den.fM, Den.fVar, Den.fC, Den.fTup, Den.fLst, Den.fsCons, Den.fsNil, Den.fSetIx, Den.fAugIx, Den.fAug, Den.asInt, Den.items, Den.putItems, Den.sameKind, Den.fMut, Den.φApp, Den.φIns, Den.fCall, Den.fCallM, Den.fPar, Den.fPar3, Den.fAsg, Den.gNm, Den.gTp, Den.gsCons, Den.gsNil, Den.fSl, Den.fPt, Den.φSl, Den.add_int, Den.sub_int, Den.φNeg, Den.φCmp, Den.φIs, Den.φIsNot, Den.isNone, Den.len_lst, Den.len_tup, Den.φAbs, Den.φInt, Den.φTuple, Den.φList, Den.fdmt, Den.fdnp, L2.ixN, Den.eq_str, Den.ne_str, Den.eq_int, Den.ne_int, Den.ix_lst, Den.ix_tup, Den.at_zero, Den.at_one, Den.at_two, Den.at_three, Den.lim_lit]) hr, rng_nat]) (by rw [nD_len, List.length_range]; show _ ≤ 1000000; omega) e2) ?_
    rfl
  subst e5
  exact ok_last (r := .va (.tuple (nD us))) (ρ1 := [.bg β2, .va (.int (n : Int)), .va (.int w), .no]) (by simp [Den.Cd.denD, Den.fsStar, Den.f1, Den.fExt, Den.fRep, Den.fTr, Den.fCh, Den.opI, Den.opB, Den.opC, Den.opM, Den.bodyRun, Den.Ss.den, Den.S.den, Den.C.den, Den.C.denT, Den.Cs.denA, Den.Cs.denO, Den.Cs.denAT, Den.Cs.denOT, Den.Cs.denV, Den.Cs.denF, Den.Co.den, Den.Co.denT, Den.Ci.den, Den.Tg.den, Den.Tg.dens, Den.Tg.slots, Den.Tg.slotsL, Den.parL, Den.fSeq, Den.fRet, Den.fRetN, Den.fNop, Den.fBk, Den.fCt, Den.fSet, Den.fO, Den.fDrop, Den.SlOf, Den.notBg, Den.fIfS, Den.fIf, Den.fT, Den.truth, Den.fAnd, Den.fOr, Den.fNot, Den.fAndV, Den.fOrV, Den.fNotV, Den.isB, Den.fV, Den.fF, Den.frz, Den.half, Den.vw, Den.vws, Den.f1, Den.f2, Den.fL, Den.fM, Den.fVar, Den.fC, Den.fTup, Den.fLst, Den.fsCons, Den.fsNil, Den.fSetIx, Den.fAugIx, Den.fAug, Den.asInt, Den.items, Den.putItems, Den.sameKind, Den.fMut, Den.φApp, Den.φIns, Den.fCall, Den.fCallM, Den.fPar, Den.fPar3, Den.fAsg, Den.gNm, Den.gTp, Den.gsCons, Den.gsNil, Den.fSl, Den.fPt, Den.φSl, Den.add_int, Den.sub_int, Den.φNeg, Den.φCmp, Den.φIs, Den.φIsNot, Den.isNone, Den.len_lst, Den.len_tup, Den.φAbs, Den.φInt, Den.φTuple, Den.φList, Den.fdmt, Den.fdnp, L2.ixN, Den.eq_str, Den.ne_str, Den.eq_int, Den.ne_int, Den.ix_lst, Den.ix_tup, Den.at_zero, Den.at_one, Den.at_two, Den.at_three, Den.lim_lit, q]) ⟨β2, rfl, us, rfl, e6, fun u z => Nat.lt_of_lt_of_le (e7 u z) ha, e8⟩
section
variable {Γ : Gam} {it : Ci} {ifs : Co} {elt c : C} {t : Tg} {ρ ρ1 ρ2 : Lo} {i j : Nat} {s : Sl}
/-- a comprehension whose test may freeze own lists -/
theorem lc1s {α : Type} {f g : α → D} {b : α → Bool} {l : List α} {x : Str} (J : Lo → Prop) (hi : it.den Γ ρ = some (l.map f, ρ1)) (hl : l.length ≤ lim) (hs : ∀ ρ, J ρ → ρ[i]? = some .no) (h0 : J ρ1)
    (ht : ∀ a ∈ l, ∀ ρ, J ρ → ∃ ρ', J ρ' ∧ ifs.denT Γ (ρ.set i (.va (f a))) = some (b a, ρ'.set i (.va (f a))) ∧ (b a = true → fF (elt.den Γ) (ρ'.set i (.va (f a))) = some (g a, ρ'.set i (.va (f a))))) :
    ∃ ρ', J ρ' ∧ (C.lc [(x, i)] elt (.nm i) it ifs).den Γ ρ = some (.ls ((l.filter b).map g), ρ') := by
  have w0 : ∀ ρ : Lo, wipeL ρ (([(x, i)] : List (Str × Nat)).map (·.2)) = ρ.set i .no := fun _ => rfl
  have self : ∀ ρ, J ρ → ρ.set i .no = ρ := fun ρ h => by
    obtain ⟨hl, e⟩ := List.getElem?_eq_some_iff.mp (hs ρ h)
    rw [← e, List.set_getElem_self]
  have go : ∀ (vs : List Nat) (w : ∀ ρ : Lo, wipeL ρ vs = ρ.set i .no) (m : List α) (acc : List D) (ρ : Lo), (∀ a ∈ m, a ∈ l) → J ρ → ∃ ρ', J ρ' ∧ lcF vs (Tg.nm i).den (ifs.denT Γ) (fF (elt.den Γ)) (m.map f) acc ρ = some (acc ++ (m.filter b).map g, ρ') := by
    intro vs w m
    induction m with
    | nil => exact fun acc ρ _ h => ⟨ρ, h, by simp [lcF]⟩
    | cons a m ih =>
      intro acc ρ hm h
      obtain ⟨ρ', h', e2, e3⟩ := ht a (hm a List.mem_cons_self) ρ h
      have e1 : (Tg.nm i).den (f a) ρ = some (ρ.set i (.va (f a))) := nm_ok (s := .no) rfl (hs ρ h) rfl
      have bk : wipeL (ρ'.set i (.va (f a))) vs = ρ' := by
        rw [w, List.set_set]
        exact self ρ' h'
      rw [List.map_cons]
      unfold lcF
      rw [e1, Option.bind_some, e2, Option.bind_some]
      cases hb : b a with
      | true =>
        simp only [if_true]
        rw [e3 hb, Option.bind_some]
        simp only [bk]
        obtain ⟨ρ2, h2, e4⟩ := ih (acc ++ [g a]) ρ' (fun y hy => hm y (List.mem_cons_of_mem _ hy)) h'
        exact ⟨ρ2, h2, by rw [e4]; simp [List.filter_cons, hb]⟩
      | false =>
        simp only [Bool.false_eq_true, if_false, bk]
        obtain ⟨ρ2, h2, e4⟩ := ih acc ρ' (fun y hy => hm y (List.mem_cons_of_mem _ hy)) h'
        exact ⟨ρ2, h2, by rw [e4]; simp [List.filter_cons, hb]⟩
  obtain ⟨ρ2, h2, e⟩ := go (([(x, i)] : List (Str × Nat)).map (·.2)) w0 l [] ρ1 (fun _ z => z) h0
  refine ⟨ρ2, h2, ?_⟩
  rw [lc_val (ρ1 := ρ1) (ρ2 := ρ2) hi (by rw [List.length_map]; exact hl) (by rw [w0, self ρ1 h0, e])]
  show some (RR.ls ([] ++ (l.filter b).map g), (restL ρ1 ρ2 []).set i (ρ1[i]?.getD .no)) = _
  rw [hs ρ1 h0]
  show some (RR.ls ([] ++ (l.filter b).map g), ρ2.set i .no) = _
  rw [self ρ2 h2]
  rfl
end
end W

set_option autoImplicit false
namespace K52
open PySem PySem.Spec L2 Den W
/-! ### the text -/
abbrev topS (i : Nat) : Stmt := PySem.Challenge.pw_wellstrewn_k52_numbers_drawn_by_coins.main.body.getD i (.Pass ⟨0, 0, 0, 0⟩)
abbrev t_coins_for : Stmt := topS 1
abbrev n_coins_for : List Str := ["many"]
def c_coins_for : Ss :=
  (.cons (.ret (.bits (.bin .sub (.var 0) (.int 1)))) .nil)
def g_coins_for : Gam := ⟨[], [], []⟩
def d_coins_for : FD := fdOf g_coins_for false 1 0 c_coins_for
theorem mt_coins_for : d_coins_for.mt = false := nr rfl
theorem np_coins_for : d_coins_for.np = 1 := nr rfl
theorem r_coins_for {β ds : List D} : d_coins_for.run β ds = bodyRun false 0 (c_coins_for.den g_coins_for) β ds := by unfold d_coins_for; exact fdrun
abbrev t_number_shown : Stmt := topS 2
abbrev n_number_shown : List Str := ["coins", "number", "coin"]
def b_number_shown_0 : Ss :=
  (.cons (.set 1 (.bin .add (.bin .mul (.int 2) (.var 1)) (.ite (.var 2) (.int 1) (.int 0)))) .nil)
def c_number_shown : Ss :=
  (.cons (.set 1 (.int 0))
  (.cons (.fors (.nm 2) (.seq (.var 0))
    b_number_shown_0)
  (.cons (.ret (.var 1)) .nil)))
def g_number_shown : Gam := ⟨[], [], []⟩
def d_number_shown : FD := fdOf g_number_shown false 1 2 c_number_shown
theorem mt_number_shown : d_number_shown.mt = false := nr rfl
theorem np_number_shown : d_number_shown.np = 1 := nr rfl
theorem r_number_shown {β ds : List D} : d_number_shown.run β ds = bodyRun false 2 (c_number_shown.den g_number_shown) β ds := by unfold d_number_shown; exact fdrun
abbrev t_drawn : Stmt := topS 3
abbrev n_drawn : List Str := ["many", "coins", "k", "used", "number"]
def b_drawn_0 : Ss :=
  (.cons (.set 4 (.call 1 (.cons (.sl (.var 1) (.so (.bin .sub (.var 3) (.var 2))) (.so (.var 3))) .nil)))
  (.cons (.ife (.cmp .lt (.var 4) (.var 0))
    (.cons (.ret (.tup (.cons (.var 4) (.cons (.var 3) .nil)))) .nil)
    .nil)
  (.cons (.aug 3 false (.var 2)) .nil)))
def c_drawn : Ss :=
  (.cons (.set 2 (.call 0 (.cons (.var 0) .nil)))
  (.cons (.set 3 (.var 2))
  (.cons (.whl (.cmp .le (.var 3) (.blt .len (.cons (.var 1) .nil)))
    b_drawn_0)
  (.cons (.ret .non) .nil))))
def g_drawn : Gam := ⟨[("coins_for", d_coins_for), ("number_shown", d_number_shown)], [], ["len"]⟩
def d_drawn : FD := fdOf g_drawn false 2 3 c_drawn
theorem f_drawn_0 : g_drawn.fns[0]? = some (("coins_for" : Str), d_coins_for) := rfl
theorem f_drawn_1 : g_drawn.fns[1]? = some (("number_shown" : Str), d_number_shown) := rfl
theorem mt_drawn : d_drawn.mt = false := nr rfl
theorem np_drawn : d_drawn.np = 2 := nr rfl
theorem r_drawn {β ds : List D} : d_drawn.run β ds = bodyRun false 3 (c_drawn.den g_drawn) β ds := by unfold d_drawn; exact fdrun
abbrev t_lbag : Stmt := topS 5
abbrev n_lbag : List Str := ["script", "cell"]
abbrev t_ltake : Stmt := topS 6
abbrev n_ltake : List Str := ["bag", "many", "cell", "stirred", "value", "begin", "second"]
abbrev t_lsome : Stmt := topS 7
abbrev n_lsome : List Str := ["bag", "things"]
abbrev t_lalike : Stmt := topS 8
abbrev n_lalike : List Str := ["found", "due"]
abbrev t_lcoins : Stmt := topS 9
abbrev n_lcoins : List Str := ["bag", "many", "turn"]
def q_lcoins_0 : C := .lc [("turn", 2)] (.cmp .eq (.callM 0 0 (.cons (.int 2) .nil)) (.int 1)) (.nm 2) (.rng1 (.var 1)) .no
def c_lcoins : Ss :=
  (.cons (.ret (.blt .tuple (.cons q_lcoins_0 .nil))) .nil)
def g_lcoins : Gam := ⟨[("_law_take", d_ltake)], [], ["tuple", "range"]⟩
def d_lcoins : FD := fdOf g_lcoins true 2 1 c_lcoins
theorem f_lcoins_0 : g_lcoins.fns[0]? = some (("_law_take" : Str), d_ltake) := rfl
theorem mt_lcoins : d_lcoins.mt = true := nr rfl
theorem np_lcoins : d_lcoins.np = 2 := nr rfl
theorem r_lcoins {β ds : List D} : d_lcoins.run β ds = bodyRun true 1 (c_lcoins.den g_lcoins) β ds := by unfold d_lcoins; exact fdrun
abbrev t_ldrawn : Stmt := topS 10
abbrev n_ldrawn : List Str := ["many", "coins", "digits", "power", "rows", "at", "row", "number", "coin"]
def q_ldrawn_0 : C := .lc [("at", 5)] (.sl (.var 1) (.so (.var 5)) (.so (.bin .add (.var 5) (.var 2)))) (.nm 5) (.rngD (.int 0) (.blt .len (.cons (.var 1) .nil)) (.var 2)) .no
def b_ldrawn_0 : Ss :=
  (.cons (.asg (.tp [(.nm 2), (.nm 3)]) (.tup (.cons (.bin .add (.var 2) (.int 1)) (.cons (.bin .mul (.var 3) (.int 2)) .nil)))) .nil)
def b_ldrawn_1 : Ss :=
  (.cons (.set 7 (.bin .add (.bin .mul (.var 7) (.int 2)) (.blt .int (.cons (.var 8) .nil)))) .nil)
def b_ldrawn_2 : Ss :=
  (.cons (.set 7 (.int 0))
  (.cons (.fors (.nm 8) (.seq (.var 6))
    b_ldrawn_1)
  (.cons (.ife (.and (.cons (.cmp .eq (.blt .len (.cons (.var 6) .nil)) (.var 2)) (.cons (.cmp .lt (.var 7) (.var 0)) .nil)))
    (.cons (.ret (.tup (.cons (.var 7) (.cons (.bin .mul (.bin .add (.var 5) (.int 1)) (.var 2)) .nil)))) .nil)
    .nil) .nil)))
def c_ldrawn : Ss :=
  (.cons (.asg (.tp [(.nm 2), (.nm 3)]) (.tup (.cons (.int 0) (.cons (.int 1) .nil))))
  (.cons (.whl (.cmp .lt (.var 3) (.var 0))
    b_ldrawn_0)
  (.cons (.set 4 (.ite (.cmp .gt (.var 2) (.int 0)) q_ldrawn_0 (.lst (.cons (.tup .nil) .nil))))
  (.cons (.fors (.tp [(.nm 5), (.nm 6)]) (.enum (.var 4))
    b_ldrawn_2)
  (.cons (.ret .non) .nil)))))
def g_ldrawn : Gam := ⟨[], [], ["range", "len", "enumerate", "int"]⟩
def d_ldrawn : FD := fdOf g_ldrawn false 2 7 c_ldrawn
theorem mt_ldrawn : d_ldrawn.mt = false := nr rfl
theorem np_ldrawn : d_ldrawn.np = 2 := nr rfl
theorem r_ldrawn {β ds : List D} : d_ldrawn.run β ds = bodyRun false 7 (c_ldrawn.den g_ldrawn) β ds := by unfold d_ldrawn; exact fdrun
abbrev t_law : Stmt := topS 11
abbrev n_law : List Str := ["script", "bag", "turn", "power", "again", "many", "coins", "due", "more"]
def b_law_0 : Ss :=
  (.cons (.set 3 (.bin .mul (.var 3) (.int 2))) .nil)
def b_law_1 : Ss :=
  (.cons (.set 3 (.int 1))
  (.cons (.fors (.nm 4) (.rng1 (.callM 1 1 (.cons (.int 13) .nil)))
    b_law_0)
  (.cons (.set 5 (.blt .max (.cons (.int 1) (.cons (.callM 2 1 (.cons (.lst (.cons (.bin .add (.int 1) (.callM 1 1 (.cons (.int 40) .nil))) (.cons (.var 3) (.cons (.bin .add (.var 3) (.int 1)) (.cons (.bin .sub (.var 3) (.int 1)) (.cons (.bin .add (.int 1) (.callM 1 1 (.cons (.bin .pow (.int 10) (.int 18)) .nil))) (.cons (.int 3) .nil))))))) .nil)) .nil))))
  (.cons (.set 6 (.callM 3 1 (.cons (.callM 2 1 (.cons (.lst (.cons (.int 0) (.cons (.int 3) (.cons (.int 12) (.cons (.int 60) .nil))))) .nil)) .nil)))
  (.cons (.set 7 (.call 4 (.cons (.var 5) (.cons (.var 6) .nil))))
  (.cons (.ife (.not (.call 5 (.cons (.call 6 (.cons (.var 5) (.cons (.var 6) .nil))) (.cons (.var 7) .nil))))
    (.cons (.ret (.bool false)) .nil)
    .nil)
  (.cons (.ife (.cmp .isnot (.var 7) .non)
    (.cons (.set 8 (.bin .add (.sl (.var 6) .no (.so (.ix (.var 7) (.int 1)))) (.callM 3 1 (.cons (.int 3) .nil))))
    (.cons (.ife (.not (.call 5 (.cons (.lst (.cons (.call 6 (.cons (.var 5) (.cons (.sl (.var 6) .no (.so (.ix (.var 7) (.int 1)))) .nil))) (.cons (.call 6 (.cons (.var 5) (.cons (.var 8) .nil))) .nil))) (.cons (.lst (.cons (.var 7) (.cons (.var 7) .nil))) .nil))))
      (.cons (.ret (.bool false)) .nil)
      .nil)
    (.cons (.ife (.and (.cons (.cmp .gt (.ix (.var 7) (.int 1)) (.int 0)) (.cons (.cmp .isnot (.call 6 (.cons (.var 5) (.cons (.sl (.var 6) .no (.so (.bin .sub (.ix (.var 7) (.int 1)) (.int 1)))) .nil))) .non) .nil)))
      (.cons (.ret (.bool false)) .nil)
      .nil) .nil)))
    .nil) .nil)))))))
def c_law : Ss :=
  (.cons (.set 1 (.call 0 (.cons (.var 0) .nil)))
  (.cons (.fors (.nm 2) (.rng1 (.int 8))
    b_law_1)
  (.cons (.ret (.bool true)) .nil)))
def g_law : Gam := ⟨[("_law_bag", d_lbag), ("_law_take", d_ltake), ("_law_some", d_lsome), ("_law_coins", d_lcoins), ("_law_drawn", d_ldrawn), ("_law_alike", d_lalike), ("drawn", d_drawn)], [], ["range", "max"]⟩
def d_law : FD := fdOf g_law false 1 8 c_law
theorem f_law_0 : g_law.fns[0]? = some (("_law_bag" : Str), d_lbag) := rfl
theorem f_law_1 : g_law.fns[1]? = some (("_law_take" : Str), d_ltake) := rfl
theorem f_law_2 : g_law.fns[2]? = some (("_law_some" : Str), d_lsome) := rfl
theorem f_law_3 : g_law.fns[3]? = some (("_law_coins" : Str), d_lcoins) := rfl
theorem f_law_4 : g_law.fns[4]? = some (("_law_drawn" : Str), d_ldrawn) := rfl
theorem f_law_5 : g_law.fns[5]? = some (("_law_alike" : Str), d_lalike) := rfl
theorem f_law_6 : g_law.fns[6]? = some (("drawn" : Str), d_drawn) := rfl
theorem mt_law : d_law.mt = false := nr rfl
theorem np_law : d_law.np = 1 := nr rfl
theorem r_law {β ds : List D} : d_law.run β ds = bodyRun false 8 (c_law.den g_law) β ds := by unfold d_law; exact fdrun
end K52

set_option autoImplicit false
namespace K52
open PySem PySem.Spec L2 Den W
theorem sc_coins_for : FnScope n_coins_for ["many"] (defScope t_coins_for) := ⟨rfl, rfl, rfl, by decide +kernel, rfl, by decide +kernel, by decide +kernel⟩
theorem k_coins_for : c_coins_for.chk g_coins_for ⟨n_coins_for, defScope t_coins_for, fun _ => true⟩ (defBody t_coins_for) = true := by decide +kernel
theorem sc_number_shown : FnScope n_number_shown ["coins"] (defScope t_number_shown) := ⟨rfl, rfl, rfl, by decide +kernel, rfl, by decide +kernel, by decide +kernel⟩
theorem k_number_shown : c_number_shown.chk g_number_shown ⟨n_number_shown, defScope t_number_shown, fun _ => true⟩ (defBody t_number_shown) = true := by decide +kernel
theorem sc_drawn : FnScope n_drawn ["many", "coins"] (defScope t_drawn) := ⟨rfl, rfl, rfl, by decide +kernel, rfl, by decide +kernel, by decide +kernel⟩
theorem k_drawn : c_drawn.chk g_drawn ⟨n_drawn, defScope t_drawn, fun _ => true⟩ (defBody t_drawn) = true := by decide +kernel
theorem sc_lbag : FnScope n_lbag ["script"] (defScope t_lbag) := ⟨rfl, rfl, rfl, by decide +kernel, rfl, by decide +kernel, by decide +kernel⟩
theorem k_lbag : c_lbag.chk g_lbag ⟨n_lbag, defScope t_lbag, fun _ => true⟩ (defBody t_lbag) = true := by decide +kernel
theorem sc_ltake : FnScope n_ltake ["bag", "many"] (defScope t_ltake) := ⟨rfl, rfl, rfl, by decide +kernel, rfl, by decide +kernel, by decide +kernel⟩
theorem k_ltake : c_ltake.chk g_ltake ⟨n_ltake, defScope t_ltake, fun _ => true⟩ (defBody t_ltake) = true := by decide +kernel
theorem sc_lsome : FnScope n_lsome ["bag", "things"] (defScope t_lsome) := ⟨rfl, rfl, rfl, by decide +kernel, rfl, by decide +kernel, by decide +kernel⟩
theorem k_lsome : c_lsome.chk g_lsome ⟨n_lsome, defScope t_lsome, fun _ => true⟩ (defBody t_lsome) = true := by decide +kernel
theorem sc_lalike : FnScope n_lalike ["found", "due"] (defScope t_lalike) := ⟨rfl, rfl, rfl, by decide +kernel, rfl, by decide +kernel, by decide +kernel⟩
theorem k_lalike : c_lalike.chk g_lalike ⟨n_lalike, defScope t_lalike, fun _ => true⟩ (defBody t_lalike) = true := by decide +kernel
theorem sc_lcoins : FnScope n_lcoins ["bag", "many"] (defScope t_lcoins) := ⟨rfl, rfl, rfl, by decide +kernel, rfl, by decide +kernel, by decide +kernel⟩
theorem k_lcoins : c_lcoins.chk g_lcoins ⟨n_lcoins, defScope t_lcoins, fun _ => true⟩ (defBody t_lcoins) = true := by decide +kernel
theorem sc_ldrawn : FnScope n_ldrawn ["many", "coins"] (defScope t_ldrawn) := ⟨rfl, rfl, rfl, by decide +kernel, rfl, by decide +kernel, by decide +kernel⟩
theorem k_ldrawn : c_ldrawn.chk g_ldrawn ⟨n_ldrawn, defScope t_ldrawn, fun _ => true⟩ (defBody t_ldrawn) = true := by decide +kernel
theorem sc_law : FnScope n_law ["script"] (defScope t_law) := ⟨rfl, rfl, rfl, by decide +kernel, rfl, by decide +kernel, by decide +kernel⟩
theorem k_law : c_law.chk g_law ⟨n_law, defScope t_law, fun _ => true⟩ (defBody t_law) = true := by decide +kernel
set_option maxHeartbeats 0 in
theorem all_mk {P : Program} {w : World} {K : PySem.W.Frag} {h : Heap} {mg : Str → Option Value} {fa : Addr} (X : K.In h) (G : h.Ns mainGlobals mg) (hfa : mg "law" = some (.ref fa))
    {o0 a0 : Option Addr} {s0 : Array (Option Value)} {y0 v0 u0 p0 c0 t0 : Value} {f0 : Addr}
    {o1 a1 : Option Addr} {s1 : Array (Option Value)} {y1 v1 u1 p1 c1 t1 : Value} {f1 : Addr}
    {o2 a2 : Option Addr} {s2 : Array (Option Value)} {y2 v2 u2 p2 c2 t2 : Value} {f2 : Addr}
    {o3 a3 : Option Addr} {s3 : Array (Option Value)} {y3 v3 u3 p3 c3 t3 : Value} {f3 : Addr}
    {o4 a4 : Option Addr} {s4 : Array (Option Value)} {y4 v4 u4 p4 c4 t4 : Value} {f4 : Addr}
    {o5 a5 : Option Addr} {s5 : Array (Option Value)} {y5 v5 u5 p5 c5 t5 : Value} {f5 : Addr}
    {o6 a6 : Option Addr} {s6 : Array (Option Value)} {y6 v6 u6 p6 c6 t6 : Value} {f6 : Addr}
    {o7 a7 : Option Addr} {s7 : Array (Option Value)} {y7 v7 u7 p7 c7 t7 : Value} {f7 : Addr}
    {o8 a8 : Option Addr} {s8 : Array (Option Value)} {y8 v8 u8 p8 c8 t8 : Value} {f8 : Addr}
    {o9 a9 : Option Addr} {s9 : Array (Option Value)} {y9 v9 u9 p9 c9 t9 : Value} {f9 : Addr}
    (ha0 : PySem.W.nsIn K mainGlobals "coins_for" = some (some (.ref f0)))
    (hl0 : K.lookup f0 = some ⟨y0, o0, .func (PySem.W.fnOf "coins_for" "coins_for" (defArgs t_coins_for) (defBody t_coins_for) (defScope t_coins_for) .none v0 u0 p0 a0 c0 t0), s0⟩)
    (hc0 : PySem.W.codeIn K c0 "coins_for" = true)
    (hk0 : PySem.W.keepIn K (.ref f0) = true)
    (ha1 : PySem.W.nsIn K mainGlobals "number_shown" = some (some (.ref f1)))
    (hl1 : K.lookup f1 = some ⟨y1, o1, .func (PySem.W.fnOf "number_shown" "number_shown" (defArgs t_number_shown) (defBody t_number_shown) (defScope t_number_shown) .none v1 u1 p1 a1 c1 t1), s1⟩)
    (hc1 : PySem.W.codeIn K c1 "number_shown" = true)
    (hk1 : PySem.W.keepIn K (.ref f1) = true)
    (ha2 : PySem.W.nsIn K mainGlobals "drawn" = some (some (.ref f2)))
    (hl2 : K.lookup f2 = some ⟨y2, o2, .func (PySem.W.fnOf "drawn" "drawn" (defArgs t_drawn) (defBody t_drawn) (defScope t_drawn) .none v2 u2 p2 a2 c2 t2), s2⟩)
    (hc2 : PySem.W.codeIn K c2 "drawn" = true)
    (hk2 : PySem.W.keepIn K (.ref f2) = true)
    (ha3 : PySem.W.nsIn K mainGlobals "_law_bag" = some (some (.ref f3)))
    (hl3 : K.lookup f3 = some ⟨y3, o3, .func (PySem.W.fnOf "_law_bag" "_law_bag" (defArgs t_lbag) (defBody t_lbag) (defScope t_lbag) .none v3 u3 p3 a3 c3 t3), s3⟩)
    (hc3 : PySem.W.codeIn K c3 "_law_bag" = true)
    (hk3 : PySem.W.keepIn K (.ref f3) = true)
    (ha4 : PySem.W.nsIn K mainGlobals "_law_take" = some (some (.ref f4)))
    (hl4 : K.lookup f4 = some ⟨y4, o4, .func (PySem.W.fnOf "_law_take" "_law_take" (defArgs t_ltake) (defBody t_ltake) (defScope t_ltake) .none v4 u4 p4 a4 c4 t4), s4⟩)
    (hc4 : PySem.W.codeIn K c4 "_law_take" = true)
    (hk4 : PySem.W.keepIn K (.ref f4) = true)
    (ha5 : PySem.W.nsIn K mainGlobals "_law_some" = some (some (.ref f5)))
    (hl5 : K.lookup f5 = some ⟨y5, o5, .func (PySem.W.fnOf "_law_some" "_law_some" (defArgs t_lsome) (defBody t_lsome) (defScope t_lsome) .none v5 u5 p5 a5 c5 t5), s5⟩)
    (hc5 : PySem.W.codeIn K c5 "_law_some" = true)
    (hk5 : PySem.W.keepIn K (.ref f5) = true)
    (ha6 : PySem.W.nsIn K mainGlobals "_law_alike" = some (some (.ref f6)))
    (hl6 : K.lookup f6 = some ⟨y6, o6, .func (PySem.W.fnOf "_law_alike" "_law_alike" (defArgs t_lalike) (defBody t_lalike) (defScope t_lalike) .none v6 u6 p6 a6 c6 t6), s6⟩)
    (hc6 : PySem.W.codeIn K c6 "_law_alike" = true)
    (hk6 : PySem.W.keepIn K (.ref f6) = true)
    (ha7 : PySem.W.nsIn K mainGlobals "_law_coins" = some (some (.ref f7)))
    (hl7 : K.lookup f7 = some ⟨y7, o7, .func (PySem.W.fnOf "_law_coins" "_law_coins" (defArgs t_lcoins) (defBody t_lcoins) (defScope t_lcoins) .none v7 u7 p7 a7 c7 t7), s7⟩)
    (hc7 : PySem.W.codeIn K c7 "_law_coins" = true)
    (hk7 : PySem.W.keepIn K (.ref f7) = true)
    (ha8 : PySem.W.nsIn K mainGlobals "_law_drawn" = some (some (.ref f8)))
    (hl8 : K.lookup f8 = some ⟨y8, o8, .func (PySem.W.fnOf "_law_drawn" "_law_drawn" (defArgs t_ldrawn) (defBody t_ldrawn) (defScope t_ldrawn) .none v8 u8 p8 a8 c8 t8), s8⟩)
    (hc8 : PySem.W.codeIn K c8 "_law_drawn" = true)
    (hk8 : PySem.W.keepIn K (.ref f8) = true)
    (ha9 : PySem.W.nsIn K mainGlobals "law" = some (some (.ref f9)))
    (hl9 : K.lookup f9 = some ⟨y9, o9, .func (PySem.W.fnOf "law" "law" (defArgs t_law) (defBody t_law) (defScope t_law) .none v9 u9 p9 a9 c9 t9), s9⟩)
    (hc9 : PySem.W.codeIn K c9 "law" = true)
    (hk9 : PySem.W.keepIn K (.ref f9) = true)
    (hz0 : PySem.W.nsIn K mainGlobals "len" = some none)
    (hz1 : PySem.W.nsIn K mainGlobals "abs" = some none)
    (hz2 : PySem.W.nsIn K mainGlobals "int" = some none)
    (hz3 : PySem.W.nsIn K mainGlobals "repr" = some none)
    (hz4 : PySem.W.nsIn K mainGlobals "tuple" = some none)
    (hz5 : PySem.W.nsIn K mainGlobals "range" = some none)
    (hz6 : PySem.W.nsIn K mainGlobals "enumerate" = some none)
    (hz7 : PySem.W.nsIn K mainGlobals "max" = some none)
    : ∃ fd : FuncData, (∀ (s : Shared) (u : Value), BindsTo s fd ⟨[u], []⟩ [("script", u)]) ∧ ∀ base : Heap, K.In base → base.Ns mainGlobals mg → FnG P w K mg base 3 fa fd ["script"] (spD K d_law) := by
  have e := hfa.symm.trans (PySem.W.mg_of X G ha9)
  cases e
  refine ⟨PySem.W.fnOf "law" "law" (defArgs t_law) (defBody t_law) (defScope t_law) .none v9 u9 p9 a9 c9 t9, fun s u => .of_eq rfl, fun base _ _ => ?_⟩
  have z0 : mg "len" = none := PySem.W.mg_none_of X G hz0
  have z1 : mg "abs" = none := PySem.W.mg_none_of X G hz1
  have z2 : mg "int" = none := PySem.W.mg_none_of X G hz2
  have z3 : mg "repr" = none := PySem.W.mg_none_of X G hz3
  have z4 : mg "tuple" = none := PySem.W.mg_none_of X G hz4
  have z5 : mg "range" = none := PySem.W.mg_none_of X G hz5
  have z6 : mg "enumerate" = none := PySem.W.mg_none_of X G hz6
  have z7 : mg "max" = none := PySem.W.mg_none_of X G hz7
  have F0 := fun_mk (st := t_coins_for) hl0 hc0 hk0
  have B0 := F0.binds (ps := ["many"]) fun _ _ _ _ _ _ us hl => match us, hl with | [_], _ => rfl
  have G0 : FnG P w K mg base 1 f0 _ ["many"] (spD K d_coins_for) := def_of F0 sc_coins_for ⟨all_nil, all_nil, all_nil⟩ k_coins_for
  have F1 := fun_mk (st := t_number_shown) hl1 hc1 hk1
  have B1 := F1.binds (ps := ["coins"]) fun _ _ _ _ _ _ us hl => match us, hl with | [_], _ => rfl
  have G1 : FnG P w K mg base 1 f1 _ ["coins"] (spD K d_number_shown) := def_of F1 sc_number_shown ⟨all_nil, all_nil, all_nil⟩ k_number_shown
  have F2 := fun_mk (st := t_drawn) hl2 hc2 hk2
  have B2 := F2.binds (ps := ["many", "coins"]) fun _ _ _ _ _ _ us hl => match us, hl with | [_, _], _ => rfl
  have G2 : FnG P w K mg base 2 f2 _ ["many", "coins"] (spD K d_drawn) := def_of F2 sc_drawn ⟨(all_cons z0 all_nil), all_nil, (all_cons ⟨_, _, _, G0, PySem.W.mg_of X G ha0, hk0, B0⟩ (all_cons ⟨_, _, _, G1, PySem.W.mg_of X G ha1, hk1, B1⟩ all_nil))⟩ k_drawn
  have F3 := fun_mk (st := t_lbag) hl3 hc3 hk3
  have B3 := F3.binds (ps := ["script"]) fun _ _ _ _ _ _ us hl => match us, hl with | [_], _ => rfl
  have G3 : FnG P w K mg base 1 f3 _ ["script"] (spD K d_lbag) := def_of F3 sc_lbag ⟨(all_cons z1 all_nil), all_nil, all_nil⟩ k_lbag
  have F4 := fun_mk (st := t_ltake) hl4 hc4 hk4
  have B4 := F4.binds (ps := ["bag", "many"]) fun _ _ _ _ _ _ us hl => match us, hl with | [_, _], _ => rfl
  have G4 : FnG P w K mg base 1 f4 _ ["bag", "many"] (spD K d_ltake) := def_of F4 sc_ltake ⟨(all_cons z2 all_nil), all_nil, all_nil⟩ k_ltake
  have F5 := fun_mk (st := t_lsome) hl5 hc5 hk5
  have B5 := F5.binds (ps := ["bag", "things"]) fun _ _ _ _ _ _ us hl => match us, hl with | [_, _], _ => rfl
  have G5 : FnG P w K mg base 2 f5 _ ["bag", "things"] (spD K d_lsome) := def_of F5 sc_lsome ⟨(all_cons z0 all_nil), all_nil, (all_cons ⟨_, _, _, G4, PySem.W.mg_of X G ha4, hk4, B4⟩ all_nil)⟩ k_lsome
  have F6 := fun_mk (st := t_lalike) hl6 hc6 hk6
  have B6 := F6.binds (ps := ["found", "due"]) fun _ _ _ _ _ _ us hl => match us, hl with | [_, _], _ => rfl
  have G6 : FnG P w K mg base 1 f6 _ ["found", "due"] (spD K d_lalike) := def_of F6 sc_lalike ⟨(all_cons z3 all_nil), all_nil, all_nil⟩ k_lalike
  have F7 := fun_mk (st := t_lcoins) hl7 hc7 hk7
  have B7 := F7.binds (ps := ["bag", "many"]) fun _ _ _ _ _ _ us hl => match us, hl with | [_, _], _ => rfl
  have G7 : FnG P w K mg base 2 f7 _ ["bag", "many"] (spD K d_lcoins) := def_of F7 sc_lcoins ⟨(all_cons z4 (all_cons z5 all_nil)), all_nil, (all_cons ⟨_, _, _, G4, PySem.W.mg_of X G ha4, hk4, B4⟩ all_nil)⟩ k_lcoins
  have F8 := fun_mk (st := t_ldrawn) hl8 hc8 hk8
  have B8 := F8.binds (ps := ["many", "coins"]) fun _ _ _ _ _ _ us hl => match us, hl with | [_, _], _ => rfl
  have G8 : FnG P w K mg base 1 f8 _ ["many", "coins"] (spD K d_ldrawn) := def_of F8 sc_ldrawn ⟨(all_cons z5 (all_cons z0 (all_cons z6 (all_cons z2 all_nil)))), all_nil, all_nil⟩ k_ldrawn
  have F9 := fun_mk (st := t_law) hl9 hc9 hk9
  have B9 := F9.binds (ps := ["script"]) fun _ _ _ _ _ _ us hl => match us, hl with | [_], _ => rfl
  have G9 : FnG P w K mg base 3 fa _ ["script"] (spD K d_law) := def_of F9 sc_law ⟨(all_cons z5 (all_cons z7 all_nil)), all_nil, (all_cons ⟨_, _, _, G3.mono (by decide), PySem.W.mg_of X G ha3, hk3, B3⟩ (all_cons ⟨_, _, _, G4.mono (by decide), PySem.W.mg_of X G ha4, hk4, B4⟩ (all_cons ⟨_, _, _, G5, PySem.W.mg_of X G ha5, hk5, B5⟩ (all_cons ⟨_, _, _, G7, PySem.W.mg_of X G ha7, hk7, B7⟩ (all_cons ⟨_, _, _, G8.mono (by decide), PySem.W.mg_of X G ha8, hk8, B8⟩ (all_cons ⟨_, _, _, G6.mono (by decide), PySem.W.mg_of X G ha6, hk6, B6⟩ (all_cons ⟨_, _, _, G2, PySem.W.mg_of X G ha2, hk2, B2⟩ all_nil)))))))⟩ k_law
  exact G9
end K52

set_option autoImplicit false
namespace K52
open PySem PySem.Spec L2 Den W
def bN (b : Bool) : Nat := if b then 1 else 0
def valF (a : Nat) : List Bool → Nat
  | [] => a
  | b :: bs => valF (2 * a + bN b) bs
def val (bs : List Bool) : Nat := valF 0 bs
def cD (bs : List Bool) : List D := bs.map .bool
def blk (k : Nat) (c : List Bool) (t : Nat) : List Bool := (c.drop (t * k)).take k
def Pt (k m : Nat) (c : List Bool) (t : Nat) : Prop := (t + 1) * k ≤ c.length ∧ val (blk k c t) < m
def resD (v u : Nat) : D := .tuple [nI v, nI u]
def Drn (k m : Nat) (c : List Bool) (R : D) : Prop := (∃ t, Pt k m c t ∧ (∀ s, s < t → ¬ Pt k m c s) ∧ R = resD (val (blk k c t)) ((t + 1) * k)) ∨ ((∀ t, ¬ Pt k m c t) ∧ R = .none)
theorem drn_one {k m : Nat} {c : List Bool} {R R' : D} (h : Drn k m c R) (h' : Drn k m c R') : R = R' := by
  rcases h with ⟨t, p, q, rfl⟩ | ⟨q, rfl⟩
  · rcases h' with ⟨t', p', q', rfl⟩ | ⟨q', rfl⟩
    · have : t = t' := by
        rcases Nat.lt_trichotomy t t' with z | z | z
        · exact absurd p (q' t z)
        · exact z
        · exact absurd p' (q t' z)
      rw [this]
    · exact absurd p (q' t)
  · rcases h' with ⟨t', p', q', rfl⟩ | ⟨q', rfl⟩
    · exact absurd p' (q t')
    · rfl
theorem valF_lt : ∀ {bs : List Bool} {a : Nat}, valF a bs < (a + 1) * 2 ^ bs.length
  | [], a => by simp [valF]
  | b :: bs, a => by
    have h := valF_lt (bs := bs) (a := 2 * a + bN b)
    have hb : bN b ≤ 1 := by unfold bN; split <;> omega
    show valF (2 * a + bN b) bs < _
    refine Nat.lt_of_lt_of_le h ?_
    rw [List.length_cons, Nat.pow_succ, Nat.mul_comm (2 ^ bs.length) 2, ← Nat.mul_assoc]
    exact Nat.mul_le_mul_right _ (by omega)
theorem cD_len {bs : List Bool} : (cD bs).length = bs.length := List.length_map ..
theorem cut_bits {c : List Bool} {lo hi : Nat} : cutD (cD c) (some (lo : Int)) (some (hi : Int)) = cD ((c.drop lo).take (hi - lo)) := by
  unfold cutD
  rw [sIx_int (by omega), sIx_int (by omega), cD_len]
  unfold cD
  rw [← List.map_drop, ← List.map_take]
  congr 1
  simp only [Int.toNat_natCast]
  by_cases h : lo ≤ c.length
  · rw [Nat.min_eq_left h]
    by_cases h2 : hi ≤ c.length
    · rw [Nat.min_eq_left h2]
    · rw [Nat.min_eq_right (by omega), List.take_of_length_le (by rw [List.length_drop]; omega), List.take_of_length_le (by rw [List.length_drop]; omega)]
  · rw [Nat.min_eq_right (show c.length ≤ lo by omega), List.drop_eq_nil_of_le (Nat.le_refl _), List.drop_eq_nil_of_le (show c.length ≤ lo by omega)]
    simp
theorem cut_hd {c : List Bool} {hi : Nat} : cutD (cD c) none (some (hi : Int)) = cD (c.take hi) := by
  have h := cut_bits (c := c) (lo := 0) (hi := hi)
  have e : cutD (cD c) none (some (hi : Int)) = cutD (cD c) (some ((0 : Nat) : Int)) (some (hi : Int)) := by
    unfold cutD
    rw [sIx_int (i := ((0 : Nat) : Int)) (by omega), HT.sIx_none]
    simp
  rw [e, h]
  simp
/-! how many digits -/
def kOf (m : Nat) : Nat := Builtin.Int.intBits ((m : Int) - 1)
theorem kOf_is {m d : Nat} (hm : 1 ≤ m) (h1 : m ≤ 2 ^ d) (h2 : d = 0 ∨ 2 ^ (d - 1) < m) : d = kOf m := by
  unfold kOf Builtin.Int.intBits
  by_cases h0 : m = 1
  · subst h0
    rcases h2 with z | z
    · rw [z]
      rfl
    · exact absurd (Nat.one_le_two_pow (n := d - 1)) (by omega)
  · have hz : ¬ (((m : Int) - 1 == 0) = true) := by
      rw [beq_iff_eq]
      omega
    rw [if_neg hz]
    have e : ((m : Int) - 1).natAbs = m - 1 := by omega
    rw [e]
    rcases h2 with z | z
    · rw [z] at h1
      simp at h1
      omega
    · obtain ⟨n, rfl⟩ : ∃ n, d = n + 1 := by
        cases d with
        | zero => simp at h1; omega
        | succ n => exact ⟨n, rfl⟩
      have a1 : n ≤ (m - 1).log2 := (Nat.le_log2 (by omega)).mpr (by simp at z; omega)
      have a2 : (m - 1).log2 < n + 1 := (Nat.log2_lt (by omega)).mpr (by omega)
      omega
theorem kOf_le {m n : Nat} (hm : 1 ≤ m) (h : m ≤ 2 ^ n) : kOf m ≤ n := by
  unfold kOf Builtin.Int.intBits
  split
  · omega
  · have e : ((m : Int) - 1).natAbs = m - 1 := by omega
    rw [e]
    have : m - 1 ≠ 0 := by
      rename_i hz
      intro z
      apply hz
      rw [beq_iff_eq]
      omega
    have := (Nat.log2_lt (n := m - 1) (k := n) this).mpr (by omega)
    omega
/-! coins behind those that are used -/
theorem blk_alike {k t s : Nat} {c c' : List Bool} (he : c'.take ((t + 1) * k) = c.take ((t + 1) * k)) (h : s ≤ t) : blk k c' s = blk k c s := by
  have a : ∀ c : List Bool, blk k c s = ((c.take ((t + 1) * k)).drop (s * k)).take k := fun c => by
    unfold blk
    rw [List.drop_take, List.take_take]
    congr 1
    have : s * k + k ≤ (t + 1) * k := by
      rw [← Nat.succ_mul]
      exact Nat.mul_le_mul_right _ (by omega)
    omega
  rw [a c', a c, he]
theorem len_take {c c' : List Bool} {n : Nat} (he : c'.take n = c.take n) (h : n ≤ c.length) : n ≤ c'.length := by
  have := congrArg List.length he
  rw [List.length_take, List.length_take] at this
  omega
theorem drn_more {k m t : Nat} {c c' : List Bool} (p : Pt k m c t) (q : ∀ s, s < t → ¬ Pt k m c s) (he : c'.take ((t + 1) * k) = c.take ((t + 1) * k)) : Drn k m c' (resD (val (blk k c t)) ((t + 1) * k)) := by
  refine .inl ⟨t, ⟨len_take he p.1, by rw [blk_alike he (Nat.le_refl t)]; exact p.2⟩, fun s hs z => q s hs ⟨?_, by rw [← blk_alike he (Nat.le_of_lt hs)]; exact z.2⟩, by rw [blk_alike he (Nat.le_refl t)]⟩
  refine Nat.le_trans (Nat.mul_le_mul_right _ (by omega)) p.1
theorem drn_less {k m t : Nat} {c : List Bool} {R : D} (p : Pt k m c t) (q : ∀ s, s < t → ¬ Pt k m c s) (hk : 0 < k) (h : Drn k m (c.take ((t + 1) * k - 1)) R) : R = .none := by
  refine drn_one h (.inr ⟨fun s z => ?_, rfl⟩)
  have hl : (s + 1) * k ≤ (t + 1) * k - 1 := by
    have := z.1
    rw [List.length_take] at this
    omega
  have hst : s < t := by
    rcases Nat.lt_or_ge s t with y | y
    · exact y
    · have := Nat.mul_le_mul_right k (show t + 1 ≤ s + 1 by omega)
      have : 0 < (t + 1) * k := Nat.mul_pos (by omega) hk
      omega
  have hb : blk k (c.take ((t + 1) * k - 1)) s = blk k c s := blk_alike (t := s) (by rw [List.take_take, Nat.min_eq_left hl]) (Nat.le_refl s)
  exact q s hst ⟨Nat.le_trans (Nat.mul_le_mul_right _ (by omega)) p.1, by rw [← hb]; exact z.2⟩
end K52

set_option autoImplicit false
namespace K52
open PySem PySem.Spec L2 Den W
theorem valF_cons {a : Nat} {b : Bool} {bs : List Bool} : valF a (b :: bs) = valF (2 * a + bN b) bs := rfl
/-- the program's number -/
theorem number_ok {bs : List Bool} (hl : bs.length ≤ 1000) : d_number_shown.run [] [.tuple (cD bs)] = some (.va (nI (val bs)), []) := by
  refine eqr ?_
  rw [r_number_shown]
  refine run_f ?_
  refine ok_step (ρ1 := [.va (.tuple (cD bs)), .va (nI 0), .no]) (by simp [Den.Cd.denD, Den.fsStar, Den.f1, Den.fExt, Den.fRep, Den.fTr, Den.fCh, Den.opI, Den.opB, Den.opC, Den.opM, Den.bodyRun, Den.Ss.den, Den.S.den, Den.C.den, Den.C.denT, Den.Cs.denA, Den.Cs.denO, Den.Cs.denAT, Den.Cs.denOT, Den.Cs.denV, Den.Cs.denF, Den.Co.den, Den.Co.denT, Den.Ci.den, Den.Tg.den, Den.Tg.dens, Den.Tg.slots, Den.Tg.slotsL, Den.parL, Den.fSeq, Den.fRet, Den.fRetN, Den.fNop, Den.fBk, Den.fCt, Den.fSet, Den.fO, Den.fDrop, Den.SlOf, Den.notBg, Den.fIfS, Den.fIf, Den.fT, Den.truth, Den.fAnd, Den.fOr, Den.fNot, Den.fAndV, Den.fOrV, Den.fNotV, Den.isB, Den.fV, Den.fF, Den.frz, Den.half, Den.vw, Den.vws, Den.f1, Den.f2, Den.fL, Den.fM, Den.fVar, Den.fC, Den.fTup, Den.fLst, Den.fsCons, Den.fsNil, Den.fSetIx, Den.fAugIx, Den.fAug, Den.asInt, Den.items, Den.putItems, Den.sameKind, Den.fMut, Den.φApp, Den.φIns, Den.fCall, Den.fCallM, Den.fPar, Den.fPar3, Den.fAsg, Den.gNm, Den.gTp, Den.gsCons, Den.gsNil, Den.fSl, Den.fPt, Den.φSl, Den.add_int, Den.sub_int, Den.φNeg, Den.φCmp, Den.φIs, Den.φIsNot, Den.isNone, Den.len_lst, Den.len_tup, Den.φAbs, Den.φInt, Den.φTuple, Den.φList, Den.fdmt, Den.fdnp, L2.ixN, Den.eq_str, Den.ne_str, Den.eq_int, Den.ne_int, Den.ix_lst, Den.ix_tup, Den.at_zero, Den.at_one, Den.at_two, Den.at_three, Den.lim_lit, nI]) ?_
  refine ok_cons (ok_for (ds := cD bs) (ρ1 := [.va (.tuple (cD bs)), .va (nI 0), .no]) (fun ds ρ => ∃ a rest s2, ds = cD rest ∧ valF a rest = val bs ∧ Nb s2 ∧ ρ = [.va (.tuple (cD bs)), .va (nI a), s2]) (by simp [Den.Cd.denD, Den.fsStar, Den.f1, Den.fExt, Den.fRep, Den.fTr, Den.fCh, Den.opI, Den.opB, Den.opC, Den.opM, Den.bodyRun, Den.Ss.den, Den.S.den, Den.C.den, Den.C.denT, Den.Cs.denA, Den.Cs.denO, Den.Cs.denAT, Den.Cs.denOT, Den.Cs.denV, Den.Cs.denF, Den.Co.den, Den.Co.denT, Den.Ci.den, Den.Tg.den, Den.Tg.dens, Den.Tg.slots, Den.Tg.slotsL, Den.parL, Den.fSeq, Den.fRet, Den.fRetN, Den.fNop, Den.fBk, Den.fCt, Den.fSet, Den.fO, Den.fDrop, Den.SlOf, Den.notBg, Den.fIfS, Den.fIf, Den.fT, Den.truth, Den.fAnd, Den.fOr, Den.fNot, Den.fAndV, Den.fOrV, Den.fNotV, Den.isB, Den.fV, Den.fF, Den.frz, Den.half, Den.vw, Den.vws, Den.f1, Den.f2, Den.fL, Den.fM, Den.fVar, Den.fC, Den.fTup, Den.fLst, Den.fsCons, Den.fsNil, Den.fSetIx, Den.fAugIx, Den.fAug, Den.asInt, Den.items, Den.putItems, Den.sameKind, Den.fMut, Den.φApp, Den.φIns, Den.fCall, Den.fCallM, Den.fPar, Den.fPar3, Den.fAsg, Den.gNm, Den.gTp, Den.gsCons, Den.gsNil, Den.fSl, Den.fPt, Den.φSl, Den.add_int, Den.sub_int, Den.φNeg, Den.φCmp, Den.φIs, Den.φIsNot, Den.isNone, Den.len_lst, Den.len_tup, Den.φAbs, Den.φInt, Den.φTuple, Den.φList, Den.fdmt, Den.fdnp, L2.ixN, Den.eq_str, Den.ne_str, Den.eq_int, Den.ne_int, Den.ix_lst, Den.ix_tup, Den.at_zero, Den.at_one, Den.at_two, Den.at_three, Den.lim_lit, fIt, its]) ⟨0, bs, .no, rfl, rfl, nb_no, rfl⟩ ?_ ?_)
  · rintro d ds ρ ⟨a, rest, s2, hd, hv, p2, rfl⟩
    cases rest with
    | nil => cases hd
    | cons b rest =>
      obtain ⟨h1, h2⟩ := List.cons.inj (show d :: ds = .bool b :: cD rest from hd)
      subst h1 h2
      refine ⟨[.va (.tuple (cD bs)), .va (nI a), .va (.bool b)], nm_ok p2 rfl rfl, ?_⟩
      have e2 : φMul (.int 2) (.int (a : Int)) = some (.va (.int (2 * (a : Int)))) := mul_small (.inl (by omega))
      have e3 : (2 * (a : Int) + (if b = true then 1 else 0)) = ((2 * a + bN b : Nat) : Int) := by
        unfold bN
        cases b <;> simp
      refine ok_step (ρ1 := [.va (.tuple (cD bs)), .va (nI (2 * a + bN b)), .va (.bool b)]) ?_ (ok_nil ⟨_, rest, _, rfl, by rw [← valF_cons]; exact hv, nb_va, rfl⟩)
      unfold nI
      rw [← e3]
      cases b <;> simp [Den.Cd.denD, Den.fsStar, Den.f1, Den.fExt, Den.fRep, Den.fTr, Den.fCh, Den.opI, Den.opB, Den.opC, Den.opM, Den.bodyRun, Den.Ss.den, Den.S.den, Den.C.den, Den.C.denT, Den.Cs.denA, Den.Cs.denO, Den.Cs.denAT, Den.Cs.denOT, Den.Cs.denV, Den.Cs.denF, Den.Co.den, Den.Co.denT, Den.Ci.den, Den.Tg.den, Den.Tg.dens, Den.Tg.slots, Den.Tg.slotsL, Den.parL, Den.fSeq, Den.fRet, Den.fRetN, Den.fNop, Den.fBk, Den.fCt, Den.fSet, Den.fO, Den.fDrop, Den.SlOf, Den.notBg, Den.fIfS, Den.fIf, Den.fT, Den.truth, Den.fAnd, Den.fOr, Den.fNot, Den.fAndV, Den.fOrV, Den.fNotV, Den.isB, Den.fV, Den.fF, Den.frz, Den.half, Den.vw, Den.vws, Den.f1, Den.f2, Den.fL, Den.fM, Den.fVar, Den.fC, Den.fTup, Den.fLst, Den.fsCons, Den.fsNil, Den.fSetIx, Den.fAugIx, Den.fAug, Den.asInt, Den.items, Den.putItems, Den.sameKind, Den.fMut, Den.φApp, Den.φIns, Den.fCall, Den.fCallM, Den.fPar, Den.fPar3, Den.fAsg, Den.gNm, Den.gTp, Den.gsCons, Den.gsNil, Den.fSl, Den.fPt, Den.φSl, Den.add_int, Den.sub_int, Den.φNeg, Den.φCmp, Den.φIs, Den.φIsNot, Den.isNone, Den.len_lst, Den.len_tup, Den.φAbs, Den.φInt, Den.φTuple, Den.φList, Den.fdmt, Den.fdnp, L2.ixN, Den.eq_str, Den.ne_str, Den.eq_int, Den.ne_int, Den.ix_lst, Den.ix_tup, Den.at_zero, Den.at_one, Den.at_two, Den.at_three, Den.lim_lit, e2]
  · rintro ρ ⟨a, rest, s2, hd, hv, p2, rfl⟩
    cases rest with
    | nil =>
      have : a = val bs := hv
      subst this
      exact ok_last (r := .va (nI (val bs))) (ρ1 := [.va (.tuple (cD bs)), .va (nI (val bs)), s2]) (by simp [Den.Cd.denD, Den.fsStar, Den.f1, Den.fExt, Den.fRep, Den.fTr, Den.fCh, Den.opI, Den.opB, Den.opC, Den.opM, Den.bodyRun, Den.Ss.den, Den.S.den, Den.C.den, Den.C.denT, Den.Cs.denA, Den.Cs.denO, Den.Cs.denAT, Den.Cs.denOT, Den.Cs.denV, Den.Cs.denF, Den.Co.den, Den.Co.denT, Den.Ci.den, Den.Tg.den, Den.Tg.dens, Den.Tg.slots, Den.Tg.slotsL, Den.parL, Den.fSeq, Den.fRet, Den.fRetN, Den.fNop, Den.fBk, Den.fCt, Den.fSet, Den.fO, Den.fDrop, Den.SlOf, Den.notBg, Den.fIfS, Den.fIf, Den.fT, Den.truth, Den.fAnd, Den.fOr, Den.fNot, Den.fAndV, Den.fOrV, Den.fNotV, Den.isB, Den.fV, Den.fF, Den.frz, Den.half, Den.vw, Den.vws, Den.f1, Den.f2, Den.fL, Den.fM, Den.fVar, Den.fC, Den.fTup, Den.fLst, Den.fsCons, Den.fsNil, Den.fSetIx, Den.fAugIx, Den.fAug, Den.asInt, Den.items, Den.putItems, Den.sameKind, Den.fMut, Den.φApp, Den.φIns, Den.fCall, Den.fCallM, Den.fPar, Den.fPar3, Den.fAsg, Den.gNm, Den.gTp, Den.gsCons, Den.gsNil, Den.fSl, Den.fPt, Den.φSl, Den.add_int, Den.sub_int, Den.φNeg, Den.φCmp, Den.φIs, Den.φIsNot, Den.isNone, Den.len_lst, Den.len_tup, Den.φAbs, Den.φInt, Den.φTuple, Den.φList, Den.fdmt, Den.fdnp, L2.ixN, Den.eq_str, Den.ne_str, Den.eq_int, Den.ne_int, Den.ix_lst, Den.ix_tup, Den.at_zero, Den.at_one, Den.at_two, Den.at_three, Den.lim_lit]) ⟨rfl, rfl⟩
    | cons b rest => cases hd
theorem coins_for_ok {m : Nat} : d_coins_for.run [] [nI m] = some (.va (nI (kOf m)), []) := by
  rw [r_coins_for]
  unfold nI kOf
  simp [Den.Cd.denD, Den.fsStar, Den.f1, Den.fExt, Den.fRep, Den.fTr, Den.fCh, Den.opI, Den.opB, Den.opC, Den.opM, Den.bodyRun, Den.Ss.den, Den.S.den, Den.C.den, Den.C.denT, Den.Cs.denA, Den.Cs.denO, Den.Cs.denAT, Den.Cs.denOT, Den.Cs.denV, Den.Cs.denF, Den.Co.den, Den.Co.denT, Den.Ci.den, Den.Tg.den, Den.Tg.dens, Den.Tg.slots, Den.Tg.slotsL, Den.parL, Den.fSeq, Den.fRet, Den.fRetN, Den.fNop, Den.fBk, Den.fCt, Den.fSet, Den.fO, Den.fDrop, Den.SlOf, Den.notBg, Den.fIfS, Den.fIf, Den.fT, Den.truth, Den.fAnd, Den.fOr, Den.fNot, Den.fAndV, Den.fOrV, Den.fNotV, Den.isB, Den.fV, Den.fF, Den.frz, Den.half, Den.vw, Den.vws, Den.f1, Den.f2, Den.fL, Den.fM, Den.fVar, Den.fC, Den.fTup, Den.fLst, Den.fsCons, Den.fsNil, Den.fSetIx, Den.fAugIx, Den.fAug, Den.asInt, Den.items, Den.putItems, Den.sameKind, Den.fMut, Den.φApp, Den.φIns, Den.fCall, Den.fCallM, Den.fPar, Den.fPar3, Den.fAsg, Den.gNm, Den.gTp, Den.gsCons, Den.gsNil, Den.fSl, Den.fPt, Den.φSl, Den.add_int, Den.sub_int, Den.φNeg, Den.φCmp, Den.φIs, Den.φIsNot, Den.isNone, Den.len_lst, Den.len_tup, Den.φAbs, Den.φInt, Den.φTuple, Den.φList, Den.fdmt, Den.fdnp, L2.ixN, Den.eq_str, Den.ne_str, Den.eq_int, Den.ne_int, Den.ix_lst, Den.ix_tup, Den.at_zero, Den.at_one, Den.at_two, Den.at_three, Den.lim_lit, c_coins_for, bits_int]
def stD (m : Nat) (c : List Bool) (k u : Nat) (s4 : Sl) : Lo := [.va (nI m), .va (.tuple (cD c)), .va (nI k), .va (nI u), s4]
theorem lt_nat {a b : Nat} : (decide ((a : Int) < (b : Int))) = decide (a < b) := by simp
theorem le_nat {a b : Nat} : (decide ((a : Int) ≤ (b : Int))) = decide (a ≤ b) := by simp
theorem drawn_ok {m : Nat} {c : List Bool} (hm : 1 ≤ m) (hl : c.length ≤ 1000) : ∃ R, Drn (kOf m) m c R ∧ d_drawn.run [] [nI m, .tuple (cD c)] = some (.va R, []) := by
  suffices q : Ans (d_drawn.run [] [nI m, .tuple (cD c)]) fun r β => ∃ R, r = .va R ∧ β = [] ∧ Drn (kOf m) m c R by
    obtain ⟨r, β, e, R, rfl, rfl, h⟩ := q
    exact ⟨R, h, e⟩
  rw [r_drawn]
  refine run_f ?_
  have c1 : (C.call 0 (.cons (.var 0) .nil)).den g_drawn [.va (nI m), .va (.tuple (cD c)), .no, .no, .no] = some (.va (nI (kOf m)), [.va (nI m), .va (.tuple (cD c)), .no, .no, .no]) :=
    den_call f_drawn_0 (ds := [nI m]) (by simp [Den.Cd.denD, Den.fsStar, Den.f1, Den.fExt, Den.fRep, Den.fTr, Den.fCh, Den.opI, Den.opB, Den.opC, Den.opM, Den.bodyRun, Den.Ss.den, Den.S.den, Den.C.den, Den.C.denT, Den.Cs.denA, Den.Cs.denO, Den.Cs.denAT, Den.Cs.denOT, Den.Cs.denV, Den.Cs.denF, Den.Co.den, Den.Co.denT, Den.Ci.den, Den.Tg.den, Den.Tg.dens, Den.Tg.slots, Den.Tg.slotsL, Den.parL, Den.fSeq, Den.fRet, Den.fRetN, Den.fNop, Den.fBk, Den.fCt, Den.fSet, Den.fO, Den.fDrop, Den.SlOf, Den.notBg, Den.fIfS, Den.fIf, Den.fT, Den.truth, Den.fAnd, Den.fOr, Den.fNot, Den.fAndV, Den.fOrV, Den.fNotV, Den.isB, Den.fV, Den.fF, Den.frz, Den.half, Den.vw, Den.vws, Den.f1, Den.f2, Den.fL, Den.fM, Den.fVar, Den.fC, Den.fTup, Den.fLst, Den.fsCons, Den.fsNil, Den.fSetIx, Den.fAugIx, Den.fAug, Den.asInt, Den.items, Den.putItems, Den.sameKind, Den.fMut, Den.φApp, Den.φIns, Den.fCall, Den.fCallM, Den.fPar, Den.fPar3, Den.fAsg, Den.gNm, Den.gTp, Den.gsCons, Den.gsNil, Den.fSl, Den.fPt, Den.φSl, Den.add_int, Den.sub_int, Den.φNeg, Den.φCmp, Den.φIs, Den.φIsNot, Den.isNone, Den.len_lst, Den.len_tup, Den.φAbs, Den.φInt, Den.φTuple, Den.φList, Den.fdmt, Den.fdnp, L2.ixN, Den.eq_str, Den.ne_str, Den.eq_int, Den.ne_int, Den.ix_lst, Den.ix_tup, Den.at_zero, Den.at_one, Den.at_two, Den.at_three, Den.lim_lit]) coins_for_ok mt_coins_for np_coins_for
  generalize hk : kOf m = k at c1 ⊢
  refine ok_step (set_va c1 nb_no rfl rfl) ?_
  refine ok_step (ρ1 := stD m c k k .no) (by unfold stD; simp [Den.Cd.denD, Den.fsStar, Den.f1, Den.fExt, Den.fRep, Den.fTr, Den.fCh, Den.opI, Den.opB, Den.opC, Den.opM, Den.bodyRun, Den.Ss.den, Den.S.den, Den.C.den, Den.C.denT, Den.Cs.denA, Den.Cs.denO, Den.Cs.denAT, Den.Cs.denOT, Den.Cs.denV, Den.Cs.denF, Den.Co.den, Den.Co.denT, Den.Ci.den, Den.Tg.den, Den.Tg.dens, Den.Tg.slots, Den.Tg.slotsL, Den.parL, Den.fSeq, Den.fRet, Den.fRetN, Den.fNop, Den.fBk, Den.fCt, Den.fSet, Den.fO, Den.fDrop, Den.SlOf, Den.notBg, Den.fIfS, Den.fIf, Den.fT, Den.truth, Den.fAnd, Den.fOr, Den.fNot, Den.fAndV, Den.fOrV, Den.fNotV, Den.isB, Den.fV, Den.fF, Den.frz, Den.half, Den.vw, Den.vws, Den.f1, Den.f2, Den.fL, Den.fM, Den.fVar, Den.fC, Den.fTup, Den.fLst, Den.fsCons, Den.fsNil, Den.fSetIx, Den.fAugIx, Den.fAug, Den.asInt, Den.items, Den.putItems, Den.sameKind, Den.fMut, Den.φApp, Den.φIns, Den.fCall, Den.fCallM, Den.fPar, Den.fPar3, Den.fAsg, Den.gNm, Den.gTp, Den.gsCons, Den.gsNil, Den.fSl, Den.fPt, Den.φSl, Den.add_int, Den.sub_int, Den.φNeg, Den.φCmp, Den.φIs, Den.φIsNot, Den.isNone, Den.len_lst, Den.len_tup, Den.φAbs, Den.φInt, Den.φTuple, Den.φList, Den.fdmt, Den.fdnp, L2.ixN, Den.eq_str, Den.ne_str, Den.eq_int, Den.ne_int, Den.ix_lst, Den.ix_tup, Den.at_zero, Den.at_one, Den.at_two, Den.at_three, Den.lim_lit]) ?_
  refine ok_cons (ok_while (n := c.length + 1) (fun n ρ => ∃ t s4, t ≤ c.length ∧ n = c.length + 1 - t ∧ (k = 0 → t = 0) ∧ (∀ s, s < t → ¬ Pt k m c s) ∧ Nb s4 ∧ ρ = stD m c k ((t + 1) * k) s4)
    ⟨0, .no, by omega, by omega, fun _ => rfl, fun s z => by omega, nb_no, by rw [Nat.zero_add, Nat.one_mul]⟩ (by omega) ?_)
  rintro n ρ ⟨t, s4, ht, hn, h0, hq, p4, rfl⟩
  refine ⟨decide ((t + 1) * k ≤ c.length), stD m c k ((t + 1) * k) s4, ?_, fun hv => ?_, fun hv => ?_⟩
  · unfold stD nI
    generalize (t + 1) * k = u
    simp [Den.Cd.denD, Den.fsStar, Den.f1, Den.fExt, Den.fRep, Den.fTr, Den.fCh, Den.opI, Den.opB, Den.opC, Den.opM, Den.bodyRun, Den.Ss.den, Den.S.den, Den.C.den, Den.C.denT, Den.Cs.denA, Den.Cs.denO, Den.Cs.denAT, Den.Cs.denOT, Den.Cs.denV, Den.Cs.denF, Den.Co.den, Den.Co.denT, Den.Ci.den, Den.Tg.den, Den.Tg.dens, Den.Tg.slots, Den.Tg.slotsL, Den.parL, Den.fSeq, Den.fRet, Den.fRetN, Den.fNop, Den.fBk, Den.fCt, Den.fSet, Den.fO, Den.fDrop, Den.SlOf, Den.notBg, Den.fIfS, Den.fIf, Den.fT, Den.truth, Den.fAnd, Den.fOr, Den.fNot, Den.fAndV, Den.fOrV, Den.fNotV, Den.isB, Den.fV, Den.fF, Den.frz, Den.half, Den.vw, Den.vws, Den.f1, Den.f2, Den.fL, Den.fM, Den.fVar, Den.fC, Den.fTup, Den.fLst, Den.fsCons, Den.fsNil, Den.fSetIx, Den.fAugIx, Den.fAug, Den.asInt, Den.items, Den.putItems, Den.sameKind, Den.fMut, Den.φApp, Den.φIns, Den.fCall, Den.fCallM, Den.fPar, Den.fPar3, Den.fAsg, Den.gNm, Den.gTp, Den.gsCons, Den.gsNil, Den.fSl, Den.fPt, Den.φSl, Den.add_int, Den.sub_int, Den.φNeg, Den.φCmp, Den.φIs, Den.φIsNot, Den.isNone, Den.len_lst, Den.len_tup, Den.φAbs, Den.φInt, Den.φTuple, Den.φList, Den.fdmt, Den.fdnp, L2.ixN, Den.eq_str, Den.ne_str, Den.eq_int, Den.ne_int, Den.ix_lst, Den.ix_tup, Den.at_zero, Den.at_one, Den.at_two, Den.at_three, Den.lim_lit, cD_len, le_nat]
  · have hv2 : ¬ (t + 1) * k ≤ c.length := by simpa using hv
    refine ok_last (r := .va .none) (ρ1 := stD m c k ((t + 1) * k) s4) (by simp [Den.Cd.denD, Den.fsStar, Den.f1, Den.fExt, Den.fRep, Den.fTr, Den.fCh, Den.opI, Den.opB, Den.opC, Den.opM, Den.bodyRun, Den.Ss.den, Den.S.den, Den.C.den, Den.C.denT, Den.Cs.denA, Den.Cs.denO, Den.Cs.denAT, Den.Cs.denOT, Den.Cs.denV, Den.Cs.denF, Den.Co.den, Den.Co.denT, Den.Ci.den, Den.Tg.den, Den.Tg.dens, Den.Tg.slots, Den.Tg.slotsL, Den.parL, Den.fSeq, Den.fRet, Den.fRetN, Den.fNop, Den.fBk, Den.fCt, Den.fSet, Den.fO, Den.fDrop, Den.SlOf, Den.notBg, Den.fIfS, Den.fIf, Den.fT, Den.truth, Den.fAnd, Den.fOr, Den.fNot, Den.fAndV, Den.fOrV, Den.fNotV, Den.isB, Den.fV, Den.fF, Den.frz, Den.half, Den.vw, Den.vws, Den.f1, Den.f2, Den.fL, Den.fM, Den.fVar, Den.fC, Den.fTup, Den.fLst, Den.fsCons, Den.fsNil, Den.fSetIx, Den.fAugIx, Den.fAug, Den.asInt, Den.items, Den.putItems, Den.sameKind, Den.fMut, Den.φApp, Den.φIns, Den.fCall, Den.fCallM, Den.fPar, Den.fPar3, Den.fAsg, Den.gNm, Den.gTp, Den.gsCons, Den.gsNil, Den.fSl, Den.fPt, Den.φSl, Den.add_int, Den.sub_int, Den.φNeg, Den.φCmp, Den.φIs, Den.φIsNot, Den.isNone, Den.len_lst, Den.len_tup, Den.φAbs, Den.φInt, Den.φTuple, Den.φList, Den.fdmt, Den.fdnp, L2.ixN, Den.eq_str, Den.ne_str, Den.eq_int, Den.ne_int, Den.ix_lst, Den.ix_tup, Den.at_zero, Den.at_one, Den.at_two, Den.at_three, Den.lim_lit]) ⟨.none, rfl, rfl, .inr ⟨fun s z => ?_, rfl⟩⟩
    rcases Nat.lt_or_ge s t with y | y
    · exact hq s y z
    · have := z.1
      have := Nat.mul_le_mul_right k (show t + 1 ≤ s + 1 by omega)
      omega
  · have hv2 : (t + 1) * k ≤ c.length := by simpa using hv
    refine ⟨c.length - t, by omega, ?_⟩
    have hb : blk k c t = (c.drop ((t + 1) * k - k)).take ((t + 1) * k - ((t + 1) * k - k)) := by
      unfold blk
      have : (t + 1) * k = t * k + k := Nat.succ_mul ..
      rw [this, Nat.add_sub_cancel, Nat.add_sub_cancel_left]
    have hku : k ≤ (t + 1) * k := by
      have : (t + 1) * k = t * k + k := Nat.succ_mul ..
      omega
    have hnum : (C.call 1 (.cons (.sl (.var 1) (.so (.bin .sub (.var 3) (.var 2))) (.so (.var 3))) .nil)).den g_drawn (stD m c k ((t + 1) * k) s4) = some (.va (nI (val (blk k c t))), stD m c k ((t + 1) * k) s4) := by
      refine den_call f_drawn_1 (ds := [.tuple (cD (blk k c t))]) ?_ (number_ok (by unfold blk; rw [List.length_take, List.length_drop]; omega)) mt_number_shown np_number_shown
      rw [hb, ← cut_bits]
      unfold stD nI
      generalize (t + 1) * k = u at hku ⊢
      rw [show ((u - k : Nat) : Int) = (u : Int) - (k : Int) by omega]
      simp [Den.Cd.denD, Den.fsStar, Den.f1, Den.fExt, Den.fRep, Den.fTr, Den.fCh, Den.opI, Den.opB, Den.opC, Den.opM, Den.bodyRun, Den.Ss.den, Den.S.den, Den.C.den, Den.C.denT, Den.Cs.denA, Den.Cs.denO, Den.Cs.denAT, Den.Cs.denOT, Den.Cs.denV, Den.Cs.denF, Den.Co.den, Den.Co.denT, Den.Ci.den, Den.Tg.den, Den.Tg.dens, Den.Tg.slots, Den.Tg.slotsL, Den.parL, Den.fSeq, Den.fRet, Den.fRetN, Den.fNop, Den.fBk, Den.fCt, Den.fSet, Den.fO, Den.fDrop, Den.SlOf, Den.notBg, Den.fIfS, Den.fIf, Den.fT, Den.truth, Den.fAnd, Den.fOr, Den.fNot, Den.fAndV, Den.fOrV, Den.fNotV, Den.isB, Den.fV, Den.fF, Den.frz, Den.half, Den.vw, Den.vws, Den.f1, Den.f2, Den.fL, Den.fM, Den.fVar, Den.fC, Den.fTup, Den.fLst, Den.fsCons, Den.fsNil, Den.fSetIx, Den.fAugIx, Den.fAug, Den.asInt, Den.items, Den.putItems, Den.sameKind, Den.fMut, Den.φApp, Den.φIns, Den.fCall, Den.fCallM, Den.fPar, Den.fPar3, Den.fAsg, Den.gNm, Den.gTp, Den.gsCons, Den.gsNil, Den.fSl, Den.fPt, Den.φSl, Den.add_int, Den.sub_int, Den.φNeg, Den.φCmp, Den.φIs, Den.φIsNot, Den.isNone, Den.len_lst, Den.len_tup, Den.φAbs, Den.φInt, Den.φTuple, Den.φList, Den.fdmt, Den.fdnp, L2.ixN, Den.eq_str, Den.ne_str, Den.eq_int, Den.ne_int, Den.ix_lst, Den.ix_tup, Den.at_zero, Den.at_one, Den.at_two, Den.at_three, Den.lim_lit]
    refine ok_step (set_va hnum p4 rfl rfl) ?_
    show Ok (Ss.den g_drawn _ (stD m c k ((t + 1) * k) (.va (nI (val (blk k c t)))))) _
    refine ok_cons (ok_if (v := decide (val (blk k c t) < m)) (ρ1 := stD m c k ((t + 1) * k) (.va (nI (val (blk k c t))))) (by
      unfold stD nI
      generalize (t + 1) * k = u
      simp [Den.Cd.denD, Den.fsStar, Den.f1, Den.fExt, Den.fRep, Den.fTr, Den.fCh, Den.opI, Den.opB, Den.opC, Den.opM, Den.bodyRun, Den.Ss.den, Den.S.den, Den.C.den, Den.C.denT, Den.Cs.denA, Den.Cs.denO, Den.Cs.denAT, Den.Cs.denOT, Den.Cs.denV, Den.Cs.denF, Den.Co.den, Den.Co.denT, Den.Ci.den, Den.Tg.den, Den.Tg.dens, Den.Tg.slots, Den.Tg.slotsL, Den.parL, Den.fSeq, Den.fRet, Den.fRetN, Den.fNop, Den.fBk, Den.fCt, Den.fSet, Den.fO, Den.fDrop, Den.SlOf, Den.notBg, Den.fIfS, Den.fIf, Den.fT, Den.truth, Den.fAnd, Den.fOr, Den.fNot, Den.fAndV, Den.fOrV, Den.fNotV, Den.isB, Den.fV, Den.fF, Den.frz, Den.half, Den.vw, Den.vws, Den.f1, Den.f2, Den.fL, Den.fM, Den.fVar, Den.fC, Den.fTup, Den.fLst, Den.fsCons, Den.fsNil, Den.fSetIx, Den.fAugIx, Den.fAug, Den.asInt, Den.items, Den.putItems, Den.sameKind, Den.fMut, Den.φApp, Den.φIns, Den.fCall, Den.fCallM, Den.fPar, Den.fPar3, Den.fAsg, Den.gNm, Den.gTp, Den.gsCons, Den.gsNil, Den.fSl, Den.fPt, Den.φSl, Den.add_int, Den.sub_int, Den.φNeg, Den.φCmp, Den.φIs, Den.φIsNot, Den.isNone, Den.len_lst, Den.len_tup, Den.φAbs, Den.φInt, Den.φTuple, Den.φList, Den.fdmt, Den.fdnp, L2.ixN, Den.eq_str, Den.ne_str, Den.eq_int, Den.ne_int, Den.ix_lst, Den.ix_tup, Den.at_zero, Den.at_one, Den.at_two, Den.at_three, Den.lim_lit, lt_nat]) (fun hw => ?_) (fun hw => ?_))
    · have hw2 : val (blk k c t) < m := by simpa using hw
      exact ok_last (r := .va (resD (val (blk k c t)) ((t + 1) * k))) (ρ1 := stD m c k ((t + 1) * k) (.va (nI (val (blk k c t))))) (by
        unfold stD resD
        generalize (t + 1) * k = u
        simp [Den.Cd.denD, Den.fsStar, Den.f1, Den.fExt, Den.fRep, Den.fTr, Den.fCh, Den.opI, Den.opB, Den.opC, Den.opM, Den.bodyRun, Den.Ss.den, Den.S.den, Den.C.den, Den.C.denT, Den.Cs.denA, Den.Cs.denO, Den.Cs.denAT, Den.Cs.denOT, Den.Cs.denV, Den.Cs.denF, Den.Co.den, Den.Co.denT, Den.Ci.den, Den.Tg.den, Den.Tg.dens, Den.Tg.slots, Den.Tg.slotsL, Den.parL, Den.fSeq, Den.fRet, Den.fRetN, Den.fNop, Den.fBk, Den.fCt, Den.fSet, Den.fO, Den.fDrop, Den.SlOf, Den.notBg, Den.fIfS, Den.fIf, Den.fT, Den.truth, Den.fAnd, Den.fOr, Den.fNot, Den.fAndV, Den.fOrV, Den.fNotV, Den.isB, Den.fV, Den.fF, Den.frz, Den.half, Den.vw, Den.vws, Den.f1, Den.f2, Den.fL, Den.fM, Den.fVar, Den.fC, Den.fTup, Den.fLst, Den.fsCons, Den.fsNil, Den.fSetIx, Den.fAugIx, Den.fAug, Den.asInt, Den.items, Den.putItems, Den.sameKind, Den.fMut, Den.φApp, Den.φIns, Den.fCall, Den.fCallM, Den.fPar, Den.fPar3, Den.fAsg, Den.gNm, Den.gTp, Den.gsCons, Den.gsNil, Den.fSl, Den.fPt, Den.φSl, Den.add_int, Den.sub_int, Den.φNeg, Den.φCmp, Den.φIs, Den.φIsNot, Den.isNone, Den.len_lst, Den.len_tup, Den.φAbs, Den.φInt, Den.φTuple, Den.φList, Den.fdmt, Den.fdnp, L2.ixN, Den.eq_str, Den.ne_str, Den.eq_int, Den.ne_int, Den.ix_lst, Den.ix_tup, Den.at_zero, Den.at_one, Den.at_two, Den.at_three, Den.lim_lit]) ⟨_, rfl, rfl, .inl ⟨t, ⟨hv2, hw2⟩, hq, rfl⟩⟩
    · have hw2 : ¬ val (blk k c t) < m := by simpa using hw
      have hk0 : k ≠ 0 := fun z => by
        apply hw2
        unfold blk
        rw [z, List.take_zero]
        exact hm
      have ht1 : t + 1 ≤ c.length := Nat.le_trans (Nat.le_mul_of_pos_right _ (by omega)) hv2
      refine ok_nil (ok_step (ρ1 := stD m c k ((t + 1 + 1) * k) (.va (nI (val (blk k c t))))) ?_ (ok_nil ⟨t + 1, _, ht1, by omega, fun z => absurd z hk0, fun s hs z => ?_, nb_va, rfl⟩))
      · unfold stD nI
        rw [show (t + 1 + 1) * k = (t + 1) * k + k from Nat.succ_mul .., Int.natCast_add]
        generalize (t + 1) * k = u
        simp [Den.Cd.denD, Den.fsStar, Den.f1, Den.fExt, Den.fRep, Den.fTr, Den.fCh, Den.opI, Den.opB, Den.opC, Den.opM, Den.bodyRun, Den.Ss.den, Den.S.den, Den.C.den, Den.C.denT, Den.Cs.denA, Den.Cs.denO, Den.Cs.denAT, Den.Cs.denOT, Den.Cs.denV, Den.Cs.denF, Den.Co.den, Den.Co.denT, Den.Ci.den, Den.Tg.den, Den.Tg.dens, Den.Tg.slots, Den.Tg.slotsL, Den.parL, Den.fSeq, Den.fRet, Den.fRetN, Den.fNop, Den.fBk, Den.fCt, Den.fSet, Den.fO, Den.fDrop, Den.SlOf, Den.notBg, Den.fIfS, Den.fIf, Den.fT, Den.truth, Den.fAnd, Den.fOr, Den.fNot, Den.fAndV, Den.fOrV, Den.fNotV, Den.isB, Den.fV, Den.fF, Den.frz, Den.half, Den.vw, Den.vws, Den.f1, Den.f2, Den.fL, Den.fM, Den.fVar, Den.fC, Den.fTup, Den.fLst, Den.fsCons, Den.fsNil, Den.fSetIx, Den.fAugIx, Den.fAug, Den.asInt, Den.items, Den.putItems, Den.sameKind, Den.fMut, Den.φApp, Den.φIns, Den.fCall, Den.fCallM, Den.fPar, Den.fPar3, Den.fAsg, Den.gNm, Den.gTp, Den.gsCons, Den.gsNil, Den.fSl, Den.fPt, Den.φSl, Den.add_int, Den.sub_int, Den.φNeg, Den.φCmp, Den.φIs, Den.φIsNot, Den.isNone, Den.len_lst, Den.len_tup, Den.φAbs, Den.φInt, Den.φTuple, Den.φList, Den.fdmt, Den.fdnp, L2.ixN, Den.eq_str, Den.ne_str, Den.eq_int, Den.ne_int, Den.ix_lst, Den.ix_tup, Den.at_zero, Den.at_one, Den.at_two, Den.at_three, Den.lim_lit]
      · rcases Nat.lt_or_ge s t with y | y
        · exact hq s y z
        · have : s = t := by omega
          rw [this] at z
          exact hw2 z.2
end K52

set_option autoImplicit false
namespace K52
open PySem PySem.Spec L2 Den W
/-! the law's own drawing -/
def rowsL (k : Nat) (c : List Bool) (T : Nat) : List D := (List.range T).map fun t => .tuple (cD (blk k c t))
def stL (m : Nat) (c : List Bool) (k p : Nat) (s4 s5 s6 s7 s8 : Sl) : Lo := [.va (nI m), .va (.tuple (cD c)), .va (nI k), .va (nI p), s4, s5, s6, s7, s8]
def turnsOf (k : Nat) (c : List Bool) : Nat := if 0 < k then stepsUp 0 (c.length : Int) (k : Int) else 1
theorem turns_le {k : Nat} {c : List Bool} : turnsOf k c ≤ c.length + 1 := by
  unfold turnsOf stepsUp
  split
  · split
    · rename_i h1 h2
      have e := Int.ediv_le_self (a := ((c.length : Int) - 0 - 1)) (k : Int) (by omega)
      omega
    · omega
  · omega
theorem turns_all {k m t : Nat} {c : List Bool} (hk : 0 < k) (p : Pt k m c t) : t < turnsOf k c := by
  have h := p.1
  have h1 : t * k + k ≤ c.length := by rw [← Nat.succ_mul]; exact h
  unfold turnsOf stepsUp
  rw [if_pos hk, if_pos (by omega)]
  have : (t : Int) ≤ ((c.length : Int) - 0 - 1) / (k : Int) := by
    refine (Int.le_ediv_iff_mul_le (by omega)).mpr ?_
    have : ((t * k : Nat) : Int) = (t : Int) * (k : Int) := Int.natCast_mul ..
    omega
  omega
theorem it_rng3 {Γ : Gam} {a b e : C} {x y z : Int} {ρ ρ1 ρ2 ρ3 : Lo} (ha : a.den Γ ρ = some (.va (.int x), ρ1)) (hb : b.den Γ ρ1 = some (.va (.int y), ρ2)) (hc : e.den Γ ρ2 = some (.va (.int z), ρ3)) (h : -1000000 ≤ x ∧ x ≤ 1000000 ∧ -1000000 ≤ y ∧ y ≤ 1000000) (hz : 0 < z ∧ z ≤ 1000000) :
    (Ci.rngD a b e).den Γ ρ = some (rngN x z (stepsUp x y z), ρ3) := by
  simp only [Ci.den, fR3, fsCons, fsNil, fV]
  rw [ha]
  simp only [Option.map_some, Option.bind_some, half]
  rw [hb]
  simp only [Option.map_some, Option.bind_some, half]
  rw [hc]
  simp only [Option.map_some, Option.bind_some, half, vws, vw]
  rw [if_neg (fun q => by omega), if_pos ⟨hz, h⟩]
theorem rows_ok {m k p : Nat} {c : List Bool} (hl : c.length ≤ 1000) (hd : k ≤ 62) : (C.ite (.cmp .gt (.var 2) (.int 0)) q_ldrawn_0 (.lst (.cons (.tup .nil) .nil))).den g_ldrawn (stL m c k p .no .no .no .no .no) = some (.ls (rowsL k c (turnsOf k c)), stL m c k p .no .no .no .no .no) := by
  by_cases h0 : 0 < k
  · have e0 : (C.cmp .gt (.var 2) (.int 0)).denT g_ldrawn (stL m c k p .no .no .no .no .no) = some (true, stL m c k p .no .no .no .no .no) := by
      unfold stL nI
      simp [Den.Cd.denD, Den.fsStar, Den.f1, Den.fExt, Den.fRep, Den.fTr, Den.fCh, Den.opI, Den.opB, Den.opC, Den.opM, Den.bodyRun, Den.Ss.den, Den.S.den, Den.C.den, Den.C.denT, Den.Cs.denA, Den.Cs.denO, Den.Cs.denAT, Den.Cs.denOT, Den.Cs.denV, Den.Cs.denF, Den.Co.den, Den.Co.denT, Den.Ci.den, Den.Tg.den, Den.Tg.dens, Den.Tg.slots, Den.Tg.slotsL, Den.parL, Den.fSeq, Den.fRet, Den.fRetN, Den.fNop, Den.fBk, Den.fCt, Den.fSet, Den.fO, Den.fDrop, Den.SlOf, Den.notBg, Den.fIfS, Den.fIf, Den.fT, Den.truth, Den.fAnd, Den.fOr, Den.fNot, Den.fAndV, Den.fOrV, Den.fNotV, Den.isB, Den.fV, Den.fF, Den.frz, Den.half, Den.vw, Den.vws, Den.f1, Den.f2, Den.fL, Den.fM, Den.fVar, Den.fC, Den.fTup, Den.fLst, Den.fsCons, Den.fsNil, Den.fSetIx, Den.fAugIx, Den.fAug, Den.asInt, Den.items, Den.putItems, Den.sameKind, Den.fMut, Den.φApp, Den.φIns, Den.fCall, Den.fCallM, Den.fPar, Den.fPar3, Den.fAsg, Den.gNm, Den.gTp, Den.gsCons, Den.gsNil, Den.fSl, Den.fPt, Den.φSl, Den.add_int, Den.sub_int, Den.φNeg, Den.φCmp, Den.φIs, Den.φIsNot, Den.isNone, Den.len_lst, Den.len_tup, Den.φAbs, Den.φInt, Den.φTuple, Den.φList, Den.fdmt, Den.fdnp, L2.ixN, Den.eq_str, Den.ne_str, Den.eq_int, Den.ne_int, Den.ix_lst, Den.ix_tup, Den.at_zero, Den.at_one, Den.at_two, Den.at_three, Den.lim_lit, h0]
    have e1 : q_ldrawn_0.den g_ldrawn (stL m c k p .no .no .no .no .no) = some (.ls (rowsL k c (turnsOf k c)), stL m c k p .no .no .no .no .no) := by
      have q : q_ldrawn_0.den g_ldrawn (stL m c k p .no .no .no .no .no) = some (.ls (((List.range (turnsOf k c)).filter fun _ => true).map fun t => .tuple (cD (blk k c t))), stL m c k p .no .no .no .no .no) := by
        unfold q_ldrawn_0
        refine lc1 (l := List.range (turnsOf k c)) (f := fun t : Nat => .int (0 + (t : Int) * (k : Int))) (s := .no) (ρ1 := stL m c k p .no .no .no .no .no) ?_ (by rw [List.length_range]; have := turns_le (k := k) (c := c); show _ ≤ 1000000; omega) rfl (fun t ht => by rfl) (fun t ht _ => ?_)
        · have hT : turnsOf k c = stepsUp 0 (c.length : Int) (k : Int) := by unfold turnsOf; rw [if_pos h0]
          rw [hT]
          exact it_rng3 (x := 0) (y := (c.length : Int)) (z := (k : Int)) (ρ1 := stL m c k p .no .no .no .no .no) (ρ2 := stL m c k p .no .no .no .no .no) (by simp [Den.Cd.denD, Den.fsStar, Den.f1, Den.fExt, Den.fRep, Den.fTr, Den.fCh, Den.opI, Den.opB, Den.opC, Den.opM, Den.bodyRun, Den.Ss.den, Den.S.den, Den.C.den, Den.C.denT, Den.Cs.denA, Den.Cs.denO, Den.Cs.denAT, Den.Cs.denOT, Den.Cs.denV, Den.Cs.denF, Den.Co.den, Den.Co.denT, Den.Ci.den, Den.Tg.den, Den.Tg.dens, Den.Tg.slots, Den.Tg.slotsL, Den.parL, Den.fSeq, Den.fRet, Den.fRetN, Den.fNop, Den.fBk, Den.fCt, Den.fSet, Den.fO, Den.fDrop, Den.SlOf, Den.notBg, Den.fIfS, Den.fIf, Den.fT, Den.truth, Den.fAnd, Den.fOr, Den.fNot, Den.fAndV, Den.fOrV, Den.fNotV, Den.isB, Den.fV, Den.fF, Den.frz, Den.half, Den.vw, Den.vws, Den.f1, Den.f2, Den.fL, Den.fM, Den.fVar, Den.fC, Den.fTup, Den.fLst, Den.fsCons, Den.fsNil, Den.fSetIx, Den.fAugIx, Den.fAug, Den.asInt, Den.items, Den.putItems, Den.sameKind, Den.fMut, Den.φApp, Den.φIns, Den.fCall, Den.fCallM, Den.fPar, Den.fPar3, Den.fAsg, Den.gNm, Den.gTp, Den.gsCons, Den.gsNil, Den.fSl, Den.fPt, Den.φSl, Den.add_int, Den.sub_int, Den.φNeg, Den.φCmp, Den.φIs, Den.φIsNot, Den.isNone, Den.len_lst, Den.len_tup, Den.φAbs, Den.φInt, Den.φTuple, Den.φList, Den.fdmt, Den.fdnp, L2.ixN, Den.eq_str, Den.ne_str, Den.eq_int, Den.ne_int, Den.ix_lst, Den.ix_tup, Den.at_zero, Den.at_one, Den.at_two, Den.at_three, Den.lim_lit]) (by unfold stL; simp [Den.Cd.denD, Den.fsStar, Den.f1, Den.fExt, Den.fRep, Den.fTr, Den.fCh, Den.opI, Den.opB, Den.opC, Den.opM, Den.bodyRun, Den.Ss.den, Den.S.den, Den.C.den, Den.C.denT, Den.Cs.denA, Den.Cs.denO, Den.Cs.denAT, Den.Cs.denOT, Den.Cs.denV, Den.Cs.denF, Den.Co.den, Den.Co.denT, Den.Ci.den, Den.Tg.den, Den.Tg.dens, Den.Tg.slots, Den.Tg.slotsL, Den.parL, Den.fSeq, Den.fRet, Den.fRetN, Den.fNop, Den.fBk, Den.fCt, Den.fSet, Den.fO, Den.fDrop, Den.SlOf, Den.notBg, Den.fIfS, Den.fIf, Den.fT, Den.truth, Den.fAnd, Den.fOr, Den.fNot, Den.fAndV, Den.fOrV, Den.fNotV, Den.isB, Den.fV, Den.fF, Den.frz, Den.half, Den.vw, Den.vws, Den.f1, Den.f2, Den.fL, Den.fM, Den.fVar, Den.fC, Den.fTup, Den.fLst, Den.fsCons, Den.fsNil, Den.fSetIx, Den.fAugIx, Den.fAug, Den.asInt, Den.items, Den.putItems, Den.sameKind, Den.fMut, Den.φApp, Den.φIns, Den.fCall, Den.fCallM, Den.fPar, Den.fPar3, Den.fAsg, Den.gNm, Den.gTp, Den.gsCons, Den.gsNil, Den.fSl, Den.fPt, Den.φSl, Den.add_int, Den.sub_int, Den.φNeg, Den.φCmp, Den.φIs, Den.φIsNot, Den.isNone, Den.len_lst, Den.len_tup, Den.φAbs, Den.φInt, Den.φTuple, Den.φList, Den.fdmt, Den.fdnp, L2.ixN, Den.eq_str, Den.ne_str, Den.eq_int, Den.ne_int, Den.ix_lst, Den.ix_tup, Den.at_zero, Den.at_one, Den.at_two, Den.at_three, Den.lim_lit, cD_len]) (by unfold stL nI; simp [Den.Cd.denD, Den.fsStar, Den.f1, Den.fExt, Den.fRep, Den.fTr, Den.fCh, Den.opI, Den.opB, Den.opC, Den.opM, Den.bodyRun, Den.Ss.den, Den.S.den, Den.C.den, Den.C.denT, Den.Cs.denA, Den.Cs.denO, Den.Cs.denAT, Den.Cs.denOT, Den.Cs.denV, Den.Cs.denF, Den.Co.den, Den.Co.denT, Den.Ci.den, Den.Tg.den, Den.Tg.dens, Den.Tg.slots, Den.Tg.slotsL, Den.parL, Den.fSeq, Den.fRet, Den.fRetN, Den.fNop, Den.fBk, Den.fCt, Den.fSet, Den.fO, Den.fDrop, Den.SlOf, Den.notBg, Den.fIfS, Den.fIf, Den.fT, Den.truth, Den.fAnd, Den.fOr, Den.fNot, Den.fAndV, Den.fOrV, Den.fNotV, Den.isB, Den.fV, Den.fF, Den.frz, Den.half, Den.vw, Den.vws, Den.f1, Den.f2, Den.fL, Den.fM, Den.fVar, Den.fC, Den.fTup, Den.fLst, Den.fsCons, Den.fsNil, Den.fSetIx, Den.fAugIx, Den.fAug, Den.asInt, Den.items, Den.putItems, Den.sameKind, Den.fMut, Den.φApp, Den.φIns, Den.fCall, Den.fCallM, Den.fPar, Den.fPar3, Den.fAsg, Den.gNm, Den.gTp, Den.gsCons, Den.gsNil, Den.fSl, Den.fPt, Den.φSl, Den.add_int, Den.sub_int, Den.φNeg, Den.φCmp, Den.φIs, Den.φIsNot, Den.isNone, Den.len_lst, Den.len_tup, Den.φAbs, Den.φInt, Den.φTuple, Den.φList, Den.fdmt, Den.fdnp, L2.ixN, Den.eq_str, Den.ne_str, Den.eq_int, Den.ne_int, Den.ix_lst, Den.ix_tup, Den.at_zero, Den.at_one, Den.at_two, Den.at_three, Den.lim_lit]) ⟨by omega, by omega, by omega, by omega⟩ ⟨by omega, by omega⟩
        · have e2 : ((0 : Int) + (t : Int) * (k : Int)) = ((t * k : Nat) : Int) := by rw [Int.natCast_mul]; omega
          rw [e2]
          have e3 : blk k c t = (c.drop (t * k)).take (t * k + k - t * k) := by
            unfold blk
            rw [Nat.add_sub_cancel_left]
          rw [e3, ← cut_bits]
          unfold stL nI
          generalize t * k = a
          rw [Int.natCast_add]
          simp [Den.Cd.denD, Den.fsStar, Den.f1, Den.fExt, Den.fRep, Den.fTr, Den.fCh, Den.opI, Den.opB, Den.opC, Den.opM, Den.bodyRun, Den.Ss.den, Den.S.den, Den.C.den, Den.C.denT, Den.Cs.denA, Den.Cs.denO, Den.Cs.denAT, Den.Cs.denOT, Den.Cs.denV, Den.Cs.denF, Den.Co.den, Den.Co.denT, Den.Ci.den, Den.Tg.den, Den.Tg.dens, Den.Tg.slots, Den.Tg.slotsL, Den.parL, Den.fSeq, Den.fRet, Den.fRetN, Den.fNop, Den.fBk, Den.fCt, Den.fSet, Den.fO, Den.fDrop, Den.SlOf, Den.notBg, Den.fIfS, Den.fIf, Den.fT, Den.truth, Den.fAnd, Den.fOr, Den.fNot, Den.fAndV, Den.fOrV, Den.fNotV, Den.isB, Den.fV, Den.fF, Den.frz, Den.half, Den.vw, Den.vws, Den.f1, Den.f2, Den.fL, Den.fM, Den.fVar, Den.fC, Den.fTup, Den.fLst, Den.fsCons, Den.fsNil, Den.fSetIx, Den.fAugIx, Den.fAug, Den.asInt, Den.items, Den.putItems, Den.sameKind, Den.fMut, Den.φApp, Den.φIns, Den.fCall, Den.fCallM, Den.fPar, Den.fPar3, Den.fAsg, Den.gNm, Den.gTp, Den.gsCons, Den.gsNil, Den.fSl, Den.fPt, Den.φSl, Den.add_int, Den.sub_int, Den.φNeg, Den.φCmp, Den.φIs, Den.φIsNot, Den.isNone, Den.len_lst, Den.len_tup, Den.φAbs, Den.φInt, Den.φTuple, Den.φList, Den.fdmt, Den.fdnp, L2.ixN, Den.eq_str, Den.ne_str, Den.eq_int, Den.ne_int, Den.ix_lst, Den.ix_tup, Den.at_zero, Den.at_one, Den.at_two, Den.at_three, Den.lim_lit]
      rw [List.filter_eq_self.mpr (fun _ _ => rfl)] at q
      exact q
    simp only [C.den, fIf] at e0 e1 ⊢
    rw [e0, Option.bind_some]
    exact e1
  · have hk0 : k = 0 := by omega
    subst hk0
    unfold stL nI rowsL turnsOf blk
    simp [Den.Cd.denD, Den.fsStar, Den.f1, Den.fExt, Den.fRep, Den.fTr, Den.fCh, Den.opI, Den.opB, Den.opC, Den.opM, Den.bodyRun, Den.Ss.den, Den.S.den, Den.C.den, Den.C.denT, Den.Cs.denA, Den.Cs.denO, Den.Cs.denAT, Den.Cs.denOT, Den.Cs.denV, Den.Cs.denF, Den.Co.den, Den.Co.denT, Den.Ci.den, Den.Tg.den, Den.Tg.dens, Den.Tg.slots, Den.Tg.slotsL, Den.parL, Den.fSeq, Den.fRet, Den.fRetN, Den.fNop, Den.fBk, Den.fCt, Den.fSet, Den.fO, Den.fDrop, Den.SlOf, Den.notBg, Den.fIfS, Den.fIf, Den.fT, Den.truth, Den.fAnd, Den.fOr, Den.fNot, Den.fAndV, Den.fOrV, Den.fNotV, Den.isB, Den.fV, Den.fF, Den.frz, Den.half, Den.vw, Den.vws, Den.f1, Den.f2, Den.fL, Den.fM, Den.fVar, Den.fC, Den.fTup, Den.fLst, Den.fsCons, Den.fsNil, Den.fSetIx, Den.fAugIx, Den.fAug, Den.asInt, Den.items, Den.putItems, Den.sameKind, Den.fMut, Den.φApp, Den.φIns, Den.fCall, Den.fCallM, Den.fPar, Den.fPar3, Den.fAsg, Den.gNm, Den.gTp, Den.gsCons, Den.gsNil, Den.fSl, Den.fPt, Den.φSl, Den.add_int, Den.sub_int, Den.φNeg, Den.φCmp, Den.φIs, Den.φIsNot, Den.isNone, Den.len_lst, Den.len_tup, Den.φAbs, Den.φInt, Den.φTuple, Den.φList, Den.fdmt, Den.fdnp, L2.ixN, Den.eq_str, Den.ne_str, Den.eq_int, Den.ne_int, Den.ix_lst, Den.ix_tup, Den.at_zero, Den.at_one, Den.at_two, Den.at_three, Den.lim_lit, cD]
theorem step2 {a b : D} {x y : Int} : (S.asg (.tp [(.nm 2), (.nm 3)]) (.tup (.cons (.bin .add (.var 2) (.int 1)) (.cons (.bin .mul (.var 3) (.int 2)) .nil)))).den g_ldrawn [.va a, .va b, .va (.int x), .va (.int y), .no, .no, .no, .no, .no] =
    some (.nx, [.va a, .va b, .va (.int (x + 1)), .va (.int (y * 2)), .no, .no, .no, .no, .no]) := by
  have e2 : φMul (.int y) (.int 2) = some (.va (.int (y * 2))) := mul_small (.inr (by omega))
  simp [Den.Cd.denD, Den.fsStar, Den.f1, Den.fExt, Den.fRep, Den.fTr, Den.fCh, Den.opI, Den.opB, Den.opC, Den.opM, Den.bodyRun, Den.Ss.den, Den.S.den, Den.C.den, Den.C.denT, Den.Cs.denA, Den.Cs.denO, Den.Cs.denAT, Den.Cs.denOT, Den.Cs.denV, Den.Cs.denF, Den.Co.den, Den.Co.denT, Den.Ci.den, Den.Tg.den, Den.Tg.dens, Den.Tg.slots, Den.Tg.slotsL, Den.parL, Den.fSeq, Den.fRet, Den.fRetN, Den.fNop, Den.fBk, Den.fCt, Den.fSet, Den.fO, Den.fDrop, Den.SlOf, Den.notBg, Den.fIfS, Den.fIf, Den.fT, Den.truth, Den.fAnd, Den.fOr, Den.fNot, Den.fAndV, Den.fOrV, Den.fNotV, Den.isB, Den.fV, Den.fF, Den.frz, Den.half, Den.vw, Den.vws, Den.f1, Den.f2, Den.fL, Den.fM, Den.fVar, Den.fC, Den.fTup, Den.fLst, Den.fsCons, Den.fsNil, Den.fSetIx, Den.fAugIx, Den.fAug, Den.asInt, Den.items, Den.putItems, Den.sameKind, Den.fMut, Den.φApp, Den.φIns, Den.fCall, Den.fCallM, Den.fPar, Den.fPar3, Den.fAsg, Den.gNm, Den.gTp, Den.gsCons, Den.gsNil, Den.fSl, Den.fPt, Den.φSl, Den.add_int, Den.sub_int, Den.φNeg, Den.φCmp, Den.φIs, Den.φIsNot, Den.isNone, Den.len_lst, Den.len_tup, Den.φAbs, Den.φInt, Den.φTuple, Den.φList, Den.fdmt, Den.fdnp, L2.ixN, Den.eq_str, Den.ne_str, Den.eq_int, Den.ne_int, Den.ix_lst, Den.ix_tup, Den.at_zero, Den.at_one, Den.at_two, Den.at_three, Den.lim_lit, e2]
theorem s1_ok {a0 a1 a2 a3 : D} {s4 : Sl} {a5 a6 : D} {x : Int} {b : Bool} : (S.set 7 (.bin .add (.bin .mul (.var 7) (.int 2)) (.blt .int (.cons (.var 8) .nil)))).den g_ldrawn [.va a0, .va a1, .va a2, .va a3, s4, .va a5, .va a6, .va (.int x), .va (.bool b)] =
    some (.nx, [.va a0, .va a1, .va a2, .va a3, s4, .va a5, .va a6, .va (.int (x * 2 + if b = true then 1 else 0)), .va (.bool b)]) := by
  have e2 : φMul (.int x) (.int 2) = some (.va (.int (x * 2))) := mul_small (.inr (by omega))
  simp [Den.Cd.denD, Den.fsStar, Den.f1, Den.fExt, Den.fRep, Den.fTr, Den.fCh, Den.opI, Den.opB, Den.opC, Den.opM, Den.bodyRun, Den.Ss.den, Den.S.den, Den.C.den, Den.C.denT, Den.Cs.denA, Den.Cs.denO, Den.Cs.denAT, Den.Cs.denOT, Den.Cs.denV, Den.Cs.denF, Den.Co.den, Den.Co.denT, Den.Ci.den, Den.Tg.den, Den.Tg.dens, Den.Tg.slots, Den.Tg.slotsL, Den.parL, Den.fSeq, Den.fRet, Den.fRetN, Den.fNop, Den.fBk, Den.fCt, Den.fSet, Den.fO, Den.fDrop, Den.SlOf, Den.notBg, Den.fIfS, Den.fIf, Den.fT, Den.truth, Den.fAnd, Den.fOr, Den.fNot, Den.fAndV, Den.fOrV, Den.fNotV, Den.isB, Den.fV, Den.fF, Den.frz, Den.half, Den.vw, Den.vws, Den.f1, Den.f2, Den.fL, Den.fM, Den.fVar, Den.fC, Den.fTup, Den.fLst, Den.fsCons, Den.fsNil, Den.fSetIx, Den.fAugIx, Den.fAug, Den.asInt, Den.items, Den.putItems, Den.sameKind, Den.fMut, Den.φApp, Den.φIns, Den.fCall, Den.fCallM, Den.fPar, Den.fPar3, Den.fAsg, Den.gNm, Den.gTp, Den.gsCons, Den.gsNil, Den.fSl, Den.fPt, Den.φSl, Den.add_int, Den.sub_int, Den.φNeg, Den.φCmp, Den.φIs, Den.φIsNot, Den.isNone, Den.len_lst, Den.len_tup, Den.φAbs, Den.φInt, Den.φTuple, Den.φList, Den.fdmt, Den.fdnp, L2.ixN, Den.eq_str, Den.ne_str, Den.eq_int, Den.ne_int, Den.ix_lst, Den.ix_tup, Den.at_zero, Den.at_one, Den.at_two, Den.at_three, Den.lim_lit, e2]
theorem s2_ok {a0 a1 a3 : D} {s4 s8 : Sl} {a6 : D} {v k t : Int} (h : -(2 ^ 64) < t + 1 ∧ t + 1 < 2 ^ 64) : (S.ret (.tup (.cons (.var 7) (.cons (.bin .mul (.bin .add (.var 5) (.int 1)) (.var 2)) .nil)))).den g_ldrawn [.va a0, .va a1, .va (.int k), .va a3, s4, .va (.int t), .va a6, .va (.int v), s8] =
    some (.rt (.va (.tuple [.int v, .int ((t + 1) * k)])), [.va a0, .va a1, .va (.int k), .va a3, s4, .va (.int t), .va a6, .va (.int v), s8]) := by
  have e2 : φMul (.int (t + 1)) (.int k) = some (.va (.int ((t + 1) * k))) := mul_small (.inl h)
  simp [Den.Cd.denD, Den.fsStar, Den.f1, Den.fExt, Den.fRep, Den.fTr, Den.fCh, Den.opI, Den.opB, Den.opC, Den.opM, Den.bodyRun, Den.Ss.den, Den.S.den, Den.C.den, Den.C.denT, Den.Cs.denA, Den.Cs.denO, Den.Cs.denAT, Den.Cs.denOT, Den.Cs.denV, Den.Cs.denF, Den.Co.den, Den.Co.denT, Den.Ci.den, Den.Tg.den, Den.Tg.dens, Den.Tg.slots, Den.Tg.slotsL, Den.parL, Den.fSeq, Den.fRet, Den.fRetN, Den.fNop, Den.fBk, Den.fCt, Den.fSet, Den.fO, Den.fDrop, Den.SlOf, Den.notBg, Den.fIfS, Den.fIf, Den.fT, Den.truth, Den.fAnd, Den.fOr, Den.fNot, Den.fAndV, Den.fOrV, Den.fNotV, Den.isB, Den.fV, Den.fF, Den.frz, Den.half, Den.vw, Den.vws, Den.f1, Den.f2, Den.fL, Den.fM, Den.fVar, Den.fC, Den.fTup, Den.fLst, Den.fsCons, Den.fsNil, Den.fSetIx, Den.fAugIx, Den.fAug, Den.asInt, Den.items, Den.putItems, Den.sameKind, Den.fMut, Den.φApp, Den.φIns, Den.fCall, Den.fCallM, Den.fPar, Den.fPar3, Den.fAsg, Den.gNm, Den.gTp, Den.gsCons, Den.gsNil, Den.fSl, Den.fPt, Den.φSl, Den.add_int, Den.sub_int, Den.φNeg, Den.φCmp, Den.φIs, Den.φIsNot, Den.isNone, Den.len_lst, Den.len_tup, Den.φAbs, Den.φInt, Den.φTuple, Den.φList, Den.fdmt, Den.fdnp, L2.ixN, Den.eq_str, Den.ne_str, Den.eq_int, Den.ne_int, Den.ix_lst, Den.ix_tup, Den.at_zero, Den.at_one, Den.at_two, Den.at_three, Den.lim_lit, e2]
theorem inner_ok {m k p t : Nat} {c B : List Bool} {s4 s8 : Sl} (p8 : Nb s8) : Ok ((S.fors (.nm 8) (.seq (.var 6)) b_ldrawn_1).den g_ldrawn (stL m c k p s4 (.va (nI t)) (.va (.tuple (cD B))) (.va (nI 0)) s8)) fun o ρ => o = .nx ∧ ∃ s8, Nb s8 ∧ ρ = stL m c k p s4 (.va (nI t)) (.va (.tuple (cD B))) (.va (nI (val B))) s8 := by
  refine ok_for (ds := cD B) (ρ1 := stL m c k p s4 (.va (nI t)) (.va (.tuple (cD B))) (.va (nI 0)) s8) (fun ds ρ => ∃ a rest s8, ds = cD rest ∧ valF a rest = val B ∧ Nb s8 ∧ ρ = stL m c k p s4 (.va (nI t)) (.va (.tuple (cD B))) (.va (nI a)) s8) (by unfold stL; simp [Den.Cd.denD, Den.fsStar, Den.f1, Den.fExt, Den.fRep, Den.fTr, Den.fCh, Den.opI, Den.opB, Den.opC, Den.opM, Den.bodyRun, Den.Ss.den, Den.S.den, Den.C.den, Den.C.denT, Den.Cs.denA, Den.Cs.denO, Den.Cs.denAT, Den.Cs.denOT, Den.Cs.denV, Den.Cs.denF, Den.Co.den, Den.Co.denT, Den.Ci.den, Den.Tg.den, Den.Tg.dens, Den.Tg.slots, Den.Tg.slotsL, Den.parL, Den.fSeq, Den.fRet, Den.fRetN, Den.fNop, Den.fBk, Den.fCt, Den.fSet, Den.fO, Den.fDrop, Den.SlOf, Den.notBg, Den.fIfS, Den.fIf, Den.fT, Den.truth, Den.fAnd, Den.fOr, Den.fNot, Den.fAndV, Den.fOrV, Den.fNotV, Den.isB, Den.fV, Den.fF, Den.frz, Den.half, Den.vw, Den.vws, Den.f1, Den.f2, Den.fL, Den.fM, Den.fVar, Den.fC, Den.fTup, Den.fLst, Den.fsCons, Den.fsNil, Den.fSetIx, Den.fAugIx, Den.fAug, Den.asInt, Den.items, Den.putItems, Den.sameKind, Den.fMut, Den.φApp, Den.φIns, Den.fCall, Den.fCallM, Den.fPar, Den.fPar3, Den.fAsg, Den.gNm, Den.gTp, Den.gsCons, Den.gsNil, Den.fSl, Den.fPt, Den.φSl, Den.add_int, Den.sub_int, Den.φNeg, Den.φCmp, Den.φIs, Den.φIsNot, Den.isNone, Den.len_lst, Den.len_tup, Den.φAbs, Den.φInt, Den.φTuple, Den.φList, Den.fdmt, Den.fdnp, L2.ixN, Den.eq_str, Den.ne_str, Den.eq_int, Den.ne_int, Den.ix_lst, Den.ix_tup, Den.at_zero, Den.at_one, Den.at_two, Den.at_three, Den.lim_lit, fIt, its]) ⟨0, B, s8, rfl, rfl, p8, rfl⟩ ?_ ?_
  · rintro d ds ρ ⟨a, rest, s8, hd, hv, p8, rfl⟩
    cases rest with
    | nil => cases hd
    | cons b rest =>
      obtain ⟨h1, h2⟩ := List.cons.inj (show d :: ds = .bool b :: cD rest from hd)
      subst h1 h2
      refine ⟨stL m c k p s4 (.va (nI t)) (.va (.tuple (cD B))) (.va (nI a)) (.va (.bool b)), nm_ok p8 rfl rfl, ?_⟩
      have e3 : ((a : Int) * 2 + (if b = true then 1 else 0)) = ((2 * a + bN b : Nat) : Int) := by
        unfold bN
        cases b <;> simp <;> omega
      refine ok_step (ρ1 := stL m c k p s4 (.va (nI t)) (.va (.tuple (cD B))) (.va (nI (2 * a + bN b))) (.va (.bool b))) ?_ (ok_nil ⟨_, rest, _, rfl, by rw [← valF_cons]; exact hv, nb_va, rfl⟩)
      unfold stL nI
      rw [← e3]
      exact s1_ok (x := (a : Int))
  · rintro ρ ⟨a, rest, s8, hd, hv, p8, rfl⟩
    cases rest with
    | cons b rest => cases hd
    | nil =>
      have hav : a = val B := hv
      subst hav
      exact ⟨rfl, s8, p8, rfl⟩
theorem turn_ok {m k p t : Nat} {c B : List Bool} {s4 s7 s8 : Sl} (ht : t ≤ 10000) (p7 : Nb s7) (p8 : Nb s8) : Ok (b_ldrawn_2.den g_ldrawn (stL m c k p s4 (.va (nI t)) (.va (.tuple (cD B))) s7 s8)) fun o ρ =>
    (B.length = k ∧ val B < m ∧ o = .rt (.va (resD (val B) ((t + 1) * k)))) ∨ (¬ (B.length = k ∧ val B < m) ∧ o = .nx ∧ ∃ s7 s8, Nb s7 ∧ Nb s8 ∧ ρ = stL m c k p s4 (.va (nI t)) (.va (.tuple (cD B))) s7 s8) := by
  refine ok_step (ρ1 := stL m c k p s4 (.va (nI t)) (.va (.tuple (cD B))) (.va (nI 0)) s8) (by
    unfold stL nI
    cases s7 <;> first | cases p7; done | simp [Den.Cd.denD, Den.fsStar, Den.f1, Den.fExt, Den.fRep, Den.fTr, Den.fCh, Den.opI, Den.opB, Den.opC, Den.opM, Den.bodyRun, Den.Ss.den, Den.S.den, Den.C.den, Den.C.denT, Den.Cs.denA, Den.Cs.denO, Den.Cs.denAT, Den.Cs.denOT, Den.Cs.denV, Den.Cs.denF, Den.Co.den, Den.Co.denT, Den.Ci.den, Den.Tg.den, Den.Tg.dens, Den.Tg.slots, Den.Tg.slotsL, Den.parL, Den.fSeq, Den.fRet, Den.fRetN, Den.fNop, Den.fBk, Den.fCt, Den.fSet, Den.fO, Den.fDrop, Den.SlOf, Den.notBg, Den.fIfS, Den.fIf, Den.fT, Den.truth, Den.fAnd, Den.fOr, Den.fNot, Den.fAndV, Den.fOrV, Den.fNotV, Den.isB, Den.fV, Den.fF, Den.frz, Den.half, Den.vw, Den.vws, Den.f1, Den.f2, Den.fL, Den.fM, Den.fVar, Den.fC, Den.fTup, Den.fLst, Den.fsCons, Den.fsNil, Den.fSetIx, Den.fAugIx, Den.fAug, Den.asInt, Den.items, Den.putItems, Den.sameKind, Den.fMut, Den.φApp, Den.φIns, Den.fCall, Den.fCallM, Den.fPar, Den.fPar3, Den.fAsg, Den.gNm, Den.gTp, Den.gsCons, Den.gsNil, Den.fSl, Den.fPt, Den.φSl, Den.add_int, Den.sub_int, Den.φNeg, Den.φCmp, Den.φIs, Den.φIsNot, Den.isNone, Den.len_lst, Den.len_tup, Den.φAbs, Den.φInt, Den.φTuple, Den.φList, Den.fdmt, Den.fdnp, L2.ixN, Den.eq_str, Den.ne_str, Den.eq_int, Den.ne_int, Den.ix_lst, Den.ix_tup, Den.at_zero, Den.at_one, Den.at_two, Den.at_three, Den.lim_lit]) ?_
  refine ok_cons (ok_mono (inner_ok p8) ?_)
  rintro o ρ ⟨rfl, s8, p8, rfl⟩
  refine ok_cons (ok_if (v := decide (B.length = k) && decide (val B < m)) (ρ1 := stL m c k p s4 (.va (nI t)) (.va (.tuple (cD B))) (.va (nI (val B))) s8) ?_ (fun hw => ?_) (fun hw => ?_))
  · unfold stL nI
    generalize val B = v
    by_cases hh : B.length = k
    · simp [Den.Cd.denD, Den.fsStar, Den.f1, Den.fExt, Den.fRep, Den.fTr, Den.fCh, Den.opI, Den.opB, Den.opC, Den.opM, Den.bodyRun, Den.Ss.den, Den.S.den, Den.C.den, Den.C.denT, Den.Cs.denA, Den.Cs.denO, Den.Cs.denAT, Den.Cs.denOT, Den.Cs.denV, Den.Cs.denF, Den.Co.den, Den.Co.denT, Den.Ci.den, Den.Tg.den, Den.Tg.dens, Den.Tg.slots, Den.Tg.slotsL, Den.parL, Den.fSeq, Den.fRet, Den.fRetN, Den.fNop, Den.fBk, Den.fCt, Den.fSet, Den.fO, Den.fDrop, Den.SlOf, Den.notBg, Den.fIfS, Den.fIf, Den.fT, Den.truth, Den.fAnd, Den.fOr, Den.fNot, Den.fAndV, Den.fOrV, Den.fNotV, Den.isB, Den.fV, Den.fF, Den.frz, Den.half, Den.vw, Den.vws, Den.f1, Den.f2, Den.fL, Den.fM, Den.fVar, Den.fC, Den.fTup, Den.fLst, Den.fsCons, Den.fsNil, Den.fSetIx, Den.fAugIx, Den.fAug, Den.asInt, Den.items, Den.putItems, Den.sameKind, Den.fMut, Den.φApp, Den.φIns, Den.fCall, Den.fCallM, Den.fPar, Den.fPar3, Den.fAsg, Den.gNm, Den.gTp, Den.gsCons, Den.gsNil, Den.fSl, Den.fPt, Den.φSl, Den.add_int, Den.sub_int, Den.φNeg, Den.φCmp, Den.φIs, Den.φIsNot, Den.isNone, Den.len_lst, Den.len_tup, Den.φAbs, Den.φInt, Den.φTuple, Den.φList, Den.fdmt, Den.fdnp, L2.ixN, Den.eq_str, Den.ne_str, Den.eq_int, Den.ne_int, Den.ix_lst, Den.ix_tup, Den.at_zero, Den.at_one, Den.at_two, Den.at_three, Den.lim_lit, cD_len, hh, lt_nat]
    · have hh2 : ¬ ((B.length : Int) = (k : Int)) := by omega
      simp [Den.Cd.denD, Den.fsStar, Den.f1, Den.fExt, Den.fRep, Den.fTr, Den.fCh, Den.opI, Den.opB, Den.opC, Den.opM, Den.bodyRun, Den.Ss.den, Den.S.den, Den.C.den, Den.C.denT, Den.Cs.denA, Den.Cs.denO, Den.Cs.denAT, Den.Cs.denOT, Den.Cs.denV, Den.Cs.denF, Den.Co.den, Den.Co.denT, Den.Ci.den, Den.Tg.den, Den.Tg.dens, Den.Tg.slots, Den.Tg.slotsL, Den.parL, Den.fSeq, Den.fRet, Den.fRetN, Den.fNop, Den.fBk, Den.fCt, Den.fSet, Den.fO, Den.fDrop, Den.SlOf, Den.notBg, Den.fIfS, Den.fIf, Den.fT, Den.truth, Den.fAnd, Den.fOr, Den.fNot, Den.fAndV, Den.fOrV, Den.fNotV, Den.isB, Den.fV, Den.fF, Den.frz, Den.half, Den.vw, Den.vws, Den.f1, Den.f2, Den.fL, Den.fM, Den.fVar, Den.fC, Den.fTup, Den.fLst, Den.fsCons, Den.fsNil, Den.fSetIx, Den.fAugIx, Den.fAug, Den.asInt, Den.items, Den.putItems, Den.sameKind, Den.fMut, Den.φApp, Den.φIns, Den.fCall, Den.fCallM, Den.fPar, Den.fPar3, Den.fAsg, Den.gNm, Den.gTp, Den.gsCons, Den.gsNil, Den.fSl, Den.fPt, Den.φSl, Den.add_int, Den.sub_int, Den.φNeg, Den.φCmp, Den.φIs, Den.φIsNot, Den.isNone, Den.len_lst, Den.len_tup, Den.φAbs, Den.φInt, Den.φTuple, Den.φList, Den.fdmt, Den.fdnp, L2.ixN, Den.eq_str, Den.ne_str, Den.eq_int, Den.ne_int, Den.ix_lst, Den.ix_tup, Den.at_zero, Den.at_one, Den.at_two, Den.at_three, Den.lim_lit, cD_len, hh, hh2, lt_nat]
  · simp only [Bool.and_eq_true, decide_eq_true_eq] at hw
    have e4 : (((t : Int) + 1) * (k : Int)) = (((t + 1) * k : Nat) : Int) := by
      rw [Int.natCast_mul, show (((t + 1 : Nat)) : Int) = (t : Int) + 1 by omega]
    refine ok_last (r := .va (resD (val B) ((t + 1) * k))) (ρ1 := stL m c k p s4 (.va (nI t)) (.va (.tuple (cD B))) (.va (nI (val B))) s8) ?_ (.inl ⟨hw.1, hw.2, rfl⟩)
    unfold stL resD nI
    rw [← e4]
    exact s2_ok (t := (t : Int)) (k := (k : Int)) (by omega)
  · have hw2 : ¬ (B.length = k ∧ val B < m) := fun z => by
      rw [decide_eq_true z.1, decide_eq_true z.2] at hw
      cases hw
    exact ok_nil (ok_nil (.inr ⟨hw2, rfl, _, s8, nb_va, p8, rfl⟩))
theorem ldrawn_ok {m : Nat} {c : List Bool} (hm : 1 ≤ m) (hm2 : m ≤ 2 ^ 62) (hl : c.length ≤ 1000) : ∃ R, Drn (kOf m) m c R ∧ d_ldrawn.run [] [nI m, .tuple (cD c)] = some (.va R, []) := by
  suffices q : Ans (d_ldrawn.run [] [nI m, .tuple (cD c)]) fun r β => ∃ R, r = .va R ∧ β = [] ∧ Drn (kOf m) m c R by
    obtain ⟨r, β, e, R, rfl, rfl, h⟩ := q
    exact ⟨R, h, e⟩
  rw [r_ldrawn]
  refine run_f ?_
  refine ok_step (ρ1 := stL m c 0 1 .no .no .no .no .no) (by unfold stL nI; simp [Den.Cd.denD, Den.fsStar, Den.f1, Den.fExt, Den.fRep, Den.fTr, Den.fCh, Den.opI, Den.opB, Den.opC, Den.opM, Den.bodyRun, Den.Ss.den, Den.S.den, Den.C.den, Den.C.denT, Den.Cs.denA, Den.Cs.denO, Den.Cs.denAT, Den.Cs.denOT, Den.Cs.denV, Den.Cs.denF, Den.Co.den, Den.Co.denT, Den.Ci.den, Den.Tg.den, Den.Tg.dens, Den.Tg.slots, Den.Tg.slotsL, Den.parL, Den.fSeq, Den.fRet, Den.fRetN, Den.fNop, Den.fBk, Den.fCt, Den.fSet, Den.fO, Den.fDrop, Den.SlOf, Den.notBg, Den.fIfS, Den.fIf, Den.fT, Den.truth, Den.fAnd, Den.fOr, Den.fNot, Den.fAndV, Den.fOrV, Den.fNotV, Den.isB, Den.fV, Den.fF, Den.frz, Den.half, Den.vw, Den.vws, Den.f1, Den.f2, Den.fL, Den.fM, Den.fVar, Den.fC, Den.fTup, Den.fLst, Den.fsCons, Den.fsNil, Den.fSetIx, Den.fAugIx, Den.fAug, Den.asInt, Den.items, Den.putItems, Den.sameKind, Den.fMut, Den.φApp, Den.φIns, Den.fCall, Den.fCallM, Den.fPar, Den.fPar3, Den.fAsg, Den.gNm, Den.gTp, Den.gsCons, Den.gsNil, Den.fSl, Den.fPt, Den.φSl, Den.add_int, Den.sub_int, Den.φNeg, Den.φCmp, Den.φIs, Den.φIsNot, Den.isNone, Den.len_lst, Den.len_tup, Den.φAbs, Den.φInt, Den.φTuple, Den.φList, Den.fdmt, Den.fdnp, L2.ixN, Den.eq_str, Den.ne_str, Den.eq_int, Den.ne_int, Den.ix_lst, Den.ix_tup, Den.at_zero, Den.at_one, Den.at_two, Den.at_three, Den.lim_lit]) ?_
  refine ok_cons (ok_while (n := 64) (fun n ρ => ∃ d, n = 64 - d ∧ d ≤ 62 ∧ (d = 0 ∨ 2 ^ (d - 1) < m) ∧ ρ = stL m c d (2 ^ d) .no .no .no .no .no)
    ⟨0, by omega, by omega, .inl rfl, rfl⟩ (by omega) ?_)
  rintro n ρ ⟨d, hn, hd, hq, rfl⟩
  refine ⟨decide (2 ^ d < m), stL m c d (2 ^ d) .no .no .no .no .no, ?_, fun hv => ?_, fun hv => ?_⟩
  · unfold stL nI
    generalize 2 ^ d = p
    simp [Den.Cd.denD, Den.fsStar, Den.f1, Den.fExt, Den.fRep, Den.fTr, Den.fCh, Den.opI, Den.opB, Den.opC, Den.opM, Den.bodyRun, Den.Ss.den, Den.S.den, Den.C.den, Den.C.denT, Den.Cs.denA, Den.Cs.denO, Den.Cs.denAT, Den.Cs.denOT, Den.Cs.denV, Den.Cs.denF, Den.Co.den, Den.Co.denT, Den.Ci.den, Den.Tg.den, Den.Tg.dens, Den.Tg.slots, Den.Tg.slotsL, Den.parL, Den.fSeq, Den.fRet, Den.fRetN, Den.fNop, Den.fBk, Den.fCt, Den.fSet, Den.fO, Den.fDrop, Den.SlOf, Den.notBg, Den.fIfS, Den.fIf, Den.fT, Den.truth, Den.fAnd, Den.fOr, Den.fNot, Den.fAndV, Den.fOrV, Den.fNotV, Den.isB, Den.fV, Den.fF, Den.frz, Den.half, Den.vw, Den.vws, Den.f1, Den.f2, Den.fL, Den.fM, Den.fVar, Den.fC, Den.fTup, Den.fLst, Den.fsCons, Den.fsNil, Den.fSetIx, Den.fAugIx, Den.fAug, Den.asInt, Den.items, Den.putItems, Den.sameKind, Den.fMut, Den.φApp, Den.φIns, Den.fCall, Den.fCallM, Den.fPar, Den.fPar3, Den.fAsg, Den.gNm, Den.gTp, Den.gsCons, Den.gsNil, Den.fSl, Den.fPt, Den.φSl, Den.add_int, Den.sub_int, Den.φNeg, Den.φCmp, Den.φIs, Den.φIsNot, Den.isNone, Den.len_lst, Den.len_tup, Den.φAbs, Den.φInt, Den.φTuple, Den.φList, Den.fdmt, Den.fdnp, L2.ixN, Den.eq_str, Den.ne_str, Den.eq_int, Den.ne_int, Den.ix_lst, Den.ix_tup, Den.at_zero, Den.at_one, Den.at_two, Den.at_three, Den.lim_lit, lt_nat]
  · have hv2 : m ≤ 2 ^ d := by simpa using hv
    have hk := kOf_is hm hv2 hq
    subst hk
    generalize hkk : kOf m = k at *
    generalize hpp : 2 ^ k = p
    show Ok (Ss.den g_ldrawn _ (stL m c k p .no .no .no .no .no)) _
    have c4 := rows_ok (m := m) (p := p) hl hd
    refine ok_step (set_ls c4 nb_no rfl rfl) ?_
    show Ok (Ss.den g_ldrawn _ (stL m c k p (.ls (rowsL k c (turnsOf k c))) .no .no .no .no)) _
    have hT := turns_le (k := k) (c := c)
    refine ok_cons (for_at (f := fun t : Nat => .tuple [nI t, .tuple (cD (blk k c t))]) (l := List.range (turnsOf k c)) (ρ1 := stL m c k p (.va (.list (rowsL k c (turnsOf k c)))) .no .no .no .no)
      (fun t ρ => ∃ s4 s5 s6 s7 s8, (∀ s, s < t → ¬ Pt k m c s) ∧ Nb s5 ∧ Nb s6 ∧ Nb s7 ∧ Nb s8 ∧ ρ = stL m c k p s4 s5 s6 s7 s8)
      ?_ ⟨_, .no, .no, .no, .no, fun s z => by omega, nb_no, nb_no, nb_no, nb_no, rfl⟩ ?_ ?_)
    · have he : (List.range (turnsOf k c)).map (fun t : Nat => PyData.tuple [nI t, .tuple (cD (blk k c t))]) = enumFrom 0 (rowsL k c (turnsOf k c)) := by
        rw [enum_map]
        unfold rowsL
        rw [List.length_map, List.length_range]
        refine List.map_congr_left fun t ht => ?_
        rw [List.getElem?_map, List.getElem?_range (List.mem_range.mp ht)]
        simp [nI]
      rw [he]
      unfold stL
      generalize rowsL k c (turnsOf k c) = X
      simp [Den.Cd.denD, Den.fsStar, Den.f1, Den.fExt, Den.fRep, Den.fTr, Den.fCh, Den.opI, Den.opB, Den.opC, Den.opM, Den.bodyRun, Den.Ss.den, Den.S.den, Den.C.den, Den.C.denT, Den.Cs.denA, Den.Cs.denO, Den.Cs.denAT, Den.Cs.denOT, Den.Cs.denV, Den.Cs.denF, Den.Co.den, Den.Co.denT, Den.Ci.den, Den.Tg.den, Den.Tg.dens, Den.Tg.slots, Den.Tg.slotsL, Den.parL, Den.fSeq, Den.fRet, Den.fRetN, Den.fNop, Den.fBk, Den.fCt, Den.fSet, Den.fO, Den.fDrop, Den.SlOf, Den.notBg, Den.fIfS, Den.fIf, Den.fT, Den.truth, Den.fAnd, Den.fOr, Den.fNot, Den.fAndV, Den.fOrV, Den.fNotV, Den.isB, Den.fV, Den.fF, Den.frz, Den.half, Den.vw, Den.vws, Den.f1, Den.f2, Den.fL, Den.fM, Den.fVar, Den.fC, Den.fTup, Den.fLst, Den.fsCons, Den.fsNil, Den.fSetIx, Den.fAugIx, Den.fAug, Den.asInt, Den.items, Den.putItems, Den.sameKind, Den.fMut, Den.φApp, Den.φIns, Den.fCall, Den.fCallM, Den.fPar, Den.fPar3, Den.fAsg, Den.gNm, Den.gTp, Den.gsCons, Den.gsNil, Den.fSl, Den.fPt, Den.φSl, Den.add_int, Den.sub_int, Den.φNeg, Den.φCmp, Den.φIs, Den.φIsNot, Den.isNone, Den.len_lst, Den.len_tup, Den.φAbs, Den.φInt, Den.φTuple, Den.φList, Den.fdmt, Den.fdnp, L2.ixN, Den.eq_str, Den.ne_str, Den.eq_int, Den.ne_int, Den.ix_lst, Den.ix_tup, Den.at_zero, Den.at_one, Den.at_two, Den.at_three, Den.lim_lit, fEn, fIt, its]
    · rintro t ht ρ ⟨s4, s5, s6, s7, s8, hq, p5, p6, p7, p8, rfl⟩
      have ht2 : t < turnsOf k c := by simpa using ht
      rw [List.getElem_range]
      have hbl : (blk k c t).length ≤ 1000 := by
        unfold blk
        rw [List.length_take, List.length_drop]
        omega
      have hblk : (blk k c t).length = k ↔ (t + 1) * k ≤ c.length ∨ k = 0 := by
        have : (t + 1) * k = t * k + k := Nat.succ_mul ..
        unfold blk
        rw [List.length_take, List.length_drop]
        omega
      generalize hB : blk k c t = B at hbl hblk ⊢
      refine ⟨stL m c k p s4 (.va (nI t)) (.va (.tuple (cD B))) s7 s8, ?_, ?_⟩
      · unfold stL nI
        cases s5 <;> first | cases p5; done | skip
        all_goals cases s6 <;> first | cases p6; done | simp [Den.Cd.denD, Den.fsStar, Den.f1, Den.fExt, Den.fRep, Den.fTr, Den.fCh, Den.opI, Den.opB, Den.opC, Den.opM, Den.bodyRun, Den.Ss.den, Den.S.den, Den.C.den, Den.C.denT, Den.Cs.denA, Den.Cs.denO, Den.Cs.denAT, Den.Cs.denOT, Den.Cs.denV, Den.Cs.denF, Den.Co.den, Den.Co.denT, Den.Ci.den, Den.Tg.den, Den.Tg.dens, Den.Tg.slots, Den.Tg.slotsL, Den.parL, Den.fSeq, Den.fRet, Den.fRetN, Den.fNop, Den.fBk, Den.fCt, Den.fSet, Den.fO, Den.fDrop, Den.SlOf, Den.notBg, Den.fIfS, Den.fIf, Den.fT, Den.truth, Den.fAnd, Den.fOr, Den.fNot, Den.fAndV, Den.fOrV, Den.fNotV, Den.isB, Den.fV, Den.fF, Den.frz, Den.half, Den.vw, Den.vws, Den.f1, Den.f2, Den.fL, Den.fM, Den.fVar, Den.fC, Den.fTup, Den.fLst, Den.fsCons, Den.fsNil, Den.fSetIx, Den.fAugIx, Den.fAug, Den.asInt, Den.items, Den.putItems, Den.sameKind, Den.fMut, Den.φApp, Den.φIns, Den.fCall, Den.fCallM, Den.fPar, Den.fPar3, Den.fAsg, Den.gNm, Den.gTp, Den.gsCons, Den.gsNil, Den.fSl, Den.fPt, Den.φSl, Den.add_int, Den.sub_int, Den.φNeg, Den.φCmp, Den.φIs, Den.φIsNot, Den.isNone, Den.len_lst, Den.len_tup, Den.φAbs, Den.φInt, Den.φTuple, Den.φList, Den.fdmt, Den.fdnp, L2.ixN, Den.eq_str, Den.ne_str, Den.eq_int, Den.ne_int, Den.ix_lst, Den.ix_tup, Den.at_zero, Den.at_one, Den.at_two, Den.at_three, Den.lim_lit]
      refine ok_mono (turn_ok (by omega) p7 p8) ?_
      rintro o ρ (⟨w1, w2, rfl⟩ | ⟨w, rfl, s7, s8, p7, p8, rfl⟩)
      · refine ⟨_, rfl, rfl, .inl ⟨t, ⟨?_, by rw [hB]; exact w2⟩, hq, by rw [hB]⟩⟩
        rcases hblk.mp w1 with z | z
        · exact z
        · rw [z, Nat.mul_zero]
          omega
      · refine ⟨s4, _, _, _, s8, fun s hs z => ?_, nb_va, nb_va, p7, p8, rfl⟩
        rcases Nat.lt_or_ge s t with y | y
        · exact hq s y z
        · have hst : s = t := by omega
          subst hst
          have z2 := z.2
          rw [hB] at z2
          exact w ⟨hblk.mpr (.inl z.1), z2⟩
    · rintro ρ ⟨s4, s5, s6, s7, s8, hq, p5, p6, p7, p8, rfl⟩
      rw [List.length_range] at hq
      refine ok_last (r := .va .none) (ρ1 := stL m c k p s4 s5 s6 s7 s8) (by simp [Den.Cd.denD, Den.fsStar, Den.f1, Den.fExt, Den.fRep, Den.fTr, Den.fCh, Den.opI, Den.opB, Den.opC, Den.opM, Den.bodyRun, Den.Ss.den, Den.S.den, Den.C.den, Den.C.denT, Den.Cs.denA, Den.Cs.denO, Den.Cs.denAT, Den.Cs.denOT, Den.Cs.denV, Den.Cs.denF, Den.Co.den, Den.Co.denT, Den.Ci.den, Den.Tg.den, Den.Tg.dens, Den.Tg.slots, Den.Tg.slotsL, Den.parL, Den.fSeq, Den.fRet, Den.fRetN, Den.fNop, Den.fBk, Den.fCt, Den.fSet, Den.fO, Den.fDrop, Den.SlOf, Den.notBg, Den.fIfS, Den.fIf, Den.fT, Den.truth, Den.fAnd, Den.fOr, Den.fNot, Den.fAndV, Den.fOrV, Den.fNotV, Den.isB, Den.fV, Den.fF, Den.frz, Den.half, Den.vw, Den.vws, Den.f1, Den.f2, Den.fL, Den.fM, Den.fVar, Den.fC, Den.fTup, Den.fLst, Den.fsCons, Den.fsNil, Den.fSetIx, Den.fAugIx, Den.fAug, Den.asInt, Den.items, Den.putItems, Den.sameKind, Den.fMut, Den.φApp, Den.φIns, Den.fCall, Den.fCallM, Den.fPar, Den.fPar3, Den.fAsg, Den.gNm, Den.gTp, Den.gsCons, Den.gsNil, Den.fSl, Den.fPt, Den.φSl, Den.add_int, Den.sub_int, Den.φNeg, Den.φCmp, Den.φIs, Den.φIsNot, Den.isNone, Den.len_lst, Den.len_tup, Den.φAbs, Den.φInt, Den.φTuple, Den.φList, Den.fdmt, Den.fdnp, L2.ixN, Den.eq_str, Den.ne_str, Den.eq_int, Den.ne_int, Den.ix_lst, Den.ix_tup, Den.at_zero, Den.at_one, Den.at_two, Den.at_three, Den.lim_lit]) ⟨.none, rfl, rfl, .inr ⟨fun s z => ?_, rfl⟩⟩
      by_cases h0 : 0 < k
      · exact hq s (turns_all h0 z) z
      · have hk0 : k = 0 := by omega
        refine hq 0 (by unfold turnsOf; rw [if_neg h0]; omega) ⟨by rw [hk0]; omega, ?_⟩
        unfold blk
        rw [hk0, List.take_zero]
        exact hm
  · have hv2 : 2 ^ d < m := by simpa using hv
    have hd2 : d < 62 := by
      rcases Nat.lt_or_ge d 62 with z | z
      · exact z
      · have := Nat.pow_le_pow_right (show 0 < 2 by omega) z
        omega
    refine ⟨63 - d, by omega, ?_⟩
    refine ok_step (ρ1 := stL m c (d + 1) (2 ^ (d + 1)) .no .no .no .no .no) ?_ (ok_nil ⟨d + 1, by omega, by omega, .inr hv2, rfl⟩)
    have e3 : ((2 ^ d : Nat) : Int) * 2 = ((2 ^ (d + 1) : Nat) : Int) := by
      rw [Nat.pow_succ]
      generalize 2 ^ d = z
      omega
    unfold stL nI
    rw [← e3, Int.natCast_add]
    rw [show ((1 : Nat) : Int) = 1 from rfl]
    exact step2 (a := .int (m : Int)) (b := .tuple (cD c)) (x := (d : Int)) (y := ((2 ^ d : Nat) : Int))
end K52

set_option autoImplicit false
namespace K52
open PySem PySem.Spec L2 Den W
theorem fine_res {v u : Nat} (hv : v < 10 ^ 19) (hu : u < 10 ^ 19) : Fine (resD v u) ∧ Fine (.list [resD v u, resD v u]) := by
  have sh : ∀ n : Nat, n < 10 ^ 19 → (PyData.shown (.int (n : Int))).length ≤ 25 := fun n h => by
    have e := int_text_length_le10 (k := 19) (a := (n : Int)) (by decide) (by omega)
    show (Str.ofString (toString (n : Int))).length ≤ 25
    rw [ofString_length]
    omega
  have lg : ∀ n : Nat, n < 10 ^ 19 → n.log2 < 1920 := fun n h => by
    by_cases h0 : n = 0
    · subst h0
      decide
    · rw [Nat.log2_lt h0]
      exact Nat.lt_trans h (by decide +kernel)
  have a : (resD v u).leavesShort 25 = true := by
    simp only [resD, nI, PyData.leavesShort, PyData.leavesShortAll, Bool.and_eq_true, decide_eq_true_eq, and_true]
    exact ⟨sh v hv, sh u hu⟩
  have b : (PyData.list [resD v u, resD v u]).leavesShort 25 = true := by
    simp only [PyData.leavesShort, PyData.leavesShortAll, a, Bool.and_true]
  refine ⟨⟨?_, ?_, ?_, ?_⟩, ⟨?_, ?_, ?_, ?_⟩⟩
  · simp [resD, nI, SeqAt.shaped, PyData.canLay0, PyData.canLayAll0, PyData.depth, PyData.depthAll]
  · simp [resD, nI, PyData.showable, PyData.showableAll, lg v hv, lg u hu]
  · simp [resD, nI, PyData.hasDict, PyData.hasDictAll]
  · have := PyData.shown_le_bulk 25 (by decide) _ a
    have e : (resD v u).bulk = 2 := by simp [resD, nI, PyData.bulk, PyData.bulkAll]
    rw [e] at this
    show _ ≤ 1000000
    omega
  · simp [resD, nI, SeqAt.shaped, PyData.canLay0, PyData.canLayAll0, PyData.depth, PyData.depthAll]
  · simp [resD, nI, PyData.showable, PyData.showableAll, lg v hv, lg u hu]
  · simp [resD, nI, PyData.hasDict, PyData.hasDictAll]
  · have := PyData.shown_le_bulk 25 (by decide) _ b
    have e : (PyData.list [resD v u, resD v u]).bulk = 6 := by simp [resD, nI, PyData.bulk, PyData.bulkAll]
    rw [e] at this
    show _ ≤ 1000000
    omega
theorem lcoins_ok {β : List D} {n : Nat} (hb : Bag β) (hn : n ≤ 1000) : Ans (d_lcoins.run β [nI n]) fun r β' => ∃ bs, r = .va (.tuple (cD bs)) ∧ bs.length = n ∧ Bag β' := by
  rw [r_lcoins]
  refine run_t ?_
  have hr : (-1000000 : Int) ≤ (n : Int) ∧ (n : Int) ≤ 1000000 := by omega
  obtain ⟨out, ρ2, e2, β2, bs, e3, e4, e5, e6⟩ := lc_inv (vs := [2]) (t := Tg.den (.nm 2)) (test := Co.denT g_lcoins .no) (elt := fF (C.den g_lcoins (.cmp .eq (.callM 0 0 (.cons (.int 2) .nil)) (.int 1))))
    (fun ds acc ρ => ∃ β bs, ρ = [.bg β, .va (nI n), .no] ∧ acc = cD bs ∧ bs.length + ds.length = n ∧ Bag β) (by
      rintro d ds acc ρ ⟨β, bs, rfl, rfl, hl, hb⟩
      obtain ⟨x, β2, x0, x1, hb2, e2⟩ := take_ok (m := 2) hb (by omega) (by omega)
      refine ⟨[.bg β, .va (nI n), .va d], true, [.bg β, .va (nI n), .va d], by rfl, by rfl, fun _ => ⟨.bool (x == 1), [.bg β2, .va (nI n), .va d], ?_, β2, bs ++ [x == 1], by rfl, ?_, ?_, hb2⟩, fun z => by cases z⟩
      · have q := den_callM (Γ := g_lcoins) (i := 0) (ρ := [.bg β, .va (nI n), .va d]) (ρ1 := [.bg β, .va (nI n), .va d]) f_lcoins_0 (es := .cons (.int 2) .nil) (ds := [.int 2]) (by simp [Den.Cd.denD, Den.fsStar, Den.f1, Den.fExt, Den.fRep, Den.fTr, Den.fCh, Den.opI, Den.opB, Den.opC, Den.opM, Den.bodyRun, Den.Ss.den, Den.S.den, Den.C.den, Den.C.denT, Den.Cs.denA, Den.Cs.denO, Den.Cs.denAT, Den.Cs.denOT, Den.Cs.denV, Den.Cs.denF, Den.Co.den, Den.Co.denT, Den.Ci.den, Den.Tg.den, Den.Tg.dens, Den.Tg.slots, Den.Tg.slotsL, Den.parL, Den.fSeq, Den.fRet, Den.fRetN, Den.fNop, Den.fBk, Den.fCt, Den.fSet, Den.fO, Den.fDrop, Den.SlOf, Den.notBg, Den.fIfS, Den.fIf, Den.fT, Den.truth, Den.fAnd, Den.fOr, Den.fNot, Den.fAndV, Den.fOrV, Den.fNotV, Den.isB, Den.fV, Den.fF, Den.frz, Den.half, Den.vw, Den.vws, Den.f1, Den.f2, Den.fL, Den.fM, Den.fVar, Den.fC, Den.fTup, Den.fLst, Den.fsCons, Den.fsNil, Den.fSetIx, Den.fAugIx, Den.fAug, Den.asInt, Den.items, Den.putItems, Den.sameKind, Den.fMut, Den.φApp, Den.φIns, Den.fCall, Den.fCallM, Den.fPar, Den.fPar3, Den.fAsg, Den.gNm, Den.gTp, Den.gsCons, Den.gsNil, Den.fSl, Den.fPt, Den.φSl, Den.add_int, Den.sub_int, Den.φNeg, Den.φCmp, Den.φIs, Den.φIsNot, Den.isNone, Den.len_lst, Den.len_tup, Den.φAbs, Den.φInt, Den.φTuple, Den.φList, Den.fdmt, Den.fdnp, L2.ixN, Den.eq_str, Den.ne_str, Den.eq_int, Den.ne_int, Den.ix_lst, Den.ix_tup, Den.at_zero, Den.at_one, Den.at_two, Den.at_three, Den.lim_lit]) rfl rfl e2 mt_ltake np_ltake
        generalize (C.callM 0 0 (.cons (.int 2) .nil)) = ca at q ⊢
        simp [Den.Cd.denD, Den.fsStar, Den.f1, Den.fExt, Den.fRep, Den.fTr, Den.fCh, Den.opI, Den.opB, Den.opC, Den.opM, Den.bodyRun, Den.Ss.den, Den.S.den, Den.C.den, Den.C.denT, Den.Cs.denA, Den.Cs.denO, Den.Cs.denAT, Den.Cs.denOT, Den.Cs.denV, Den.Cs.denF, Den.Co.den, Den.Co.denT, Den.Ci.den, Den.Tg.den, Den.Tg.dens, Den.Tg.slots, Den.Tg.slotsL, Den.parL, Den.fSeq, Den.fRet, Den.fRetN, Den.fNop, Den.fBk, Den.fCt, Den.fSet, Den.fO, Den.fDrop, Den.SlOf, Den.notBg, Den.fIfS, Den.fIf, Den.fT, Den.truth, Den.fAnd, Den.fOr, Den.fNot, Den.fAndV, Den.fOrV, Den.fNotV, Den.isB, Den.fV, Den.fF, Den.frz, Den.half, Den.vw, Den.vws, Den.f1, Den.f2, Den.fL, Den.fM, Den.fVar, Den.fC, Den.fTup, Den.fLst, Den.fsCons, Den.fsNil, Den.fSetIx, Den.fAugIx, Den.fAug, Den.asInt, Den.items, Den.putItems, Den.sameKind, Den.fMut, Den.φApp, Den.φIns, Den.fCall, Den.fCallM, Den.fPar, Den.fPar3, Den.fAsg, Den.gNm, Den.gTp, Den.gsCons, Den.gsNil, Den.fSl, Den.fPt, Den.φSl, Den.add_int, Den.sub_int, Den.φNeg, Den.φCmp, Den.φIs, Den.φIsNot, Den.isNone, Den.len_lst, Den.len_tup, Den.φAbs, Den.φInt, Den.φTuple, Den.φList, Den.fdmt, Den.fdnp, L2.ixN, Den.eq_str, Den.ne_str, Den.eq_int, Den.ne_int, Den.ix_lst, Den.ix_tup, Den.at_zero, Den.at_one, Den.at_two, Den.at_three, Den.lim_lit, q]
      · unfold cD
        rw [List.map_append]
        rfl
      · rw [List.length_append]
        simp only [List.length_cons, List.length_nil] at hl ⊢
        omega) (ds := nD (List.range n)) (acc := []) (ρ := [.bg β, .va (nI n), .no]) ⟨β, [], rfl, rfl, by rw [nD_len, List.length_range]; simp, hb⟩
  have q : (q_lcoins_0).den g_lcoins [.bg β, .va (nI n), .no] = some (.ls out, [.bg β2, .va (nI n), .no]) := by
    subst e3
    unfold q_lcoins_0
    refine Eq.trans (lc_val (ds := nD (List.range n)) (ρ1 := [.bg β, .va (nI n), .no]) (by rw [it_rng1 (x := n) (ρ1 := [.bg β, .va (nI n), .no]) (by unfold nI; simp [Den.Cd.denD, Den.fsStar, Den.f1, Den.fExt, Den.fRep, Den.fTr, Den.fCh, Den.opI, Den.opB, Den.opC, Den.opM, Den.bodyRun, Den.Ss.den, Den.S.den, Den.C.den, Den.C.denT, Den.Cs.denA, Den.Cs.denO, Den.Cs.denAT, Den.Cs.denOT, Den.Cs.denV, Den.Cs.denF, Den.Co.den, Den.Co.denT, Den.Ci.den, Den.Tg.den, Den.Tg.dens, Den.Tg.slots, Den.Tg.slotsL, Den.parL, Den.fSeq, Den.fRet, Den.fRetN, Den.fNop, Den.fBk, Den.fCt, Den.fSet, Den.fO, Den.fDrop, Den.SlOf, Den.notBg, Den.fIfS, Den.fIf, Den.fT, Den.truth, Den.fAnd, Den.fOr, Den.fNot, Den.fAndV, Den.fOrV, Den.fNotV, Den.isB, Den.fV, Den.fF, Den.frz, Den.half, Den.vw, Den.vws, Den.f1, Den.f2, Den.fL, Den.fM, Den.fVar, Den.fC, Den.fTup, Den.fLst, Den.fsCons, Den.fsNil, Den.fSetIx, Den.fAugIx, Den.fAug, Den.asInt, Den.items, Den.putItems, Den.sameKind, Den.fMut, Den.φApp, Den.φIns, Den.fCall, Den.fCallM, Den.fPar, Den.fPar3, Den.fAsg, Den.gNm, Den.gTp, Den.gsCons, Den.gsNil, Den.fSl, Den.fPt, Den.φSl, Den.add_int, Den.sub_int, Den.φNeg, Den.φCmp, Den.φIs, Den.φIsNot, Den.isNone, Den.len_lst, Den.len_tup, Den.φAbs, Den.φInt, Den.φTuple, Den.φList, Den.fdmt, Den.fdnp, L2.ixN, Den.eq_str, Den.ne_str, Den.eq_int, Den.ne_int, Den.ix_lst, Den.ix_tup, Den.at_zero, Den.at_one, Den.at_two, Den.at_three, Den.lim_lit]) hr, rng_nat]) (by rw [nD_len, List.length_range]; show _ ≤ 1000000; omega) e2) ?_
    rfl
  have q2 := den_tuple q
  subst e4
  generalize hC : (C.blt .tuple (.cons q_lcoins_0 .nil)) = ca at q2
  unfold c_lcoins
  rw [hC]
  exact ok_last (r := .va (.tuple (cD bs))) (ρ1 := [.bg β2, .va (nI n), .no]) (by simp [Den.Cd.denD, Den.fsStar, Den.f1, Den.fExt, Den.fRep, Den.fTr, Den.fCh, Den.opI, Den.opB, Den.opC, Den.opM, Den.bodyRun, Den.Ss.den, Den.S.den, Den.C.den, Den.C.denT, Den.Cs.denA, Den.Cs.denO, Den.Cs.denAT, Den.Cs.denOT, Den.Cs.denV, Den.Cs.denF, Den.Co.den, Den.Co.denT, Den.Ci.den, Den.Tg.den, Den.Tg.dens, Den.Tg.slots, Den.Tg.slotsL, Den.parL, Den.fSeq, Den.fRet, Den.fRetN, Den.fNop, Den.fBk, Den.fCt, Den.fSet, Den.fO, Den.fDrop, Den.SlOf, Den.notBg, Den.fIfS, Den.fIf, Den.fT, Den.truth, Den.fAnd, Den.fOr, Den.fNot, Den.fAndV, Den.fOrV, Den.fNotV, Den.isB, Den.fV, Den.fF, Den.frz, Den.half, Den.vw, Den.vws, Den.f1, Den.f2, Den.fL, Den.fM, Den.fVar, Den.fC, Den.fTup, Den.fLst, Den.fsCons, Den.fsNil, Den.fSetIx, Den.fAugIx, Den.fAug, Den.asInt, Den.items, Den.putItems, Den.sameKind, Den.fMut, Den.φApp, Den.φIns, Den.fCall, Den.fCallM, Den.fPar, Den.fPar3, Den.fAsg, Den.gNm, Den.gTp, Den.gsCons, Den.gsNil, Den.fSl, Den.fPt, Den.φSl, Den.add_int, Den.sub_int, Den.φNeg, Den.φCmp, Den.φIs, Den.φIsNot, Den.isNone, Den.len_lst, Den.len_tup, Den.φAbs, Den.φInt, Den.φTuple, Den.φList, Den.fdmt, Den.fdnp, L2.ixN, Den.eq_str, Den.ne_str, Den.eq_int, Den.ne_int, Den.ix_lst, Den.ix_tup, Den.at_zero, Den.at_one, Den.at_two, Den.at_three, Den.lim_lit, q2]) ⟨β2, rfl, bs, rfl, by simpa using e5, e6⟩
end K52

set_option autoImplicit false
namespace K52
open PySem PySem.Spec L2 Den W
def stW (sc : D) (β : List D) (s2 s3 s4 s5 s6 s7 s8 : Sl) : Lo := [.va sc, .ls β, s2, s3, s4, s5, s6, s7, s8]
section
variable {sc : D} {β β' : List D} {s2 s3 s4 s5 s6 s7 s8 : Sl}
theorem cT {m : Int} {v : Int} (e : d_ltake.run β [.int m] = some (.va (.int v), β')) (n : C) (hn : ∀ ρ : Lo, n.den g_law ρ = some (.va (.int m), ρ)) : (C.callM 1 1 (.cons n .nil)).den g_law (stW sc β s2 s3 s4 s5 s6 s7 s8) = some (.va (.int v), stW sc β' s2 s3 s4 s5 s6 s7 s8) :=
  den_callM f_law_1 (ds := [.int m]) (ρ1 := stW sc β s2 s3 s4 s5 s6 s7 s8) (denF_one (hn _) rfl) rfl rfl e mt_ltake np_ltake
theorem pw_step {x : Int} {s2 s4 : Sl} : (S.set 3 (.bin .mul (.var 3) (.int 2))).den g_law (stW sc β s2 (.va (.int x)) s4 s5 s6 s7 s8) = some (.nx, stW sc β s2 (.va (.int (x * 2))) s4 s5 s6 s7 s8) := by
  have e2 : φMul (.int x) (.int 2) = some (.va (.int (x * 2))) := mul_small (.inr (by omega))
  unfold stW
  simp [Den.Cd.denD, Den.fsStar, Den.f1, Den.fExt, Den.fRep, Den.fTr, Den.fCh, Den.opI, Den.opB, Den.opC, Den.opM, Den.bodyRun, Den.Ss.den, Den.S.den, Den.C.den, Den.C.denT, Den.Cs.denA, Den.Cs.denO, Den.Cs.denAT, Den.Cs.denOT, Den.Cs.denV, Den.Cs.denF, Den.Co.den, Den.Co.denT, Den.Ci.den, Den.Tg.den, Den.Tg.dens, Den.Tg.slots, Den.Tg.slotsL, Den.parL, Den.fSeq, Den.fRet, Den.fRetN, Den.fNop, Den.fBk, Den.fCt, Den.fSet, Den.fO, Den.fDrop, Den.SlOf, Den.notBg, Den.fIfS, Den.fIf, Den.fT, Den.truth, Den.fAnd, Den.fOr, Den.fNot, Den.fAndV, Den.fOrV, Den.fNotV, Den.isB, Den.fV, Den.fF, Den.frz, Den.half, Den.vw, Den.vws, Den.f1, Den.f2, Den.fL, Den.fM, Den.fVar, Den.fC, Den.fTup, Den.fLst, Den.fsCons, Den.fsNil, Den.fSetIx, Den.fAugIx, Den.fAug, Den.asInt, Den.items, Den.putItems, Den.sameKind, Den.fMut, Den.φApp, Den.φIns, Den.fCall, Den.fCallM, Den.fPar, Den.fPar3, Den.fAsg, Den.gNm, Den.gTp, Den.gsCons, Den.gsNil, Den.fSl, Den.fPt, Den.φSl, Den.add_int, Den.sub_int, Den.φNeg, Den.φCmp, Den.φIs, Den.φIsNot, Den.isNone, Den.len_lst, Den.len_tup, Den.φAbs, Den.φInt, Den.φTuple, Den.φList, Den.fdmt, Den.fdnp, L2.ixN, Den.eq_str, Den.ne_str, Den.eq_int, Den.ne_int, Den.ix_lst, Den.ix_tup, Den.at_zero, Den.at_one, Den.at_two, Den.at_three, Den.lim_lit, e2]
/-- the power -/
theorem power_ok (hb : Bag β) (p4 : Nb s4) : Ok ((S.fors (.nm 4) (.rng1 (.callM 1 1 (.cons (.int 13) .nil))) b_law_0).den g_law (stW sc β s2 (.va (nI 1)) s4 s5 s6 s7 s8)) fun o ρ => o = .nx ∧ ∃ β' w s4, Bag β' ∧ w ≤ 12 ∧ Nb s4 ∧ ρ = stW sc β' s2 (.va (nI (2 ^ w))) s4 s5 s6 s7 s8 := by
  obtain ⟨v, β1, v0, v1, hb1, e⟩ := take_ok (m := 13) hb (by omega) (by omega)
  obtain ⟨w, rfl⟩ : ∃ w : Nat, v = w := ⟨v.toNat, by omega⟩
  have c1 := cT (sc := sc) (s2 := s2) (s3 := .va (nI 1)) (s4 := s4) (s5 := s5) (s6 := s6) (s7 := s7) (s8 := s8) e (.int 13) (fun ρ => by simp [Den.Cd.denD, Den.fsStar, Den.f1, Den.fExt, Den.fRep, Den.fTr, Den.fCh, Den.opI, Den.opB, Den.opC, Den.opM, Den.bodyRun, Den.Ss.den, Den.S.den, Den.C.den, Den.C.denT, Den.Cs.denA, Den.Cs.denO, Den.Cs.denAT, Den.Cs.denOT, Den.Cs.denV, Den.Cs.denF, Den.Co.den, Den.Co.denT, Den.Ci.den, Den.Tg.den, Den.Tg.dens, Den.Tg.slots, Den.Tg.slotsL, Den.parL, Den.fSeq, Den.fRet, Den.fRetN, Den.fNop, Den.fBk, Den.fCt, Den.fSet, Den.fO, Den.fDrop, Den.SlOf, Den.notBg, Den.fIfS, Den.fIf, Den.fT, Den.truth, Den.fAnd, Den.fOr, Den.fNot, Den.fAndV, Den.fOrV, Den.fNotV, Den.isB, Den.fV, Den.fF, Den.frz, Den.half, Den.vw, Den.vws, Den.f1, Den.f2, Den.fL, Den.fM, Den.fVar, Den.fC, Den.fTup, Den.fLst, Den.fsCons, Den.fsNil, Den.fSetIx, Den.fAugIx, Den.fAug, Den.asInt, Den.items, Den.putItems, Den.sameKind, Den.fMut, Den.φApp, Den.φIns, Den.fCall, Den.fCallM, Den.fPar, Den.fPar3, Den.fAsg, Den.gNm, Den.gTp, Den.gsCons, Den.gsNil, Den.fSl, Den.fPt, Den.φSl, Den.add_int, Den.sub_int, Den.φNeg, Den.φCmp, Den.φIs, Den.φIsNot, Den.isNone, Den.len_lst, Den.len_tup, Den.φAbs, Den.φInt, Den.φTuple, Den.φList, Den.fdmt, Den.fdnp, L2.ixN, Den.eq_str, Den.ne_str, Den.eq_int, Den.ne_int, Den.ix_lst, Den.ix_tup, Den.at_zero, Den.at_one, Den.at_two, Den.at_three, Den.lim_lit])
  refine for_at (f := nI) (l := List.range w) (ρ1 := stW sc β1 s2 (.va (nI 1)) s4 s5 s6 s7 s8) (fun i ρ => ∃ s4, Nb s4 ∧ ρ = stW sc β1 s2 (.va (nI (2 ^ i))) s4 s5 s6 s7 s8) ?_ ⟨s4, p4, rfl⟩ ?_ ?_
  · rw [it_rng1 (x := (w : Int)) (ρ1 := stW sc β1 s2 (.va (nI 1)) s4 s5 s6 s7 s8) c1 (by omega), rng_nat]
    rfl
  · rintro i hi ρ ⟨s4, p4, rfl⟩
    refine ⟨stW sc β1 s2 (.va (nI (2 ^ i))) (.va (nI (List.range w)[i])) s5 s6 s7 s8, nm_ok p4 rfl rfl, ?_⟩
    have e3 : nI (2 ^ (i + 1)) = .int (((2 ^ i : Nat) : Int) * 2) := by
      unfold nI
      rw [Nat.pow_succ]
      generalize 2 ^ i = z
      congr 1
    refine ok_step (ρ1 := stW sc β1 s2 (.va (nI (2 ^ (i + 1)))) (.va (nI (List.range w)[i])) s5 s6 s7 s8) ?_ (ok_nil ⟨_, nb_va, rfl⟩)
    rw [e3]
    exact pw_step (x := ((2 ^ i : Nat) : Int))
  · rintro ρ ⟨s4, p4, rfl⟩
    rw [List.length_range]
    exact ⟨rfl, β1, w, s4, hb1, by omega, p4, rfl⟩
theorem den_max1 {Γ : Gam} {c : C} {n : Nat} {ρ ρ1 : Lo} (h : c.den Γ ρ = some (.va (nI n), ρ1)) : (C.blt .max (.cons (.int 1) (.cons c .nil))).den Γ ρ = some (.va (nI (if n > 1 then n else 1)), ρ1) := by
  have e4 : φMax [.int 1, .int (n : Int)] = some (.va (nI (if n > 1 then n else 1))) := by
    unfold φMax nI
    by_cases h : n > 1
    · have h2 : (n : Int) > 1 := by omega
      simp [h, h2]
    · have h2 : ¬ (n : Int) > 1 := by omega
      simp [h, h2]
  unfold nI at h
  generalize (if n > 1 then n else 1) = z at e4 ⊢
  simp [Den.Cd.denD, Den.fsStar, Den.f1, Den.fExt, Den.fRep, Den.fTr, Den.fCh, Den.opI, Den.opB, Den.opC, Den.opM, Den.bodyRun, Den.Ss.den, Den.S.den, Den.C.den, Den.C.denT, Den.Cs.denA, Den.Cs.denO, Den.Cs.denAT, Den.Cs.denOT, Den.Cs.denV, Den.Cs.denF, Den.Co.den, Den.Co.denT, Den.Ci.den, Den.Tg.den, Den.Tg.dens, Den.Tg.slots, Den.Tg.slotsL, Den.parL, Den.fSeq, Den.fRet, Den.fRetN, Den.fNop, Den.fBk, Den.fCt, Den.fSet, Den.fO, Den.fDrop, Den.SlOf, Den.notBg, Den.fIfS, Den.fIf, Den.fT, Den.truth, Den.fAnd, Den.fOr, Den.fNot, Den.fAndV, Den.fOrV, Den.fNotV, Den.isB, Den.fV, Den.fF, Den.frz, Den.half, Den.vw, Den.vws, Den.f1, Den.f2, Den.fL, Den.fM, Den.fVar, Den.fC, Den.fTup, Den.fLst, Den.fsCons, Den.fsNil, Den.fSetIx, Den.fAugIx, Den.fAug, Den.asInt, Den.items, Den.putItems, Den.sameKind, Den.fMut, Den.φApp, Den.φIns, Den.fCall, Den.fCallM, Den.fPar, Den.fPar3, Den.fAsg, Den.gNm, Den.gTp, Den.gsCons, Den.gsNil, Den.fSl, Den.fPt, Den.φSl, Den.add_int, Den.sub_int, Den.φNeg, Den.φCmp, Den.φIs, Den.φIsNot, Den.isNone, Den.len_lst, Den.len_tup, Den.φAbs, Den.φInt, Den.φTuple, Den.φList, Den.fdmt, Den.fdnp, L2.ixN, Den.eq_str, Den.ne_str, Den.eq_int, Den.ne_int, Den.ix_lst, Den.ix_tup, Den.at_zero, Den.at_one, Den.at_two, Den.at_three, Den.lim_lit, h, e4]
def IsMany (x : D) : Prop := ∃ n : Nat, x = nI n ∧ n ≤ 10 ^ 18 + 1
/-- how many there are -/
theorem many_ok {w : Nat} (hb : Bag β) (hw : w ≤ 12) : ∃ m β', 1 ≤ m ∧ m ≤ 10 ^ 18 + 1 ∧ Bag β' ∧ (C.blt .max (.cons (.int 1) (.cons (.callM 2 1 (.cons (.lst (.cons (.bin .add (.int 1) (.callM 1 1 (.cons (.int 40) .nil))) (.cons (.var 3) (.cons (.bin .add (.var 3) (.int 1)) (.cons (.bin .sub (.var 3) (.int 1)) (.cons (.bin .add (.int 1) (.callM 1 1 (.cons (.bin .pow (.int 10) (.int 18)) .nil))) (.cons (.int 3) .nil))))))) .nil)) .nil))).den g_law (stW sc β s2 (.va (nI (2 ^ w))) s4 s5 s6 s7 s8) =
    some (.va (nI m), stW sc β' s2 (.va (nI (2 ^ w))) s4 s5 s6 s7 s8) := by
  obtain ⟨v, β1, v0, v1, hb1, e1⟩ := take_ok (m := 40) hb (by omega) (by omega)
  obtain ⟨u, β2, u0, u1, hb2, e2⟩ := take_ok (m := 10 ^ 18) hb1 (by decide) (by decide)
  have c1 := cT (sc := sc) (s2 := s2) (s3 := .va (nI (2 ^ w))) (s4 := s4) (s5 := s5) (s6 := s6) (s7 := s7) (s8 := s8) e1 (.int 40) (fun ρ => by simp [Den.Cd.denD, Den.fsStar, Den.f1, Den.fExt, Den.fRep, Den.fTr, Den.fCh, Den.opI, Den.opB, Den.opC, Den.opM, Den.bodyRun, Den.Ss.den, Den.S.den, Den.C.den, Den.C.denT, Den.Cs.denA, Den.Cs.denO, Den.Cs.denAT, Den.Cs.denOT, Den.Cs.denV, Den.Cs.denF, Den.Co.den, Den.Co.denT, Den.Ci.den, Den.Tg.den, Den.Tg.dens, Den.Tg.slots, Den.Tg.slotsL, Den.parL, Den.fSeq, Den.fRet, Den.fRetN, Den.fNop, Den.fBk, Den.fCt, Den.fSet, Den.fO, Den.fDrop, Den.SlOf, Den.notBg, Den.fIfS, Den.fIf, Den.fT, Den.truth, Den.fAnd, Den.fOr, Den.fNot, Den.fAndV, Den.fOrV, Den.fNotV, Den.isB, Den.fV, Den.fF, Den.frz, Den.half, Den.vw, Den.vws, Den.f1, Den.f2, Den.fL, Den.fM, Den.fVar, Den.fC, Den.fTup, Den.fLst, Den.fsCons, Den.fsNil, Den.fSetIx, Den.fAugIx, Den.fAug, Den.asInt, Den.items, Den.putItems, Den.sameKind, Den.fMut, Den.φApp, Den.φIns, Den.fCall, Den.fCallM, Den.fPar, Den.fPar3, Den.fAsg, Den.gNm, Den.gTp, Den.gsCons, Den.gsNil, Den.fSl, Den.fPt, Den.φSl, Den.add_int, Den.sub_int, Den.φNeg, Den.φCmp, Den.φIs, Den.φIsNot, Den.isNone, Den.len_lst, Den.len_tup, Den.φAbs, Den.φInt, Den.φTuple, Den.φList, Den.fdmt, Den.fdnp, L2.ixN, Den.eq_str, Den.ne_str, Den.eq_int, Den.ne_int, Den.ix_lst, Den.ix_tup, Den.at_zero, Den.at_one, Den.at_two, Den.at_three, Den.lim_lit])
  have c2 := cT (sc := sc) (s2 := s2) (s3 := .va (nI (2 ^ w))) (s4 := s4) (s5 := s5) (s6 := s6) (s7 := s7) (s8 := s8) e2 (.bin .pow (.int 10) (.int 18)) (fun ρ => by
    have q : φPow (.int 10) (.int 18) = some (.va (.int (10 ^ 18))) := Den.pop (i := 10) (j := 18) (by decide)
    simp [Den.Cd.denD, Den.fsStar, Den.f1, Den.fExt, Den.fRep, Den.fTr, Den.fCh, Den.opI, Den.opB, Den.opC, Den.opM, Den.bodyRun, Den.Ss.den, Den.S.den, Den.C.den, Den.C.denT, Den.Cs.denA, Den.Cs.denO, Den.Cs.denAT, Den.Cs.denOT, Den.Cs.denV, Den.Cs.denF, Den.Co.den, Den.Co.denT, Den.Ci.den, Den.Tg.den, Den.Tg.dens, Den.Tg.slots, Den.Tg.slotsL, Den.parL, Den.fSeq, Den.fRet, Den.fRetN, Den.fNop, Den.fBk, Den.fCt, Den.fSet, Den.fO, Den.fDrop, Den.SlOf, Den.notBg, Den.fIfS, Den.fIf, Den.fT, Den.truth, Den.fAnd, Den.fOr, Den.fNot, Den.fAndV, Den.fOrV, Den.fNotV, Den.isB, Den.fV, Den.fF, Den.frz, Den.half, Den.vw, Den.vws, Den.f1, Den.f2, Den.fL, Den.fM, Den.fVar, Den.fC, Den.fTup, Den.fLst, Den.fsCons, Den.fsNil, Den.fSetIx, Den.fAugIx, Den.fAug, Den.asInt, Den.items, Den.putItems, Den.sameKind, Den.fMut, Den.φApp, Den.φIns, Den.fCall, Den.fCallM, Den.fPar, Den.fPar3, Den.fAsg, Den.gNm, Den.gTp, Den.gsCons, Den.gsNil, Den.fSl, Den.fPt, Den.φSl, Den.add_int, Den.sub_int, Den.φNeg, Den.φCmp, Den.φIs, Den.φIsNot, Den.isNone, Den.len_lst, Den.len_tup, Den.φAbs, Den.φInt, Den.φTuple, Den.φList, Den.fdmt, Den.fdnp, L2.ixN, Den.eq_str, Den.ne_str, Den.eq_int, Den.ne_int, Den.ix_lst, Den.ix_tup, Den.at_zero, Den.at_one, Den.at_two, Den.at_three, Den.lim_lit, q])
  have hp : 2 ^ w ≤ 4096 := Nat.pow_le_pow_right (show 0 < 2 by omega) hw
  have hp1 : 1 ≤ 2 ^ w := Nat.one_le_two_pow
  generalize hP : 2 ^ w = p at *
  have hx : ∀ x ∈ [PyData.int (1 + v), nI p, .int ((p : Int) + 1), .int ((p : Int) - 1), .int (1 + u), .int 3], IsMany x := fun x hx => by
    have u1' : u < 1000000000000000000 := u1
    simp only [List.mem_cons, List.not_mem_nil, or_false] at hx
    rcases hx with rfl | rfl | rfl | rfl | rfl | rfl
    · exact ⟨(1 + v).toNat, by unfold nI; rw [Int.toNat_of_nonneg (by omega)], by omega⟩
    · exact ⟨p, rfl, by omega⟩
    · exact ⟨p + 1, by unfold nI; congr 1, by omega⟩
    · exact ⟨p - 1, by unfold nI; congr 1; omega, by omega⟩
    · exact ⟨(1 + u).toNat, by unfold nI; rw [Int.toNat_of_nonneg (by omega)], by omega⟩
    · exact ⟨3, rfl, by omega⟩
  obtain ⟨x, β3, ⟨n, rfl, hn⟩, hb3, e3⟩ := some_p IsMany hb2 (by simp) (by simp) hx
  have cl : (Cs.cons (.lst (.cons (.bin .add (.int 1) (.callM 1 1 (.cons (.int 40) .nil))) (.cons (.var 3) (.cons (.bin .add (.var 3) (.int 1)) (.cons (.bin .sub (.var 3) (.int 1)) (.cons (.bin .add (.int 1) (.callM 1 1 (.cons (.bin .pow (.int 10) (.int 18)) .nil))) (.cons (.int 3) .nil))))))) .nil).denF g_law (stW sc β s2 (.va (nI p)) s4 s5 s6 s7 s8) =
      some ([.list [PyData.int (1 + v), nI p, .int ((p : Int) + 1), .int ((p : Int) - 1), .int (1 + u), .int 3]], stW sc β2 s2 (.va (nI p)) s4 s5 s6 s7 s8) := by
    generalize (C.callM 1 1 (.cons (.int 40) .nil)) = ca at c1 ⊢
    generalize (C.callM 1 1 (.cons (.bin .pow (.int 10) (.int 18)) .nil)) = cb at c2 ⊢
    unfold stW nI at *
    generalize (p : Int) = P at *
    simp [Den.Cd.denD, Den.fsStar, Den.f1, Den.fExt, Den.fRep, Den.fTr, Den.fCh, Den.opI, Den.opB, Den.opC, Den.opM, Den.bodyRun, Den.Ss.den, Den.S.den, Den.C.den, Den.C.denT, Den.Cs.denA, Den.Cs.denO, Den.Cs.denAT, Den.Cs.denOT, Den.Cs.denV, Den.Cs.denF, Den.Co.den, Den.Co.denT, Den.Ci.den, Den.Tg.den, Den.Tg.dens, Den.Tg.slots, Den.Tg.slotsL, Den.parL, Den.fSeq, Den.fRet, Den.fRetN, Den.fNop, Den.fBk, Den.fCt, Den.fSet, Den.fO, Den.fDrop, Den.SlOf, Den.notBg, Den.fIfS, Den.fIf, Den.fT, Den.truth, Den.fAnd, Den.fOr, Den.fNot, Den.fAndV, Den.fOrV, Den.fNotV, Den.isB, Den.fV, Den.fF, Den.frz, Den.half, Den.vw, Den.vws, Den.f1, Den.f2, Den.fL, Den.fM, Den.fVar, Den.fC, Den.fTup, Den.fLst, Den.fsCons, Den.fsNil, Den.fSetIx, Den.fAugIx, Den.fAug, Den.asInt, Den.items, Den.putItems, Den.sameKind, Den.fMut, Den.φApp, Den.φIns, Den.fCall, Den.fCallM, Den.fPar, Den.fPar3, Den.fAsg, Den.gNm, Den.gTp, Den.gsCons, Den.gsNil, Den.fSl, Den.fPt, Den.φSl, Den.add_int, Den.sub_int, Den.φNeg, Den.φCmp, Den.φIs, Den.φIsNot, Den.isNone, Den.len_lst, Den.len_tup, Den.φAbs, Den.φInt, Den.φTuple, Den.φList, Den.fdmt, Den.fdnp, L2.ixN, Den.eq_str, Den.ne_str, Den.eq_int, Den.ne_int, Den.ix_lst, Den.ix_tup, Den.at_zero, Den.at_one, Den.at_two, Den.at_three, Den.lim_lit, c1, c2]
  have c3 := den_callM (Γ := g_law) (i := 1) (ρ := stW sc β s2 (.va (nI p)) s4 s5 s6 s7 s8) f_law_2 cl rfl rfl e3 mt_lsome np_lsome
  have ep : putItems (stW sc β2 s2 (.va (nI p)) s4 s5 s6 s7 s8) 1 β3 = stW sc β3 s2 (.va (nI p)) s4 s5 s6 s7 s8 := rfl
  rw [ep] at c3
  refine ⟨if n > 1 then n else 1, β3, by split <;> omega, by split <;> omega, hb3, ?_⟩
  exact den_max1 c3
end
end K52

set_option autoImplicit false
namespace K52
open PySem PySem.Spec L2 Den W
section
variable {sc : D} {β β' : List D} {s2 s3 s4 s5 s6 s7 s8 : Sl}
theorem not_call {Γ : Gam} {j : Nat} {es : Cs} {b : Bool} {ρ ρ1 : Lo} (h : (C.call j es).den Γ ρ = some (.va (.bool b), ρ1)) : (C.not (.call j es)).denT Γ ρ = some (!b, ρ1) := by
  have q : (C.not (.call j es)).denT Γ = fNot (fT ((C.call j es).den Γ)) := by simp only [C.denT, C.den]
  rw [q]
  unfold fNot fT fV
  rw [h]
  rfl
theorem cut_len2 {c : List Bool} {n : Nat} : (c.take n).length ≤ c.length := by rw [List.length_take]; omega
/-- what is told where one is drawn -/
theorem seen_ok {m t : Nat} {c : List Bool} (hm : 1 ≤ m) (hm2 : m ≤ 10 ^ 18 + 1) (hl : c.length ≤ 60) (p : Pt (kOf m) m c t) (q : ∀ s, s < t → ¬ Pt (kOf m) m c s) (hb : Bag β) (p8 : Nb s8) {R : D} (hR : R = resD (val (blk (kOf m) c t)) ((t + 1) * kOf m)) :
    Ok (Ss.den g_law (.cons (.set 8 (.bin .add (.sl (.var 6) .no (.so (.ix (.var 7) (.int 1)))) (.callM 3 1 (.cons (.int 3) .nil))))
    (.cons (.ife (.not (.call 5 (.cons (.lst (.cons (.call 6 (.cons (.var 5) (.cons (.sl (.var 6) .no (.so (.ix (.var 7) (.int 1)))) .nil))) (.cons (.call 6 (.cons (.var 5) (.cons (.var 8) .nil))) .nil))) (.cons (.lst (.cons (.var 7) (.cons (.var 7) .nil))) .nil))))
      (.cons (.ret (.bool false)) .nil)
      .nil)
    (.cons (.ife (.and (.cons (.cmp .gt (.ix (.var 7) (.int 1)) (.int 0)) (.cons (.cmp .isnot (.call 6 (.cons (.var 5) (.cons (.sl (.var 6) .no (.so (.bin .sub (.ix (.var 7) (.int 1)) (.int 1)))) .nil))) .non) .nil)))
      (.cons (.ret (.bool false)) .nil)
      .nil) .nil))) (stW sc β s2 s3 s4 (.va (nI m)) (.va (.tuple (cD c))) (.va R) s8)) fun o ρ => o = .nx ∧ ∃ β' s8, Bag β' ∧ Nb s8 ∧ ρ = stW sc β' s2 s3 s4 (.va (nI m)) (.va (.tuple (cD c))) (.va R) s8 := by
  obtain ⟨u, hu⟩ : ∃ u, u = (t + 1) * kOf m := ⟨_, rfl⟩
  obtain ⟨v, hv⟩ : ∃ v, v = val (blk (kOf m) c t) := ⟨_, rfl⟩
  have huc : u ≤ c.length := by rw [hu]; exact p.1
  have hvm : v < m := by rw [hv]; exact p.2
  obtain ⟨r1, β1, e1, bs, rfl, hbs, hb1⟩ := lcoins_ok (n := 3) hb (by omega)
  have c0 : (C.ix (.var 7) (.int 1)).den g_law (stW sc β s2 s3 s4 (.va (nI m)) (.va (.tuple (cD c))) (.va R) s8) = some (.va (nI u), stW sc β s2 s3 s4 (.va (nI m)) (.va (.tuple (cD c))) (.va R) s8) := by
    rw [hR, ← hu]
    unfold stW resD
    simp [Den.Cd.denD, Den.fsStar, Den.f1, Den.fExt, Den.fRep, Den.fTr, Den.fCh, Den.opI, Den.opB, Den.opC, Den.opM, Den.bodyRun, Den.Ss.den, Den.S.den, Den.C.den, Den.C.denT, Den.Cs.denA, Den.Cs.denO, Den.Cs.denAT, Den.Cs.denOT, Den.Cs.denV, Den.Cs.denF, Den.Co.den, Den.Co.denT, Den.Ci.den, Den.Tg.den, Den.Tg.dens, Den.Tg.slots, Den.Tg.slotsL, Den.parL, Den.fSeq, Den.fRet, Den.fRetN, Den.fNop, Den.fBk, Den.fCt, Den.fSet, Den.fO, Den.fDrop, Den.SlOf, Den.notBg, Den.fIfS, Den.fIf, Den.fT, Den.truth, Den.fAnd, Den.fOr, Den.fNot, Den.fAndV, Den.fOrV, Den.fNotV, Den.isB, Den.fV, Den.fF, Den.frz, Den.half, Den.vw, Den.vws, Den.f1, Den.f2, Den.fL, Den.fM, Den.fVar, Den.fC, Den.fTup, Den.fLst, Den.fsCons, Den.fsNil, Den.fSetIx, Den.fAugIx, Den.fAug, Den.asInt, Den.items, Den.putItems, Den.sameKind, Den.fMut, Den.φApp, Den.φIns, Den.fCall, Den.fCallM, Den.fPar, Den.fPar3, Den.fAsg, Den.gNm, Den.gTp, Den.gsCons, Den.gsNil, Den.fSl, Den.fPt, Den.φSl, Den.add_int, Den.sub_int, Den.φNeg, Den.φCmp, Den.φIs, Den.φIsNot, Den.isNone, Den.len_lst, Den.len_tup, Den.φAbs, Den.φInt, Den.φTuple, Den.φList, Den.fdmt, Den.fdnp, L2.ixN, Den.eq_str, Den.ne_str, Den.eq_int, Den.ne_int, Den.ix_lst, Den.ix_tup, Den.at_zero, Den.at_one, Den.at_two, Den.at_three, Den.lim_lit]
  have c1 := den_callM (Γ := g_law) (i := 1) (ρ := stW sc β s2 s3 s4 (.va (nI m)) (.va (.tuple (cD c))) (.va R) s8) (ρ1 := stW sc β s2 s3 s4 (.va (nI m)) (.va (.tuple (cD c))) (.va R) s8) f_law_3 (es := .cons (.int 3) .nil) (ds := [nI 3]) (by unfold nI; simp [Den.Cd.denD, Den.fsStar, Den.f1, Den.fExt, Den.fRep, Den.fTr, Den.fCh, Den.opI, Den.opB, Den.opC, Den.opM, Den.bodyRun, Den.Ss.den, Den.S.den, Den.C.den, Den.C.denT, Den.Cs.denA, Den.Cs.denO, Den.Cs.denAT, Den.Cs.denOT, Den.Cs.denV, Den.Cs.denF, Den.Co.den, Den.Co.denT, Den.Ci.den, Den.Tg.den, Den.Tg.dens, Den.Tg.slots, Den.Tg.slotsL, Den.parL, Den.fSeq, Den.fRet, Den.fRetN, Den.fNop, Den.fBk, Den.fCt, Den.fSet, Den.fO, Den.fDrop, Den.SlOf, Den.notBg, Den.fIfS, Den.fIf, Den.fT, Den.truth, Den.fAnd, Den.fOr, Den.fNot, Den.fAndV, Den.fOrV, Den.fNotV, Den.isB, Den.fV, Den.fF, Den.frz, Den.half, Den.vw, Den.vws, Den.f1, Den.f2, Den.fL, Den.fM, Den.fVar, Den.fC, Den.fTup, Den.fLst, Den.fsCons, Den.fsNil, Den.fSetIx, Den.fAugIx, Den.fAug, Den.asInt, Den.items, Den.putItems, Den.sameKind, Den.fMut, Den.φApp, Den.φIns, Den.fCall, Den.fCallM, Den.fPar, Den.fPar3, Den.fAsg, Den.gNm, Den.gTp, Den.gsCons, Den.gsNil, Den.fSl, Den.fPt, Den.φSl, Den.add_int, Den.sub_int, Den.φNeg, Den.φCmp, Den.φIs, Den.φIsNot, Den.isNone, Den.len_lst, Den.len_tup, Den.φAbs, Den.φInt, Den.φTuple, Den.φList, Den.fdmt, Den.fdnp, L2.ixN, Den.eq_str, Den.ne_str, Den.eq_int, Den.ne_int, Den.ix_lst, Den.ix_tup, Den.at_zero, Den.at_one, Den.at_two, Den.at_three, Den.lim_lit]) rfl rfl e1 mt_lcoins np_lcoins
  have ep : putItems (stW sc β s2 s3 s4 (.va (nI m)) (.va (.tuple (cD c))) (.va R) s8) 1 β1 = stW sc β1 s2 s3 s4 (.va (nI m)) (.va (.tuple (cD c))) (.va R) s8 := rfl
  rw [ep] at c1
  have csl : (C.sl (.var 6) .no (.so (.ix (.var 7) (.int 1)))).den g_law (stW sc β s2 s3 s4 (.va (nI m)) (.va (.tuple (cD c))) (.va R) s8) = some (.va (.tuple (cD (c.take u))), stW sc β s2 s3 s4 (.va (nI m)) (.va (.tuple (cD c))) (.va R) s8) := by
    rw [← cut_hd]
    generalize (C.ix (.var 7) (.int 1)) = ca at c0 ⊢
    unfold stW nI at *
    simp [Den.Cd.denD, Den.fsStar, Den.f1, Den.fExt, Den.fRep, Den.fTr, Den.fCh, Den.opI, Den.opB, Den.opC, Den.opM, Den.bodyRun, Den.Ss.den, Den.S.den, Den.C.den, Den.C.denT, Den.Cs.denA, Den.Cs.denO, Den.Cs.denAT, Den.Cs.denOT, Den.Cs.denV, Den.Cs.denF, Den.Co.den, Den.Co.denT, Den.Ci.den, Den.Tg.den, Den.Tg.dens, Den.Tg.slots, Den.Tg.slotsL, Den.parL, Den.fSeq, Den.fRet, Den.fRetN, Den.fNop, Den.fBk, Den.fCt, Den.fSet, Den.fO, Den.fDrop, Den.SlOf, Den.notBg, Den.fIfS, Den.fIf, Den.fT, Den.truth, Den.fAnd, Den.fOr, Den.fNot, Den.fAndV, Den.fOrV, Den.fNotV, Den.isB, Den.fV, Den.fF, Den.frz, Den.half, Den.vw, Den.vws, Den.f1, Den.f2, Den.fL, Den.fM, Den.fVar, Den.fC, Den.fTup, Den.fLst, Den.fsCons, Den.fsNil, Den.fSetIx, Den.fAugIx, Den.fAug, Den.asInt, Den.items, Den.putItems, Den.sameKind, Den.fMut, Den.φApp, Den.φIns, Den.fCall, Den.fCallM, Den.fPar, Den.fPar3, Den.fAsg, Den.gNm, Den.gTp, Den.gsCons, Den.gsNil, Den.fSl, Den.fPt, Den.φSl, Den.add_int, Den.sub_int, Den.φNeg, Den.φCmp, Den.φIs, Den.φIsNot, Den.isNone, Den.len_lst, Den.len_tup, Den.φAbs, Den.φInt, Den.φTuple, Den.φList, Den.fdmt, Den.fdnp, L2.ixN, Den.eq_str, Den.ne_str, Den.eq_int, Den.ne_int, Den.ix_lst, Den.ix_tup, Den.at_zero, Den.at_one, Den.at_two, Den.at_three, Den.lim_lit, c0]
  have c2 : (C.bin .add (.sl (.var 6) .no (.so (.ix (.var 7) (.int 1)))) (.callM 3 1 (.cons (.int 3) .nil))).den g_law (stW sc β s2 s3 s4 (.va (nI m)) (.va (.tuple (cD c))) (.va R) s8) = some (.va (.tuple (cD (c.take u ++ bs))), stW sc β1 s2 s3 s4 (.va (nI m)) (.va (.tuple (cD c))) (.va R) s8) := by
    have e : φAdd (.tuple (cD (c.take u))) (.tuple (cD bs)) = some (.va (.tuple (cD (c.take u ++ bs)))) := by
      rw [add_tup (by rw [cD_len, cD_len, hbs]; have := cut_len2 (c := c) (n := u); show _ ≤ 1000000; omega)]
      unfold cD
      rw [List.map_append]
    generalize (C.sl (.var 6) .no (.so (.ix (.var 7) (.int 1)))) = ca at csl ⊢
    generalize (C.callM 3 1 (.cons (.int 3) .nil)) = cb at c1 ⊢
    simp only [C.den, f2, fV, csl, c1, Option.map_some, Option.bind_some, half, vw, Den.opB, e]
  refine ok_step (set_va c2 p8 rfl rfl) ?_
  show Ok (Ss.den g_law _ (stW sc β1 s2 s3 s4 (.va (nI m)) (.va (.tuple (cD c))) (.va R) (.va (.tuple (cD (c.take u ++ bs)))))) _
  generalize hρ : stW sc β1 s2 s3 s4 (.va (nI m)) (.va (.tuple (cD c))) (.va R) (.va (.tuple (cD (c.take u ++ bs)))) = ρ
  have v5 : (C.var 5).den g_law ρ = some (.va (nI m), ρ) := by rw [← hρ]; unfold stW; simp [Den.Cd.denD, Den.fsStar, Den.f1, Den.fExt, Den.fRep, Den.fTr, Den.fCh, Den.opI, Den.opB, Den.opC, Den.opM, Den.bodyRun, Den.Ss.den, Den.S.den, Den.C.den, Den.C.denT, Den.Cs.denA, Den.Cs.denO, Den.Cs.denAT, Den.Cs.denOT, Den.Cs.denV, Den.Cs.denF, Den.Co.den, Den.Co.denT, Den.Ci.den, Den.Tg.den, Den.Tg.dens, Den.Tg.slots, Den.Tg.slotsL, Den.parL, Den.fSeq, Den.fRet, Den.fRetN, Den.fNop, Den.fBk, Den.fCt, Den.fSet, Den.fO, Den.fDrop, Den.SlOf, Den.notBg, Den.fIfS, Den.fIf, Den.fT, Den.truth, Den.fAnd, Den.fOr, Den.fNot, Den.fAndV, Den.fOrV, Den.fNotV, Den.isB, Den.fV, Den.fF, Den.frz, Den.half, Den.vw, Den.vws, Den.f1, Den.f2, Den.fL, Den.fM, Den.fVar, Den.fC, Den.fTup, Den.fLst, Den.fsCons, Den.fsNil, Den.fSetIx, Den.fAugIx, Den.fAug, Den.asInt, Den.items, Den.putItems, Den.sameKind, Den.fMut, Den.φApp, Den.φIns, Den.fCall, Den.fCallM, Den.fPar, Den.fPar3, Den.fAsg, Den.gNm, Den.gTp, Den.gsCons, Den.gsNil, Den.fSl, Den.fPt, Den.φSl, Den.add_int, Den.sub_int, Den.φNeg, Den.φCmp, Den.φIs, Den.φIsNot, Den.isNone, Den.len_lst, Den.len_tup, Den.φAbs, Den.φInt, Den.φTuple, Den.φList, Den.fdmt, Den.fdnp, L2.ixN, Den.eq_str, Den.ne_str, Den.eq_int, Den.ne_int, Den.ix_lst, Den.ix_tup, Den.at_zero, Den.at_one, Den.at_two, Den.at_three, Den.lim_lit]
  have v7 : (C.var 7).den g_law ρ = some (.va R, ρ) := by rw [← hρ]; unfold stW; simp [Den.Cd.denD, Den.fsStar, Den.f1, Den.fExt, Den.fRep, Den.fTr, Den.fCh, Den.opI, Den.opB, Den.opC, Den.opM, Den.bodyRun, Den.Ss.den, Den.S.den, Den.C.den, Den.C.denT, Den.Cs.denA, Den.Cs.denO, Den.Cs.denAT, Den.Cs.denOT, Den.Cs.denV, Den.Cs.denF, Den.Co.den, Den.Co.denT, Den.Ci.den, Den.Tg.den, Den.Tg.dens, Den.Tg.slots, Den.Tg.slotsL, Den.parL, Den.fSeq, Den.fRet, Den.fRetN, Den.fNop, Den.fBk, Den.fCt, Den.fSet, Den.fO, Den.fDrop, Den.SlOf, Den.notBg, Den.fIfS, Den.fIf, Den.fT, Den.truth, Den.fAnd, Den.fOr, Den.fNot, Den.fAndV, Den.fOrV, Den.fNotV, Den.isB, Den.fV, Den.fF, Den.frz, Den.half, Den.vw, Den.vws, Den.f1, Den.f2, Den.fL, Den.fM, Den.fVar, Den.fC, Den.fTup, Den.fLst, Den.fsCons, Den.fsNil, Den.fSetIx, Den.fAugIx, Den.fAug, Den.asInt, Den.items, Den.putItems, Den.sameKind, Den.fMut, Den.φApp, Den.φIns, Den.fCall, Den.fCallM, Den.fPar, Den.fPar3, Den.fAsg, Den.gNm, Den.gTp, Den.gsCons, Den.gsNil, Den.fSl, Den.fPt, Den.φSl, Den.add_int, Den.sub_int, Den.φNeg, Den.φCmp, Den.φIs, Den.φIsNot, Den.isNone, Den.len_lst, Den.len_tup, Den.φAbs, Den.φInt, Den.φTuple, Den.φList, Den.fdmt, Den.fdnp, L2.ixN, Den.eq_str, Den.ne_str, Den.eq_int, Den.ne_int, Den.ix_lst, Den.ix_tup, Den.at_zero, Den.at_one, Den.at_two, Den.at_three, Den.lim_lit]
  have v8 : (C.var 8).den g_law ρ = some (.va (.tuple (cD (c.take u ++ bs))), ρ) := by rw [← hρ]; unfold stW; simp [Den.Cd.denD, Den.fsStar, Den.f1, Den.fExt, Den.fRep, Den.fTr, Den.fCh, Den.opI, Den.opB, Den.opC, Den.opM, Den.bodyRun, Den.Ss.den, Den.S.den, Den.C.den, Den.C.denT, Den.Cs.denA, Den.Cs.denO, Den.Cs.denAT, Den.Cs.denOT, Den.Cs.denV, Den.Cs.denF, Den.Co.den, Den.Co.denT, Den.Ci.den, Den.Tg.den, Den.Tg.dens, Den.Tg.slots, Den.Tg.slotsL, Den.parL, Den.fSeq, Den.fRet, Den.fRetN, Den.fNop, Den.fBk, Den.fCt, Den.fSet, Den.fO, Den.fDrop, Den.SlOf, Den.notBg, Den.fIfS, Den.fIf, Den.fT, Den.truth, Den.fAnd, Den.fOr, Den.fNot, Den.fAndV, Den.fOrV, Den.fNotV, Den.isB, Den.fV, Den.fF, Den.frz, Den.half, Den.vw, Den.vws, Den.f1, Den.f2, Den.fL, Den.fM, Den.fVar, Den.fC, Den.fTup, Den.fLst, Den.fsCons, Den.fsNil, Den.fSetIx, Den.fAugIx, Den.fAug, Den.asInt, Den.items, Den.putItems, Den.sameKind, Den.fMut, Den.φApp, Den.φIns, Den.fCall, Den.fCallM, Den.fPar, Den.fPar3, Den.fAsg, Den.gNm, Den.gTp, Den.gsCons, Den.gsNil, Den.fSl, Den.fPt, Den.φSl, Den.add_int, Den.sub_int, Den.φNeg, Den.φCmp, Den.φIs, Den.φIsNot, Den.isNone, Den.len_lst, Den.len_tup, Den.φAbs, Den.φInt, Den.φTuple, Den.φList, Den.fdmt, Den.fdnp, L2.ixN, Den.eq_str, Den.ne_str, Den.eq_int, Den.ne_int, Den.ix_lst, Den.ix_tup, Den.at_zero, Den.at_one, Den.at_two, Den.at_three, Den.lim_lit]
  have c0' : (C.ix (.var 7) (.int 1)).den g_law ρ = some (.va (nI u), ρ) := by
    rw [← hρ, hR, ← hu]
    unfold stW resD
    simp [Den.Cd.denD, Den.fsStar, Den.f1, Den.fExt, Den.fRep, Den.fTr, Den.fCh, Den.opI, Den.opB, Den.opC, Den.opM, Den.bodyRun, Den.Ss.den, Den.S.den, Den.C.den, Den.C.denT, Den.Cs.denA, Den.Cs.denO, Den.Cs.denAT, Den.Cs.denOT, Den.Cs.denV, Den.Cs.denF, Den.Co.den, Den.Co.denT, Den.Ci.den, Den.Tg.den, Den.Tg.dens, Den.Tg.slots, Den.Tg.slotsL, Den.parL, Den.fSeq, Den.fRet, Den.fRetN, Den.fNop, Den.fBk, Den.fCt, Den.fSet, Den.fO, Den.fDrop, Den.SlOf, Den.notBg, Den.fIfS, Den.fIf, Den.fT, Den.truth, Den.fAnd, Den.fOr, Den.fNot, Den.fAndV, Den.fOrV, Den.fNotV, Den.isB, Den.fV, Den.fF, Den.frz, Den.half, Den.vw, Den.vws, Den.f1, Den.f2, Den.fL, Den.fM, Den.fVar, Den.fC, Den.fTup, Den.fLst, Den.fsCons, Den.fsNil, Den.fSetIx, Den.fAugIx, Den.fAug, Den.asInt, Den.items, Den.putItems, Den.sameKind, Den.fMut, Den.φApp, Den.φIns, Den.fCall, Den.fCallM, Den.fPar, Den.fPar3, Den.fAsg, Den.gNm, Den.gTp, Den.gsCons, Den.gsNil, Den.fSl, Den.fPt, Den.φSl, Den.add_int, Den.sub_int, Den.φNeg, Den.φCmp, Den.φIs, Den.φIsNot, Den.isNone, Den.len_lst, Den.len_tup, Den.φAbs, Den.φInt, Den.φTuple, Den.φList, Den.fdmt, Den.fdnp, L2.ixN, Den.eq_str, Den.ne_str, Den.eq_int, Den.ne_int, Den.ix_lst, Den.ix_tup, Den.at_zero, Den.at_one, Den.at_two, Den.at_three, Den.lim_lit]
  have csl' : (C.sl (.var 6) .no (.so (.ix (.var 7) (.int 1)))).den g_law ρ = some (.va (.tuple (cD (c.take u))), ρ) := by
    rw [← cut_hd]
    generalize (C.ix (.var 7) (.int 1)) = ca at c0' ⊢
    rw [← hρ] at c0' ⊢
    unfold stW nI at *
    simp [Den.Cd.denD, Den.fsStar, Den.f1, Den.fExt, Den.fRep, Den.fTr, Den.fCh, Den.opI, Den.opB, Den.opC, Den.opM, Den.bodyRun, Den.Ss.den, Den.S.den, Den.C.den, Den.C.denT, Den.Cs.denA, Den.Cs.denO, Den.Cs.denAT, Den.Cs.denOT, Den.Cs.denV, Den.Cs.denF, Den.Co.den, Den.Co.denT, Den.Ci.den, Den.Tg.den, Den.Tg.dens, Den.Tg.slots, Den.Tg.slotsL, Den.parL, Den.fSeq, Den.fRet, Den.fRetN, Den.fNop, Den.fBk, Den.fCt, Den.fSet, Den.fO, Den.fDrop, Den.SlOf, Den.notBg, Den.fIfS, Den.fIf, Den.fT, Den.truth, Den.fAnd, Den.fOr, Den.fNot, Den.fAndV, Den.fOrV, Den.fNotV, Den.isB, Den.fV, Den.fF, Den.frz, Den.half, Den.vw, Den.vws, Den.f1, Den.f2, Den.fL, Den.fM, Den.fVar, Den.fC, Den.fTup, Den.fLst, Den.fsCons, Den.fsNil, Den.fSetIx, Den.fAugIx, Den.fAug, Den.asInt, Den.items, Den.putItems, Den.sameKind, Den.fMut, Den.φApp, Den.φIns, Den.fCall, Den.fCallM, Den.fPar, Den.fPar3, Den.fAsg, Den.gNm, Den.gTp, Den.gsCons, Den.gsNil, Den.fSl, Den.fPt, Den.φSl, Den.add_int, Den.sub_int, Den.φNeg, Den.φCmp, Den.φIs, Den.φIsNot, Den.isNone, Den.len_lst, Den.len_tup, Den.φAbs, Den.φInt, Den.φTuple, Den.φList, Den.fdmt, Den.fdnp, L2.ixN, Den.eq_str, Den.ne_str, Den.eq_int, Den.ne_int, Den.ix_lst, Den.ix_tup, Den.at_zero, Den.at_one, Den.at_two, Den.at_three, Den.lim_lit, c0']
  have drw : ∀ {c' : List Bool} {a : C}, c'.length ≤ 1000 → a.den g_law ρ = some (.va (.tuple (cD c')), ρ) → ∃ R', Drn (kOf m) m c' R' ∧ (C.call 6 (.cons (.var 5) (.cons a .nil))).den g_law ρ = some (.va R', ρ) := fun {c'} {a} hl' ha => by
    obtain ⟨R', h1, h2⟩ := drawn_ok hm hl'
    refine ⟨R', h1, den_call f_law_6 (ds := [nI m, .tuple (cD c')]) ?_ h2 mt_drawn np_drawn⟩
    generalize C.var 5 = ca at v5 ⊢
    simp only [Cs.denF, fsCons, fsNil, fF, v5, ha, Option.bind_some, frz, Option.map_some]
  have a1 : ∀ c', c'.take u = c.take u → c'.length ≤ 1000 → ∀ R', Drn (kOf m) m c' R' → R' = R := fun c' he hl' R' h => by
    rw [hR]
    refine drn_one h (drn_more p q ?_)
    rw [← hu]
    exact he
  have hlt : (c.take u).length = u := by rw [List.length_take]; omega
  obtain ⟨R1, d1, x1⟩ := drw (c' := c.take u) (by omega) csl'
  have := a1 _ (by rw [List.take_take, Nat.min_self]) (by omega) R1 d1
  subst this
  obtain ⟨R2, d2, x2⟩ := drw (c' := c.take u ++ bs) (by rw [List.length_append]; omega) v8
  have := a1 _ (by rw [List.take_append_of_le_length (by omega), List.take_take, Nat.min_self]) (by rw [List.length_append]; omega) R2 d2
  subst this
  have hf : Fine (.list [R2, R2]) := by
    rw [hR]
    exact (fine_res (by rw [← hv]; omega) (by rw [← hu]; omega)).2
  have t1 : (C.not (.call 5 (.cons (.lst (.cons (.call 6 (.cons (.var 5) (.cons (.sl (.var 6) .no (.so (.ix (.var 7) (.int 1)))) .nil))) (.cons (.call 6 (.cons (.var 5) (.cons (.var 8) .nil))) .nil))) (.cons (.lst (.cons (.var 7) (.cons (.var 7) .nil))) .nil)))).denT g_law ρ = some (false, ρ) := by
    have y : (C.call 5 (.cons (.lst (.cons (.call 6 (.cons (.var 5) (.cons (.sl (.var 6) .no (.so (.ix (.var 7) (.int 1)))) .nil))) (.cons (.call 6 (.cons (.var 5) (.cons (.var 8) .nil))) .nil))) (.cons (.lst (.cons (.var 7) (.cons (.var 7) .nil))) .nil))).den g_law ρ = some (.va (.bool true), ρ) := by
      refine den_call f_law_5 (ds := [.list [R2, R2], .list [R2, R2]]) ?_ (alike_ok hf) mt_lalike np_lalike
      generalize (C.call 6 (.cons (.var 5) (.cons (.sl (.var 6) .no (.so (.ix (.var 7) (.int 1)))) .nil))) = ca at x1 ⊢
      generalize (C.call 6 (.cons (.var 5) (.cons (.var 8) .nil))) = cb at x2 ⊢
      generalize C.var 7 = cc at v7 ⊢
      simp [Den.Cd.denD, Den.fsStar, Den.f1, Den.fExt, Den.fRep, Den.fTr, Den.fCh, Den.opI, Den.opB, Den.opC, Den.opM, Den.bodyRun, Den.Ss.den, Den.S.den, Den.C.den, Den.C.denT, Den.Cs.denA, Den.Cs.denO, Den.Cs.denAT, Den.Cs.denOT, Den.Cs.denV, Den.Cs.denF, Den.Co.den, Den.Co.denT, Den.Ci.den, Den.Tg.den, Den.Tg.dens, Den.Tg.slots, Den.Tg.slotsL, Den.parL, Den.fSeq, Den.fRet, Den.fRetN, Den.fNop, Den.fBk, Den.fCt, Den.fSet, Den.fO, Den.fDrop, Den.SlOf, Den.notBg, Den.fIfS, Den.fIf, Den.fT, Den.truth, Den.fAnd, Den.fOr, Den.fNot, Den.fAndV, Den.fOrV, Den.fNotV, Den.isB, Den.fV, Den.fF, Den.frz, Den.half, Den.vw, Den.vws, Den.f1, Den.f2, Den.fL, Den.fM, Den.fVar, Den.fC, Den.fTup, Den.fLst, Den.fsCons, Den.fsNil, Den.fSetIx, Den.fAugIx, Den.fAug, Den.asInt, Den.items, Den.putItems, Den.sameKind, Den.fMut, Den.φApp, Den.φIns, Den.fCall, Den.fCallM, Den.fPar, Den.fPar3, Den.fAsg, Den.gNm, Den.gTp, Den.gsCons, Den.gsNil, Den.fSl, Den.fPt, Den.φSl, Den.add_int, Den.sub_int, Den.φNeg, Den.φCmp, Den.φIs, Den.φIsNot, Den.isNone, Den.len_lst, Den.len_tup, Den.φAbs, Den.φInt, Den.φTuple, Den.φList, Den.fdmt, Den.fdnp, L2.ixN, Den.eq_str, Den.ne_str, Den.eq_int, Den.ne_int, Den.ix_lst, Den.ix_tup, Den.at_zero, Den.at_one, Den.at_two, Den.at_three, Den.lim_lit, x1, x2, v7]
    exact not_call y
  refine ok_cons (ok_if t1 (fun z => by cases z) (fun _ => ok_nil ?_))
  have t2 : (C.and (.cons (.cmp .gt (.ix (.var 7) (.int 1)) (.int 0)) (.cons (.cmp .isnot (.call 6 (.cons (.var 5) (.cons (.sl (.var 6) .no (.so (.bin .sub (.ix (.var 7) (.int 1)) (.int 1)))) .nil))) .non) .nil))).denT g_law ρ = some (false, ρ) := by
    have g1 : (C.cmp .gt (.ix (.var 7) (.int 1)) (.int 0)).denT g_law ρ = some (decide (0 < u), ρ) := by
      generalize (C.ix (.var 7) (.int 1)) = ca at c0' ⊢
      unfold nI at c0'
      simp [Den.Cd.denD, Den.fsStar, Den.f1, Den.fExt, Den.fRep, Den.fTr, Den.fCh, Den.opI, Den.opB, Den.opC, Den.opM, Den.bodyRun, Den.Ss.den, Den.S.den, Den.C.den, Den.C.denT, Den.Cs.denA, Den.Cs.denO, Den.Cs.denAT, Den.Cs.denOT, Den.Cs.denV, Den.Cs.denF, Den.Co.den, Den.Co.denT, Den.Ci.den, Den.Tg.den, Den.Tg.dens, Den.Tg.slots, Den.Tg.slotsL, Den.parL, Den.fSeq, Den.fRet, Den.fRetN, Den.fNop, Den.fBk, Den.fCt, Den.fSet, Den.fO, Den.fDrop, Den.SlOf, Den.notBg, Den.fIfS, Den.fIf, Den.fT, Den.truth, Den.fAnd, Den.fOr, Den.fNot, Den.fAndV, Den.fOrV, Den.fNotV, Den.isB, Den.fV, Den.fF, Den.frz, Den.half, Den.vw, Den.vws, Den.f1, Den.f2, Den.fL, Den.fM, Den.fVar, Den.fC, Den.fTup, Den.fLst, Den.fsCons, Den.fsNil, Den.fSetIx, Den.fAugIx, Den.fAug, Den.asInt, Den.items, Den.putItems, Den.sameKind, Den.fMut, Den.φApp, Den.φIns, Den.fCall, Den.fCallM, Den.fPar, Den.fPar3, Den.fAsg, Den.gNm, Den.gTp, Den.gsCons, Den.gsNil, Den.fSl, Den.fPt, Den.φSl, Den.add_int, Den.sub_int, Den.φNeg, Den.φCmp, Den.φIs, Den.φIsNot, Den.isNone, Den.len_lst, Den.len_tup, Den.φAbs, Den.φInt, Den.φTuple, Den.φList, Den.fdmt, Den.fdnp, L2.ixN, Den.eq_str, Den.ne_str, Den.eq_int, Den.ne_int, Den.ix_lst, Den.ix_tup, Den.at_zero, Den.at_one, Den.at_two, Den.at_three, Den.lim_lit, c0']
    by_cases h0 : 0 < u
    · have hk : 0 < kOf m := by
        rcases Nat.eq_zero_or_pos (kOf m) with z | z
        · rw [hu, z, Nat.mul_zero] at h0
          omega
        · exact z
      have cs2 : (C.sl (.var 6) .no (.so (.bin .sub (.ix (.var 7) (.int 1)) (.int 1)))).den g_law ρ = some (.va (.tuple (cD (c.take (u - 1)))), ρ) := by
        rw [← cut_hd, show ((u - 1 : Nat) : Int) = (u : Int) - 1 by omega]
        generalize (C.ix (.var 7) (.int 1)) = ca at c0' ⊢
        rw [← hρ] at c0' ⊢
        unfold stW nI at *
        generalize (u : Int) = U at *
        simp [Den.Cd.denD, Den.fsStar, Den.f1, Den.fExt, Den.fRep, Den.fTr, Den.fCh, Den.opI, Den.opB, Den.opC, Den.opM, Den.bodyRun, Den.Ss.den, Den.S.den, Den.C.den, Den.C.denT, Den.Cs.denA, Den.Cs.denO, Den.Cs.denAT, Den.Cs.denOT, Den.Cs.denV, Den.Cs.denF, Den.Co.den, Den.Co.denT, Den.Ci.den, Den.Tg.den, Den.Tg.dens, Den.Tg.slots, Den.Tg.slotsL, Den.parL, Den.fSeq, Den.fRet, Den.fRetN, Den.fNop, Den.fBk, Den.fCt, Den.fSet, Den.fO, Den.fDrop, Den.SlOf, Den.notBg, Den.fIfS, Den.fIf, Den.fT, Den.truth, Den.fAnd, Den.fOr, Den.fNot, Den.fAndV, Den.fOrV, Den.fNotV, Den.isB, Den.fV, Den.fF, Den.frz, Den.half, Den.vw, Den.vws, Den.f1, Den.f2, Den.fL, Den.fM, Den.fVar, Den.fC, Den.fTup, Den.fLst, Den.fsCons, Den.fsNil, Den.fSetIx, Den.fAugIx, Den.fAug, Den.asInt, Den.items, Den.putItems, Den.sameKind, Den.fMut, Den.φApp, Den.φIns, Den.fCall, Den.fCallM, Den.fPar, Den.fPar3, Den.fAsg, Den.gNm, Den.gTp, Den.gsCons, Den.gsNil, Den.fSl, Den.fPt, Den.φSl, Den.add_int, Den.sub_int, Den.φNeg, Den.φCmp, Den.φIs, Den.φIsNot, Den.isNone, Den.len_lst, Den.len_tup, Den.φAbs, Den.φInt, Den.φTuple, Den.φList, Den.fdmt, Den.fdnp, L2.ixN, Den.eq_str, Den.ne_str, Den.eq_int, Den.ne_int, Den.ix_lst, Den.ix_tup, Den.at_zero, Den.at_one, Den.at_two, Den.at_three, Den.lim_lit, c0']
      obtain ⟨R3, d3, x3⟩ := drw (c' := c.take (u - 1)) (by have := cut_len2 (c := c) (n := u - 1); omega) cs2
      have r3 : R3 = .none := drn_less p q hk (by rw [← hu]; exact d3)
      subst r3
      rw [decide_eq_true h0] at g1
      generalize (C.call 6 (.cons (.var 5) (.cons (.sl (.var 6) .no (.so (.bin .sub (.ix (.var 7) (.int 1)) (.int 1)))) .nil))) = ca at x3 ⊢
      generalize (C.cmp .gt (.ix (.var 7) (.int 1)) (.int 0)) = cb at g1 ⊢
      simp [Den.Cd.denD, Den.fsStar, Den.f1, Den.fExt, Den.fRep, Den.fTr, Den.fCh, Den.opI, Den.opB, Den.opC, Den.opM, Den.bodyRun, Den.Ss.den, Den.S.den, Den.C.den, Den.C.denT, Den.Cs.denA, Den.Cs.denO, Den.Cs.denAT, Den.Cs.denOT, Den.Cs.denV, Den.Cs.denF, Den.Co.den, Den.Co.denT, Den.Ci.den, Den.Tg.den, Den.Tg.dens, Den.Tg.slots, Den.Tg.slotsL, Den.parL, Den.fSeq, Den.fRet, Den.fRetN, Den.fNop, Den.fBk, Den.fCt, Den.fSet, Den.fO, Den.fDrop, Den.SlOf, Den.notBg, Den.fIfS, Den.fIf, Den.fT, Den.truth, Den.fAnd, Den.fOr, Den.fNot, Den.fAndV, Den.fOrV, Den.fNotV, Den.isB, Den.fV, Den.fF, Den.frz, Den.half, Den.vw, Den.vws, Den.f1, Den.f2, Den.fL, Den.fM, Den.fVar, Den.fC, Den.fTup, Den.fLst, Den.fsCons, Den.fsNil, Den.fSetIx, Den.fAugIx, Den.fAug, Den.asInt, Den.items, Den.putItems, Den.sameKind, Den.fMut, Den.φApp, Den.φIns, Den.fCall, Den.fCallM, Den.fPar, Den.fPar3, Den.fAsg, Den.gNm, Den.gTp, Den.gsCons, Den.gsNil, Den.fSl, Den.fPt, Den.φSl, Den.add_int, Den.sub_int, Den.φNeg, Den.φCmp, Den.φIs, Den.φIsNot, Den.isNone, Den.len_lst, Den.len_tup, Den.φAbs, Den.φInt, Den.φTuple, Den.φList, Den.fdmt, Den.fdnp, L2.ixN, Den.eq_str, Den.ne_str, Den.eq_int, Den.ne_int, Den.ix_lst, Den.ix_tup, Den.at_zero, Den.at_one, Den.at_two, Den.at_three, Den.lim_lit, g1, x3]
    · rw [decide_eq_false h0] at g1
      generalize (C.cmp .gt (.ix (.var 7) (.int 1)) (.int 0)) = cb at g1 ⊢
      simp [Den.Cd.denD, Den.fsStar, Den.f1, Den.fExt, Den.fRep, Den.fTr, Den.fCh, Den.opI, Den.opB, Den.opC, Den.opM, Den.bodyRun, Den.Ss.den, Den.S.den, Den.C.den, Den.C.denT, Den.Cs.denA, Den.Cs.denO, Den.Cs.denAT, Den.Cs.denOT, Den.Cs.denV, Den.Cs.denF, Den.Co.den, Den.Co.denT, Den.Ci.den, Den.Tg.den, Den.Tg.dens, Den.Tg.slots, Den.Tg.slotsL, Den.parL, Den.fSeq, Den.fRet, Den.fRetN, Den.fNop, Den.fBk, Den.fCt, Den.fSet, Den.fO, Den.fDrop, Den.SlOf, Den.notBg, Den.fIfS, Den.fIf, Den.fT, Den.truth, Den.fAnd, Den.fOr, Den.fNot, Den.fAndV, Den.fOrV, Den.fNotV, Den.isB, Den.fV, Den.fF, Den.frz, Den.half, Den.vw, Den.vws, Den.f1, Den.f2, Den.fL, Den.fM, Den.fVar, Den.fC, Den.fTup, Den.fLst, Den.fsCons, Den.fsNil, Den.fSetIx, Den.fAugIx, Den.fAug, Den.asInt, Den.items, Den.putItems, Den.sameKind, Den.fMut, Den.φApp, Den.φIns, Den.fCall, Den.fCallM, Den.fPar, Den.fPar3, Den.fAsg, Den.gNm, Den.gTp, Den.gsCons, Den.gsNil, Den.fSl, Den.fPt, Den.φSl, Den.add_int, Den.sub_int, Den.φNeg, Den.φCmp, Den.φIs, Den.φIsNot, Den.isNone, Den.len_lst, Den.len_tup, Den.φAbs, Den.φInt, Den.φTuple, Den.φList, Den.fdmt, Den.fdnp, L2.ixN, Den.eq_str, Den.ne_str, Den.eq_int, Den.ne_int, Den.ix_lst, Den.ix_tup, Den.at_zero, Den.at_one, Den.at_two, Den.at_three, Den.lim_lit, g1]
  refine ok_cons (ok_if t2 (fun z => by cases z) (fun _ => ok_nil (ok_nil ⟨rfl, β1, _, hb1, nb_va, hρ.symm⟩)))
end
end K52

set_option autoImplicit false
namespace K52
open PySem PySem.Spec L2 Den W
section
variable {sc : D} {β β' : List D} {s2 s3 s4 s5 s6 s7 s8 : Sl}
theorem lturn_ok (hb : Bag β) (p3 : Nb s3) (p4 : Nb s4) (p5 : Nb s5) (p6 : Nb s6) (p7 : Nb s7) (p8 : Nb s8) : Ok (b_law_1.den g_law (stW sc β s2 s3 s4 s5 s6 s7 s8)) fun o ρ => o = .nx ∧ ∃ β' s3 s4 s5 s6 s7 s8, Bag β' ∧ Nb s3 ∧ Nb s4 ∧ Nb s5 ∧ Nb s6 ∧ Nb s7 ∧ Nb s8 ∧ ρ = stW sc β' s2 s3 s4 s5 s6 s7 s8 := by
  unfold b_law_1
  refine ok_step (ρ1 := stW sc β s2 (.va (nI 1)) s4 s5 s6 s7 s8) (by
    unfold stW nI
    cases s3 <;> first | cases p3; done | simp [Den.Cd.denD, Den.fsStar, Den.f1, Den.fExt, Den.fRep, Den.fTr, Den.fCh, Den.opI, Den.opB, Den.opC, Den.opM, Den.bodyRun, Den.Ss.den, Den.S.den, Den.C.den, Den.C.denT, Den.Cs.denA, Den.Cs.denO, Den.Cs.denAT, Den.Cs.denOT, Den.Cs.denV, Den.Cs.denF, Den.Co.den, Den.Co.denT, Den.Ci.den, Den.Tg.den, Den.Tg.dens, Den.Tg.slots, Den.Tg.slotsL, Den.parL, Den.fSeq, Den.fRet, Den.fRetN, Den.fNop, Den.fBk, Den.fCt, Den.fSet, Den.fO, Den.fDrop, Den.SlOf, Den.notBg, Den.fIfS, Den.fIf, Den.fT, Den.truth, Den.fAnd, Den.fOr, Den.fNot, Den.fAndV, Den.fOrV, Den.fNotV, Den.isB, Den.fV, Den.fF, Den.frz, Den.half, Den.vw, Den.vws, Den.f1, Den.f2, Den.fL, Den.fM, Den.fVar, Den.fC, Den.fTup, Den.fLst, Den.fsCons, Den.fsNil, Den.fSetIx, Den.fAugIx, Den.fAug, Den.asInt, Den.items, Den.putItems, Den.sameKind, Den.fMut, Den.φApp, Den.φIns, Den.fCall, Den.fCallM, Den.fPar, Den.fPar3, Den.fAsg, Den.gNm, Den.gTp, Den.gsCons, Den.gsNil, Den.fSl, Den.fPt, Den.φSl, Den.add_int, Den.sub_int, Den.φNeg, Den.φCmp, Den.φIs, Den.φIsNot, Den.isNone, Den.len_lst, Den.len_tup, Den.φAbs, Den.φInt, Den.φTuple, Den.φList, Den.fdmt, Den.fdnp, L2.ixN, Den.eq_str, Den.ne_str, Den.eq_int, Den.ne_int, Den.ix_lst, Den.ix_tup, Den.at_zero, Den.at_one, Den.at_two, Den.at_three, Den.lim_lit]) ?_
  refine ok_cons (ok_mono (power_ok hb p4) ?_)
  rintro o ρ ⟨rfl, β1, w, s4, hb1, hw, p4, rfl⟩
  obtain ⟨m, β2, hm, hm2, hb2, c5⟩ := many_ok (sc := sc) (s2 := s2) (s4 := s4) (s5 := s5) (s6 := s6) (s7 := s7) (s8 := s8) hb1 hw
  refine ok_step (set_va c5 p5 rfl rfl) ?_
  show Ok (Ss.den g_law _ (stW sc β2 s2 (.va (nI (2 ^ w))) s4 (.va (nI m)) s6 s7 s8)) _
  obtain ⟨t3, h3, p3⟩ : ∃ t3, Sl.va (nI (2 ^ w)) = t3 ∧ Nb t3 := ⟨_, rfl, nb_va⟩
  rw [h3]
  obtain ⟨x, β3, ⟨n, rfl, hn⟩, hb3, e3⟩ := some_p (fun x => ∃ n : Nat, x = nI n ∧ n ≤ 60) (things := [PyData.int 0, .int 3, .int 12, .int 60]) hb2 (by simp) (by simp) (fun x hx => by
    simp only [List.mem_cons, List.not_mem_nil, or_false] at hx
    rcases hx with rfl | rfl | rfl | rfl
    · exact ⟨0, rfl, by omega⟩
    · exact ⟨3, rfl, by omega⟩
    · exact ⟨12, rfl, by omega⟩
    · exact ⟨60, rfl, by omega⟩)
  have c6 := den_callM (Γ := g_law) (i := 1) (ρ := stW sc β2 s2 t3 s4 (.va (nI m)) s6 s7 s8) (ρ1 := stW sc β2 s2 t3 s4 (.va (nI m)) s6 s7 s8) f_law_2 (es := .cons (.lst (.cons (.int 0) (.cons (.int 3) (.cons (.int 12) (.cons (.int 60) .nil))))) .nil) (by simp [Den.Cd.denD, Den.fsStar, Den.f1, Den.fExt, Den.fRep, Den.fTr, Den.fCh, Den.opI, Den.opB, Den.opC, Den.opM, Den.bodyRun, Den.Ss.den, Den.S.den, Den.C.den, Den.C.denT, Den.Cs.denA, Den.Cs.denO, Den.Cs.denAT, Den.Cs.denOT, Den.Cs.denV, Den.Cs.denF, Den.Co.den, Den.Co.denT, Den.Ci.den, Den.Tg.den, Den.Tg.dens, Den.Tg.slots, Den.Tg.slotsL, Den.parL, Den.fSeq, Den.fRet, Den.fRetN, Den.fNop, Den.fBk, Den.fCt, Den.fSet, Den.fO, Den.fDrop, Den.SlOf, Den.notBg, Den.fIfS, Den.fIf, Den.fT, Den.truth, Den.fAnd, Den.fOr, Den.fNot, Den.fAndV, Den.fOrV, Den.fNotV, Den.isB, Den.fV, Den.fF, Den.frz, Den.half, Den.vw, Den.vws, Den.f1, Den.f2, Den.fL, Den.fM, Den.fVar, Den.fC, Den.fTup, Den.fLst, Den.fsCons, Den.fsNil, Den.fSetIx, Den.fAugIx, Den.fAug, Den.asInt, Den.items, Den.putItems, Den.sameKind, Den.fMut, Den.φApp, Den.φIns, Den.fCall, Den.fCallM, Den.fPar, Den.fPar3, Den.fAsg, Den.gNm, Den.gTp, Den.gsCons, Den.gsNil, Den.fSl, Den.fPt, Den.φSl, Den.add_int, Den.sub_int, Den.φNeg, Den.φCmp, Den.φIs, Den.φIsNot, Den.isNone, Den.len_lst, Den.len_tup, Den.φAbs, Den.φInt, Den.φTuple, Den.φList, Den.fdmt, Den.fdnp, L2.ixN, Den.eq_str, Den.ne_str, Den.eq_int, Den.ne_int, Den.ix_lst, Den.ix_tup, Den.at_zero, Den.at_one, Den.at_two, Den.at_three, Den.lim_lit]) rfl rfl e3 mt_lsome np_lsome
  have ep : putItems (stW sc β2 s2 t3 s4 (.va (nI m)) s6 s7 s8) 1 β3 = stW sc β3 s2 t3 s4 (.va (nI m)) s6 s7 s8 := rfl
  rw [ep] at c6
  obtain ⟨r4, β4, e4, c, rfl, hc, hb4⟩ := lcoins_ok (n := n) hb3 (by omega)
  have c7 := den_callM (Γ := g_law) (i := 1) (ρ := stW sc β2 s2 t3 s4 (.va (nI m)) s6 s7 s8) f_law_3 (denF_one c6 rfl) rfl rfl e4 mt_lcoins np_lcoins
  have ep2 : putItems (stW sc β3 s2 t3 s4 (.va (nI m)) s6 s7 s8) 1 β4 = stW sc β4 s2 t3 s4 (.va (nI m)) s6 s7 s8 := rfl
  rw [ep2] at c7
  refine ok_step (set_va c7 p6 rfl rfl) ?_
  show Ok (Ss.den g_law _ (stW sc β4 s2 t3 s4 (.va (nI m)) (.va (.tuple (cD c))) s7 s8)) _
  obtain ⟨R, hR, e5⟩ := ldrawn_ok (m := m) (c := c) hm (Nat.le_trans hm2 (by decide)) (by omega)
  have c8 : (C.call 4 (.cons (.var 5) (.cons (.var 6) .nil))).den g_law (stW sc β4 s2 t3 s4 (.va (nI m)) (.va (.tuple (cD c))) s7 s8) = some (.va R, stW sc β4 s2 t3 s4 (.va (nI m)) (.va (.tuple (cD c))) s7 s8) :=
    den_call f_law_4 (ds := [nI m, .tuple (cD c)]) (by unfold stW; simp [Den.Cd.denD, Den.fsStar, Den.f1, Den.fExt, Den.fRep, Den.fTr, Den.fCh, Den.opI, Den.opB, Den.opC, Den.opM, Den.bodyRun, Den.Ss.den, Den.S.den, Den.C.den, Den.C.denT, Den.Cs.denA, Den.Cs.denO, Den.Cs.denAT, Den.Cs.denOT, Den.Cs.denV, Den.Cs.denF, Den.Co.den, Den.Co.denT, Den.Ci.den, Den.Tg.den, Den.Tg.dens, Den.Tg.slots, Den.Tg.slotsL, Den.parL, Den.fSeq, Den.fRet, Den.fRetN, Den.fNop, Den.fBk, Den.fCt, Den.fSet, Den.fO, Den.fDrop, Den.SlOf, Den.notBg, Den.fIfS, Den.fIf, Den.fT, Den.truth, Den.fAnd, Den.fOr, Den.fNot, Den.fAndV, Den.fOrV, Den.fNotV, Den.isB, Den.fV, Den.fF, Den.frz, Den.half, Den.vw, Den.vws, Den.f1, Den.f2, Den.fL, Den.fM, Den.fVar, Den.fC, Den.fTup, Den.fLst, Den.fsCons, Den.fsNil, Den.fSetIx, Den.fAugIx, Den.fAug, Den.asInt, Den.items, Den.putItems, Den.sameKind, Den.fMut, Den.φApp, Den.φIns, Den.fCall, Den.fCallM, Den.fPar, Den.fPar3, Den.fAsg, Den.gNm, Den.gTp, Den.gsCons, Den.gsNil, Den.fSl, Den.fPt, Den.φSl, Den.add_int, Den.sub_int, Den.φNeg, Den.φCmp, Den.φIs, Den.φIsNot, Den.isNone, Den.len_lst, Den.len_tup, Den.φAbs, Den.φInt, Den.φTuple, Den.φList, Den.fdmt, Den.fdnp, L2.ixN, Den.eq_str, Den.ne_str, Den.eq_int, Den.ne_int, Den.ix_lst, Den.ix_tup, Den.at_zero, Den.at_one, Den.at_two, Den.at_three, Den.lim_lit]) e5 mt_ldrawn np_ldrawn
  refine ok_step (set_va c8 p7 rfl rfl) ?_
  show Ok (Ss.den g_law _ (stW sc β4 s2 t3 s4 (.va (nI m)) (.va (.tuple (cD c))) (.va R) s8)) _
  obtain ⟨R', hR', e6⟩ := drawn_ok (m := m) (c := c) hm (by omega)
  have := drn_one hR' hR
  subst this
  have hfR : Fine R' := by
    rcases hR with ⟨t, p, q, h⟩ | ⟨q, h⟩
    · rw [h]
      have := p.1
      have := p.2
      exact (fine_res (by omega) (by omega)).1
    · rw [h]
      exact fine_of rfl (by simp [PyData.depth]) (by simp [PyData.bulk])
  have c9 : (C.call 6 (.cons (.var 5) (.cons (.var 6) .nil))).den g_law (stW sc β4 s2 t3 s4 (.va (nI m)) (.va (.tuple (cD c))) (.va R') s8) = some (.va R', stW sc β4 s2 t3 s4 (.va (nI m)) (.va (.tuple (cD c))) (.va R') s8) :=
    den_call f_law_6 (ds := [nI m, .tuple (cD c)]) (by unfold stW; simp [Den.Cd.denD, Den.fsStar, Den.f1, Den.fExt, Den.fRep, Den.fTr, Den.fCh, Den.opI, Den.opB, Den.opC, Den.opM, Den.bodyRun, Den.Ss.den, Den.S.den, Den.C.den, Den.C.denT, Den.Cs.denA, Den.Cs.denO, Den.Cs.denAT, Den.Cs.denOT, Den.Cs.denV, Den.Cs.denF, Den.Co.den, Den.Co.denT, Den.Ci.den, Den.Tg.den, Den.Tg.dens, Den.Tg.slots, Den.Tg.slotsL, Den.parL, Den.fSeq, Den.fRet, Den.fRetN, Den.fNop, Den.fBk, Den.fCt, Den.fSet, Den.fO, Den.fDrop, Den.SlOf, Den.notBg, Den.fIfS, Den.fIf, Den.fT, Den.truth, Den.fAnd, Den.fOr, Den.fNot, Den.fAndV, Den.fOrV, Den.fNotV, Den.isB, Den.fV, Den.fF, Den.frz, Den.half, Den.vw, Den.vws, Den.f1, Den.f2, Den.fL, Den.fM, Den.fVar, Den.fC, Den.fTup, Den.fLst, Den.fsCons, Den.fsNil, Den.fSetIx, Den.fAugIx, Den.fAug, Den.asInt, Den.items, Den.putItems, Den.sameKind, Den.fMut, Den.φApp, Den.φIns, Den.fCall, Den.fCallM, Den.fPar, Den.fPar3, Den.fAsg, Den.gNm, Den.gTp, Den.gsCons, Den.gsNil, Den.fSl, Den.fPt, Den.φSl, Den.add_int, Den.sub_int, Den.φNeg, Den.φCmp, Den.φIs, Den.φIsNot, Den.isNone, Den.len_lst, Den.len_tup, Den.φAbs, Den.φInt, Den.φTuple, Den.φList, Den.fdmt, Den.fdnp, L2.ixN, Den.eq_str, Den.ne_str, Den.eq_int, Den.ne_int, Den.ix_lst, Den.ix_tup, Den.at_zero, Den.at_one, Den.at_two, Den.at_three, Den.lim_lit]) e6 mt_drawn np_drawn
  have c10 : (C.call 5 (.cons (.call 6 (.cons (.var 5) (.cons (.var 6) .nil))) (.cons (.var 7) .nil))).den g_law (stW sc β4 s2 t3 s4 (.va (nI m)) (.va (.tuple (cD c))) (.va R') s8) = some (.va (.bool true), stW sc β4 s2 t3 s4 (.va (nI m)) (.va (.tuple (cD c))) (.va R') s8) := by
    refine den_call f_law_5 (ds := [R', R']) ?_ (alike_ok hfR) mt_lalike np_lalike
    generalize (C.call 6 (.cons (.var 5) (.cons (.var 6) .nil))) = ca at c9 ⊢
    unfold stW at *
    simp [Den.Cd.denD, Den.fsStar, Den.f1, Den.fExt, Den.fRep, Den.fTr, Den.fCh, Den.opI, Den.opB, Den.opC, Den.opM, Den.bodyRun, Den.Ss.den, Den.S.den, Den.C.den, Den.C.denT, Den.Cs.denA, Den.Cs.denO, Den.Cs.denAT, Den.Cs.denOT, Den.Cs.denV, Den.Cs.denF, Den.Co.den, Den.Co.denT, Den.Ci.den, Den.Tg.den, Den.Tg.dens, Den.Tg.slots, Den.Tg.slotsL, Den.parL, Den.fSeq, Den.fRet, Den.fRetN, Den.fNop, Den.fBk, Den.fCt, Den.fSet, Den.fO, Den.fDrop, Den.SlOf, Den.notBg, Den.fIfS, Den.fIf, Den.fT, Den.truth, Den.fAnd, Den.fOr, Den.fNot, Den.fAndV, Den.fOrV, Den.fNotV, Den.isB, Den.fV, Den.fF, Den.frz, Den.half, Den.vw, Den.vws, Den.f1, Den.f2, Den.fL, Den.fM, Den.fVar, Den.fC, Den.fTup, Den.fLst, Den.fsCons, Den.fsNil, Den.fSetIx, Den.fAugIx, Den.fAug, Den.asInt, Den.items, Den.putItems, Den.sameKind, Den.fMut, Den.φApp, Den.φIns, Den.fCall, Den.fCallM, Den.fPar, Den.fPar3, Den.fAsg, Den.gNm, Den.gTp, Den.gsCons, Den.gsNil, Den.fSl, Den.fPt, Den.φSl, Den.add_int, Den.sub_int, Den.φNeg, Den.φCmp, Den.φIs, Den.φIsNot, Den.isNone, Den.len_lst, Den.len_tup, Den.φAbs, Den.φInt, Den.φTuple, Den.φList, Den.fdmt, Den.fdnp, L2.ixN, Den.eq_str, Den.ne_str, Den.eq_int, Den.ne_int, Den.ix_lst, Den.ix_tup, Den.at_zero, Den.at_one, Den.at_two, Den.at_three, Den.lim_lit, c9]
  refine ok_cons (ok_if (not_call c10) (fun z => by cases z) (fun _ => ok_nil ?_))
  rcases hR with ⟨t, p, q, h⟩ | ⟨q, h⟩
  · refine ok_cons (ok_if (v := true) (ρ1 := stW sc β4 s2 t3 s4 (.va (nI m)) (.va (.tuple (cD c))) (.va R') s8) (by rw [h]; unfold stW resD; simp [Den.Cd.denD, Den.fsStar, Den.f1, Den.fExt, Den.fRep, Den.fTr, Den.fCh, Den.opI, Den.opB, Den.opC, Den.opM, Den.bodyRun, Den.Ss.den, Den.S.den, Den.C.den, Den.C.denT, Den.Cs.denA, Den.Cs.denO, Den.Cs.denAT, Den.Cs.denOT, Den.Cs.denV, Den.Cs.denF, Den.Co.den, Den.Co.denT, Den.Ci.den, Den.Tg.den, Den.Tg.dens, Den.Tg.slots, Den.Tg.slotsL, Den.parL, Den.fSeq, Den.fRet, Den.fRetN, Den.fNop, Den.fBk, Den.fCt, Den.fSet, Den.fO, Den.fDrop, Den.SlOf, Den.notBg, Den.fIfS, Den.fIf, Den.fT, Den.truth, Den.fAnd, Den.fOr, Den.fNot, Den.fAndV, Den.fOrV, Den.fNotV, Den.isB, Den.fV, Den.fF, Den.frz, Den.half, Den.vw, Den.vws, Den.f1, Den.f2, Den.fL, Den.fM, Den.fVar, Den.fC, Den.fTup, Den.fLst, Den.fsCons, Den.fsNil, Den.fSetIx, Den.fAugIx, Den.fAug, Den.asInt, Den.items, Den.putItems, Den.sameKind, Den.fMut, Den.φApp, Den.φIns, Den.fCall, Den.fCallM, Den.fPar, Den.fPar3, Den.fAsg, Den.gNm, Den.gTp, Den.gsCons, Den.gsNil, Den.fSl, Den.fPt, Den.φSl, Den.add_int, Den.sub_int, Den.φNeg, Den.φCmp, Den.φIs, Den.φIsNot, Den.isNone, Den.len_lst, Den.len_tup, Den.φAbs, Den.φInt, Den.φTuple, Den.φList, Den.fdmt, Den.fdnp, L2.ixN, Den.eq_str, Den.ne_str, Den.eq_int, Den.ne_int, Den.ix_lst, Den.ix_tup, Den.at_zero, Den.at_one, Den.at_two, Den.at_three, Den.lim_lit]) (fun _ => ?_) (fun z => by cases z))
    refine ok_mono (seen_ok hm hm2 (by omega) p q hb4 p8 h) ?_
    rintro o ρ ⟨rfl, β5, s8, hb5, p8, rfl⟩
    refine ok_nil ⟨rfl, β5, t3, s4, _, _, _, s8, hb5, p3, p4, nb_va, nb_va, nb_va, p8, rfl⟩
  · refine ok_cons (ok_if (v := false) (ρ1 := stW sc β4 s2 t3 s4 (.va (nI m)) (.va (.tuple (cD c))) (.va R') s8) (by rw [h]; unfold stW; simp [Den.Cd.denD, Den.fsStar, Den.f1, Den.fExt, Den.fRep, Den.fTr, Den.fCh, Den.opI, Den.opB, Den.opC, Den.opM, Den.bodyRun, Den.Ss.den, Den.S.den, Den.C.den, Den.C.denT, Den.Cs.denA, Den.Cs.denO, Den.Cs.denAT, Den.Cs.denOT, Den.Cs.denV, Den.Cs.denF, Den.Co.den, Den.Co.denT, Den.Ci.den, Den.Tg.den, Den.Tg.dens, Den.Tg.slots, Den.Tg.slotsL, Den.parL, Den.fSeq, Den.fRet, Den.fRetN, Den.fNop, Den.fBk, Den.fCt, Den.fSet, Den.fO, Den.fDrop, Den.SlOf, Den.notBg, Den.fIfS, Den.fIf, Den.fT, Den.truth, Den.fAnd, Den.fOr, Den.fNot, Den.fAndV, Den.fOrV, Den.fNotV, Den.isB, Den.fV, Den.fF, Den.frz, Den.half, Den.vw, Den.vws, Den.f1, Den.f2, Den.fL, Den.fM, Den.fVar, Den.fC, Den.fTup, Den.fLst, Den.fsCons, Den.fsNil, Den.fSetIx, Den.fAugIx, Den.fAug, Den.asInt, Den.items, Den.putItems, Den.sameKind, Den.fMut, Den.φApp, Den.φIns, Den.fCall, Den.fCallM, Den.fPar, Den.fPar3, Den.fAsg, Den.gNm, Den.gTp, Den.gsCons, Den.gsNil, Den.fSl, Den.fPt, Den.φSl, Den.add_int, Den.sub_int, Den.φNeg, Den.φCmp, Den.φIs, Den.φIsNot, Den.isNone, Den.len_lst, Den.len_tup, Den.φAbs, Den.φInt, Den.φTuple, Den.φList, Den.fdmt, Den.fdnp, L2.ixN, Den.eq_str, Den.ne_str, Den.eq_int, Den.ne_int, Den.ix_lst, Den.ix_tup, Den.at_zero, Den.at_one, Den.at_two, Den.at_three, Den.lim_lit]) (fun z => by cases z) (fun _ => ok_nil ?_))
    exact ok_nil ⟨rfl, β4, t3, s4, _, _, _, s8, hb4, p3, p4, nb_va, nb_va, nb_va, p8, rfl⟩
end
theorem law_true (ns : List Int) (h : ns.length ≤ 63) : d_law.run [] [.list (ns.map PyData.int)] = some (.va (.bool true), []) := by
  refine eqr ?_
  rw [r_law]
  refine run_f ?_
  obtain ⟨β, hb, e⟩ := bag_ok h
  have c1 : (C.call 0 (.cons (.var 0) .nil)).den g_law [.va (.list (ns.map .int)), .no, .no, .no, .no, .no, .no, .no, .no] = some (.ls β, [.va (.list (ns.map .int)), .no, .no, .no, .no, .no, .no, .no, .no]) :=
    den_call f_law_0 (ρ1 := [.va (.list (ns.map .int)), .no, .no, .no, .no, .no, .no, .no, .no]) (by simp [Den.Cd.denD, Den.fsStar, Den.f1, Den.fExt, Den.fRep, Den.fTr, Den.fCh, Den.opI, Den.opB, Den.opC, Den.opM, Den.bodyRun, Den.Ss.den, Den.S.den, Den.C.den, Den.C.denT, Den.Cs.denA, Den.Cs.denO, Den.Cs.denAT, Den.Cs.denOT, Den.Cs.denV, Den.Cs.denF, Den.Co.den, Den.Co.denT, Den.Ci.den, Den.Tg.den, Den.Tg.dens, Den.Tg.slots, Den.Tg.slotsL, Den.parL, Den.fSeq, Den.fRet, Den.fRetN, Den.fNop, Den.fBk, Den.fCt, Den.fSet, Den.fO, Den.fDrop, Den.SlOf, Den.notBg, Den.fIfS, Den.fIf, Den.fT, Den.truth, Den.fAnd, Den.fOr, Den.fNot, Den.fAndV, Den.fOrV, Den.fNotV, Den.isB, Den.fV, Den.fF, Den.frz, Den.half, Den.vw, Den.vws, Den.f1, Den.f2, Den.fL, Den.fM, Den.fVar, Den.fC, Den.fTup, Den.fLst, Den.fsCons, Den.fsNil, Den.fSetIx, Den.fAugIx, Den.fAug, Den.asInt, Den.items, Den.putItems, Den.sameKind, Den.fMut, Den.φApp, Den.φIns, Den.fCall, Den.fCallM, Den.fPar, Den.fPar3, Den.fAsg, Den.gNm, Den.gTp, Den.gsCons, Den.gsNil, Den.fSl, Den.fPt, Den.φSl, Den.add_int, Den.sub_int, Den.φNeg, Den.φCmp, Den.φIs, Den.φIsNot, Den.isNone, Den.len_lst, Den.len_tup, Den.φAbs, Den.φInt, Den.φTuple, Den.φList, Den.fdmt, Den.fdnp, L2.ixN, Den.eq_str, Den.ne_str, Den.eq_int, Den.ne_int, Den.ix_lst, Den.ix_tup, Den.at_zero, Den.at_one, Den.at_two, Den.at_three, Den.lim_lit]) e mt_lbag np_lbag
  refine ok_step (set_ls c1 nb_no rfl rfl) ?_
  show Ok (Ss.den g_law _ (stW (.list (ns.map .int)) β .no .no .no .no .no .no .no)) _
  refine ok_cons (for_at (f := nI) (l := List.range 8) (ρ1 := stW (.list (ns.map .int)) β .no .no .no .no .no .no .no)
    (fun i ρ => ∃ β s2 s3 s4 s5 s6 s7 s8, Bag β ∧ Nb s2 ∧ Nb s3 ∧ Nb s4 ∧ Nb s5 ∧ Nb s6 ∧ Nb s7 ∧ Nb s8 ∧ ρ = stW (.list (ns.map .int)) β s2 s3 s4 s5 s6 s7 s8)
    ?_ ⟨β, .no, .no, .no, .no, .no, .no, .no, hb, nb_no, nb_no, nb_no, nb_no, nb_no, nb_no, nb_no, rfl⟩ ?_ ?_)
  · rw [it_rng1 (x := 8) (ρ1 := stW (.list (ns.map .int)) β .no .no .no .no .no .no .no) (by simp [Den.Cd.denD, Den.fsStar, Den.f1, Den.fExt, Den.fRep, Den.fTr, Den.fCh, Den.opI, Den.opB, Den.opC, Den.opM, Den.bodyRun, Den.Ss.den, Den.S.den, Den.C.den, Den.C.denT, Den.Cs.denA, Den.Cs.denO, Den.Cs.denAT, Den.Cs.denOT, Den.Cs.denV, Den.Cs.denF, Den.Co.den, Den.Co.denT, Den.Ci.den, Den.Tg.den, Den.Tg.dens, Den.Tg.slots, Den.Tg.slotsL, Den.parL, Den.fSeq, Den.fRet, Den.fRetN, Den.fNop, Den.fBk, Den.fCt, Den.fSet, Den.fO, Den.fDrop, Den.SlOf, Den.notBg, Den.fIfS, Den.fIf, Den.fT, Den.truth, Den.fAnd, Den.fOr, Den.fNot, Den.fAndV, Den.fOrV, Den.fNotV, Den.isB, Den.fV, Den.fF, Den.frz, Den.half, Den.vw, Den.vws, Den.f1, Den.f2, Den.fL, Den.fM, Den.fVar, Den.fC, Den.fTup, Den.fLst, Den.fsCons, Den.fsNil, Den.fSetIx, Den.fAugIx, Den.fAug, Den.asInt, Den.items, Den.putItems, Den.sameKind, Den.fMut, Den.φApp, Den.φIns, Den.fCall, Den.fCallM, Den.fPar, Den.fPar3, Den.fAsg, Den.gNm, Den.gTp, Den.gsCons, Den.gsNil, Den.fSl, Den.fPt, Den.φSl, Den.add_int, Den.sub_int, Den.φNeg, Den.φCmp, Den.φIs, Den.φIsNot, Den.isNone, Den.len_lst, Den.len_tup, Den.φAbs, Den.φInt, Den.φTuple, Den.φList, Den.fdmt, Den.fdnp, L2.ixN, Den.eq_str, Den.ne_str, Den.eq_int, Den.ne_int, Den.ix_lst, Den.ix_tup, Den.at_zero, Den.at_one, Den.at_two, Den.at_three, Den.lim_lit]) (by omega)]
    rfl
  · rintro i hi ρ ⟨β, s2, s3, s4, s5, s6, s7, s8, hb, p2, p3, p4, p5, p6, p7, p8, rfl⟩
    refine ⟨stW (.list (ns.map .int)) β (.va (nI (List.range 8)[i])) s3 s4 s5 s6 s7 s8, nm_ok p2 rfl rfl, ok_mono (lturn_ok hb p3 p4 p5 p6 p7 p8) ?_⟩
    rintro o ρ ⟨rfl, β', s3, s4, s5, s6, s7, s8, hb', p3, p4, p5, p6, p7, p8, rfl⟩
    exact ⟨β', _, s3, s4, s5, s6, s7, s8, hb', nb_va, p3, p4, p5, p6, p7, p8, rfl⟩
  · rintro ρ ⟨β, s2, s3, s4, s5, s6, s7, s8, hb, p2, p3, p4, p5, p6, p7, p8, rfl⟩
    exact ok_last (r := .va (.bool true)) (ρ1 := stW (.list (ns.map .int)) β s2 s3 s4 s5 s6 s7 s8) (by simp [Den.Cd.denD, Den.fsStar, Den.f1, Den.fExt, Den.fRep, Den.fTr, Den.fCh, Den.opI, Den.opB, Den.opC, Den.opM, Den.bodyRun, Den.Ss.den, Den.S.den, Den.C.den, Den.C.denT, Den.Cs.denA, Den.Cs.denO, Den.Cs.denAT, Den.Cs.denOT, Den.Cs.denV, Den.Cs.denF, Den.Co.den, Den.Co.denT, Den.Ci.den, Den.Tg.den, Den.Tg.dens, Den.Tg.slots, Den.Tg.slotsL, Den.parL, Den.fSeq, Den.fRet, Den.fRetN, Den.fNop, Den.fBk, Den.fCt, Den.fSet, Den.fO, Den.fDrop, Den.SlOf, Den.notBg, Den.fIfS, Den.fIf, Den.fT, Den.truth, Den.fAnd, Den.fOr, Den.fNot, Den.fAndV, Den.fOrV, Den.fNotV, Den.isB, Den.fV, Den.fF, Den.frz, Den.half, Den.vw, Den.vws, Den.f1, Den.f2, Den.fL, Den.fM, Den.fVar, Den.fC, Den.fTup, Den.fLst, Den.fsCons, Den.fsNil, Den.fSetIx, Den.fAugIx, Den.fAug, Den.asInt, Den.items, Den.putItems, Den.sameKind, Den.fMut, Den.φApp, Den.φIns, Den.fCall, Den.fCallM, Den.fPar, Den.fPar3, Den.fAsg, Den.gNm, Den.gTp, Den.gsCons, Den.gsNil, Den.fSl, Den.fPt, Den.φSl, Den.add_int, Den.sub_int, Den.φNeg, Den.φCmp, Den.φIs, Den.φIsNot, Den.isNone, Den.len_lst, Den.len_tup, Den.φAbs, Den.φInt, Den.φTuple, Den.φList, Den.fdmt, Den.fdnp, L2.ixN, Den.eq_str, Den.ne_str, Den.eq_int, Den.ne_int, Den.ix_lst, Den.ix_tup, Den.at_zero, Den.at_one, Den.at_two, Den.at_three, Den.lim_lit]) ⟨rfl, rfl⟩
end K52

open PySem PySem.W PyProof.Rows
set_option maxHeartbeats 0 in
theorem PySem.Challenge.cw_wellstrewn_k52_numbers_drawn_by_coins_holds : PySem.Challenge.rw_wellstrewn_k52_numbers_drawn_by_coins.Holds := by
  w_on; o_law; k_head; (case hw => w_witness2)
  k_fill
  refine Den.law_walk (l := PySem.Challenge.rw_wellstrewn_k52_numbers_drawn_by_coins) (n := 63) (k := 3) (x := "script") (fdn := K52.d_law) rfl (by decide) rfl ⟨rfl, by decide, by decide⟩ (fun w h Y => PySem.W.kIn_of Y) ?F rfl rfl K52.law_true
  case F =>
    intro w mg fa h KX G hmg
    refine' K52.all_mk KX G hmg ?ha0 ?hl0 ?hc0 ?hk0 ?ha1 ?hl1 ?hc1 ?hk1 ?ha2 ?hl2 ?hc2 ?hk2 ?ha3 ?hl3 ?hc3 ?hk3 ?ha4 ?hl4 ?hc4 ?hk4 ?ha5 ?hl5 ?hc5 ?hk5 ?ha6 ?hl6 ?hc6 ?hk6 ?ha7 ?hl7 ?hc7 ?hk7 ?ha8 ?hl8 ?hc8 ?hk8 ?ha9 ?hl9 ?hc9 ?hk9 ?hz0 ?hz1 ?hz2 ?hz3 ?hz4 ?hz5 ?hz6 ?hz7
    case ha0 => k_is
    case hl0 => k_is
    case hc0 => k_is
    case hk0 => k_is
    case ha1 => k_is
    case hl1 => k_is
    case hc1 => k_is
    case hk1 => k_is
    case ha2 => k_is
    case hl2 => k_is
    case hc2 => k_is
    case hk2 => k_is
    case ha3 => k_is
    case hl3 => k_is
    case hc3 => k_is
    case hk3 => k_is
    case ha4 => k_is
    case hl4 => k_is
    case hc4 => k_is
    case hk4 => k_is
    case ha5 => k_is
    case hl5 => k_is
    case hc5 => k_is
    case hk5 => k_is
    case ha6 => k_is
    case hl6 => k_is
    case hc6 => k_is
    case hk6 => k_is
    case ha7 => k_is
    case hl7 => k_is
    case hc7 => k_is
    case hk7 => k_is
    case ha8 => k_is
    case hl8 => k_is
    case hc8 => k_is
    case hk8 => k_is
    case ha9 => k_is
    case hl9 => k_is
    case hc9 => k_is
    case hk9 => k_is
    case hz0 => k_is
    case hz1 => k_is
    case hz2 => k_is
    case hz3 => k_is
    case hz4 => k_is
    case hz5 => k_is
    case hz6 => k_is
    case hz7 => k_is
