import PyProof.Rows.All
import HandS.ForMost
import HandS.Deep
import HandS.TupAny
import HandS.More
import HandS.Conv
import HandS.Style
import HandS.Wide
import KE.SortData
import KE.DataAny
import KE.DataIsa
import PyProof.ReprRoads
import PyProof.FactsAll.dict_1
import PyProof.FactsAll.tuple_1
import PyProof.FactsAll.subtypes_4
import PyProof.EqKinds
import HandS.Flt
import KE.GoesMore
import KE.GoesEnum
import PyProof.TupleOfSeq
import HandS.Star
import HandS.IsInst
import HandS.Zip
import HandS.WideBits
import KE.KDictDisplayH
import HandS.Call
import HandS.SetBool
import HandS.Zip0
import KE.KDictZip
import KE.KItemsList
import PyProof.ReprBulk
import PyProof.ReprLoop
import PySem.Challenge.RW_wellstrewn_k16_parts_judged_and_listed
set_option Elab.async false
set_option linter.all false
set_option maxRecDepth 100000
set_option autoImplicit false
namespace Den
open PySem PySem.Spec L2

abbrev D := PyData
def kD : Key → D
  | .inl i => .int i
  | .inr x => .str x
mutual
/-- a value holds a datum; a dict of plain keys may be one -/
inductive Dp (K : PySem.W.Frag) (H : Hp) : V → D → Prop
  | non : Dp K H .non .none
  | bl (b : Bool) : Dp K H (.bl b) (.bool b)
  | int (i : Int) : Dp K H (.int i) (.int i)
  | str (x : Str) : Dp K H (.str x) (.str x)
  | lst {a : Addr} {xs : List V} {ds : List D} : SqL K H a xs → DpAll K H xs ds → Dp K H (.ref a) (.list ds)
  | tup {a : Addr} {xs : List V} {ds : List D} : SqT K H a xs → DpAll K H xs ds → Dp K H (.ref a) (.tuple ds)
  | dct {a : Addr} {xs : List (Key × V)} {ds : List D} : H a = some (.dK xs) → DpAll K H (xs.map (·.2)) ds → Dp K H (.ref a) (.dict ((xs.map fun x => kD x.1).zip ds))
inductive DpAll (K : PySem.W.Frag) (H : Hp) : List V → List D → Prop
  | nil : DpAll K H [] []
  | cons {v : V} {vs : List V} {d : D} {ds : List D} : Dp K H v d → DpAll K H vs ds → DpAll K H (v :: vs) (d :: ds)
end
mutual
/-- a datum without a dict is one for the library too -/
theorem Dp.toL {K : PySem.W.Frag} {H : Hp} : ∀ {v : V} {d : D}, d.canLay0 = true → Dp K H v d → L2.Dp K H v d
  | _, _, _, .non => .non
  | _, _, _, .bl b => .bl b
  | _, _, _, .int i => .int i
  | _, _, _, .str x => .str x
  | _, _, e, .lst h a => .lst h (DpAll.toL (by simpa [PyData.canLay0] using e) a)
  | _, _, e, .tup h a => .tup h (DpAll.toL (by simpa [PyData.canLay0] using e) a)
  | _, _, e, .dct h a => by simp [PyData.canLay0] at e
theorem DpAll.toL {K : PySem.W.Frag} {H : Hp} : ∀ {vs : List V} {ds : List D}, PyData.canLayAll0 ds = true → DpAll K H vs ds → L2.DpAll K H vs ds
  | _, _, _, .nil => .nil
  | _, _, e, .cons h t => .cons (Dp.toL (by simp [PyData.canLayAll0] at e; exact e.1) h) (DpAll.toL (by simp [PyData.canLayAll0] at e; exact e.2) t)
end
mutual
theorem Dp.toH {K : PySem.W.Frag} {H : Hp} : ∀ {v : V} {d : D}, d.hasDict = false → Dp K H v d → L2.Dp K H v d
  | _, _, _, .non => .non
  | _, _, _, .bl b => .bl b
  | _, _, _, .int i => .int i
  | _, _, _, .str x => .str x
  | _, _, e, .lst h a => .lst h (DpAll.toH (by simpa [PyData.hasDict] using e) a)
  | _, _, e, .tup h a => .tup h (DpAll.toH (by simpa [PyData.hasDict] using e) a)
  | _, _, e, .dct h a => by simp [PyData.hasDict] at e
theorem DpAll.toH {K : PySem.W.Frag} {H : Hp} : ∀ {vs : List V} {ds : List D}, PyData.hasDictAll ds = false → DpAll K H vs ds → L2.DpAll K H vs ds
  | _, _, _, .nil => .nil
  | _, _, e, .cons h t => .cons (Dp.toH (by simp [PyData.hasDictAll] at e; exact e.1) h) (DpAll.toH (by simp [PyData.hasDictAll] at e; exact e.2) t)
end
theorem Dp.toS {K : PySem.W.Frag} {H : Hp} {v : V} {d : D} (e : SeqAt.shaped d = true) (h : Dp K H v d) : L2.Dp K H v d := h.toL (SeqAt.canLay_of_shaped e)
inductive DM where
  | k (m : List (Key × D)) | t (m : List (List Int × D))
inductive Sl where
  | no | va (d : D) | ls (ds : List D) | bg (ds : List D) | hd (a : Addr) | dc (m : DM) | bd (m : DM)
abbrev Lo := List Sl
inductive RR where
  | va (d : D) | ls (ds : List D) | br (i : Nat)

section
variable {K : PySem.W.Frag} {G G' H H' : Hp}
theorem same_tup {a : Addr} {xs : List V} (e : Same H H') (h : SqT K H a xs) : SqT K H' a xs := by
  rcases h with (h | ⟨o, h⟩) | h
  · exact .inl (.inl (e _ _ h))
  · exact .inl (.inr ⟨o, e _ _ h⟩)
  · exact .inr h
mutual
theorem dpMono (s : Same G G') : ∀ {v : V} {d : D}, Dp K G v d → Dp K G' v d
  | _, _, .non => .non
  | _, _, .bl b => .bl b
  | _, _, .int i => .int i
  | _, _, .str x => .str x
  | _, _, .lst h a => .lst (s.seq h) (dpsMono s a)
  | _, _, .tup h a => .tup (same_tup s h) (dpsMono s a)
  | _, _, .dct h a => .dct (s _ _ h) (dpsMono s a)
theorem dpsMono (s : Same G G') : ∀ {vs : List V} {ds : List D}, DpAll K G vs ds → DpAll K G' vs ds
  | _, _, .nil => .nil
  | _, _, .cons h t => .cons (dpMono s h) (dpsMono s t)
end
theorem dpsLen : ∀ {vs : List V} {ds : List D}, DpAll K G vs ds → vs.length = ds.length
  | _, _, .nil => rfl
  | _, _, .cons _ t => by rw [List.length_cons, List.length_cons, dpsLen t]
theorem dpsApp : ∀ {vs ws : List V} {ds es : List D}, DpAll K G vs ds → DpAll K G ws es → DpAll K G (vs ++ ws) (ds ++ es)
  | _, _, _, _, .nil, b => b
  | _, _, _, _, .cons h t, b => .cons h (dpsApp t b)
theorem dpsGet : ∀ {vs : List V} {ds : List D} {i : Nat} {d : D}, DpAll K G vs ds → ds[i]? = some d → ∃ v, vs[i]? = some v ∧ Dp K G v d
  | _, _, _, _, .nil, e => by simp at e
  | _, _, 0, _, .cons h _, e => by
    simp at e
    subst e
    exact ⟨_, rfl, h⟩
  | _, _, i + 1, _, .cons _ t, e => by
    obtain ⟨v, h1, h2⟩ := dpsGet (i := i) t (by simpa using e)
    exact ⟨v, by simpa using h1, h2⟩
theorem dpsSet : ∀ {vs : List V} {ds : List D} (i : Nat) {v : V} {d : D}, DpAll K G vs ds → Dp K G v d → DpAll K G (vs.set i v) (ds.set i d)
  | _, _, _, _, _, .nil, _ => .nil
  | _, _, 0, _, _, .cons _ t, q => .cons q t
  | _, _, i + 1, _, _, .cons h t, q => .cons h (dpsSet i t q)
theorem dpsDrop : ∀ {vs : List V} {ds : List D} (n : Nat), DpAll K G vs ds → DpAll K G (vs.drop n) (ds.drop n)
  | _, _, 0, h => h
  | _, _, _ + 1, .nil => .nil
  | _, _, n + 1, .cons _ t => dpsDrop n t
theorem dpsTake : ∀ {vs : List V} {ds : List D} (n : Nat), DpAll K G vs ds → DpAll K G (vs.take n) (ds.take n)
  | _, _, 0, _ => .nil
  | _, _, _ + 1, .nil => .nil
  | _, _, n + 1, .cons h t => .cons h (dpsTake n t)
end

inductive KDp (K : PySem.W.Frag) (G : Hp) {κ : Type} : List (κ × V) → List (κ × D) → Prop
  | nil : KDp K G [] []
  | cons {k : κ} {v : V} {d : D} {r : List (κ × V)} {s : List (κ × D)} : Dp K G v d → KDp K G r s → KDp K G ((k, v) :: r) ((k, d) :: s)
theorem kdpMono {K : PySem.W.Frag} {G G' : Hp} {κ : Type} (s : Same G G') {r : List (κ × V)} {m : List (κ × D)} (h : KDp K G r m) : KDp K G' r m := by
  induction h with
  | nil => exact .nil
  | cons h _ ih => exact .cons (dpMono s h) ih
def hashT (ks : List Int) : Int := reduceHash (Builtin.Tuple.tupleHashOf (ks.map hashInt))
def entT (x : List Int × Addr × Value) : DictEntry := ⟨hashT x.1, .ref x.2.1, x.2.2⟩
def TabH (p : Addr) (xs : List (List Int × Addr × Value)) (h : Heap) : Prop :=
  ∃ o es ep, h.get? p = some o ∧ o.ExactDict ∧ o.data = .dict es ep ∧ es.toList = xs.map entT ∧ (xs.map (·.1)).Nodup ∧ (p == sysModules) = false ∧ xs.length ≤ sizeLine
def TabO (p : Addr) (xs : List (List Int × Addr × Value)) : HO := .ext (TabH p xs)
inductive TDp (K : PySem.W.Frag) (G : Hp) : List (List Int × Addr × Value) → List (List Int × D) → Prop
  | nil : TDp K G [] []
  | cons {k : List Int} {b : Addr} {y : V} {v : Value} {d : D} {r : List (List Int × Addr × Value)} {s : List (List Int × D)} : SqT K G b (k.map V.int) → RelV y v → Dp K G y d → TDp K G r s → TDp K G ((k, b, v) :: r) ((k, d) :: s)
theorem tdpMono {K : PySem.W.Frag} {G G' : Hp} (s : Same G G') {r : List (List Int × Addr × Value)} {m : List (List Int × D)} (h : TDp K G r m) : TDp K G' r m := by
  induction h with
  | nil => exact .nil
  | cons h1 h2 h3 _ ih => exact .cons (same_tup s h1) h2 (dpMono s h3) ih
def DmR (K : PySem.W.Frag) (G : Hp) (p : Addr) (o : HO) : DM → Prop
  | .k m => ∃ r, o = .dK r ∧ KDp K G r m
  | .t m => ∃ xs, o = TabO p xs ∧ TDp K G xs m
theorem dmMono {K : PySem.W.Frag} {G G' : Hp} (s : Same G G') {p : Addr} {o : HO} {m : DM} (h : DmR K G p o m) : DmR K G' p o m := by
  cases m with
  | k m => obtain ⟨r, e, h⟩ := h; exact ⟨r, e, kdpMono s h⟩
  | t m => obtain ⟨r, e, h⟩ := h; exact ⟨r, e, tdpMono s h⟩
def isLs : Sl → Bool
  | .ls _ => true
  | .dc _ => true
  | _ => false
def Ls (σ : St) (ρ : Lo) (a : Addr) : Prop := ∃ (i : Nat) (s : Sl), (ρ[i]? = some s ∧ isLs s = true) ∧ σ[i]? = some (some (.ref a))
def isBg : Sl → Bool
  | .bg _ => true
  | .bd _ => true
  | _ => false
def Bg (σ : St) (ρ : Lo) (a : Addr) : Prop := ∃ (i : Nat) (s : Sl), (ρ[i]? = some s ∧ isBg s = true) ∧ σ[i]? = some (some (.ref a))
def Ow (σ : St) (ρ : Lo) (a : Addr) : Prop := Ls σ ρ a ∨ Bg σ ρ a
def Mine (K : PySem.W.Frag) (G H : Hp) (x : Option (Option V)) (ds : List D) : Prop :=
  ∃ (p : Addr) (xs : List V), x = some (some (.ref p)) ∧ G p = none ∧ H p = some (.lst xs) ∧ DpAll K G xs ds
def MineD (K : PySem.W.Frag) (G H : Hp) (x : Option (Option V)) (m : DM) : Prop :=
  ∃ (p : Addr) (o : HO), x = some (some (.ref p)) ∧ G p = none ∧ H p = some o ∧ DmR K G p o m
def SlR (K : PySem.W.Frag) (G H : Hp) (x : Option (Option V)) : Sl → Prop
  | .no => True
  | .va d => ∃ v, x = some (some v) ∧ Dp K G v d
  | .ls ds => Mine K G H x ds
  | .bg ds => Mine K G H x ds
  | .hd a => x = some (some (.ref a))
  | .dc m => MineD K G H x m
  | .bd m => MineD K G H x m
def isOwn : Sl → Bool
  | .ls _ => true
  | .bg _ => true
  | .dc _ => true
  | .bd _ => true
  | _ => false
def Own (ρ : Lo) (i : Nat) : Prop := ∃ s, ρ[i]? = some s ∧ isOwn s = true
structure Rel (K : PySem.W.Frag) (G H : Hp) (σ : St) (ρ : Lo) : Prop where
  sub : Same G H
  sl : ∀ (i : Nat) (s : Sl), ρ[i]? = some s → SlR K G H σ[i]? s
  apart : ∀ (i j : Nat) (a : Addr), Own ρ i → Own ρ j → σ[i]? = some (some (.ref a)) → σ[j]? = some (some (.ref a)) → i = j
  len : ρ.length = σ.length
structure Stp (σ : St) (ρ : Lo) (G H : Hp) (σ' : St) (ρ' : Lo) (G' H' : Hp) : Prop where
  gg : Same G G'
  keep : ∀ a o, H a = some o → ¬ Ow σ ρ a → H' a = some o
  gnew : ∀ a, H a ≠ none → ¬ Ow σ ρ a → G' a = G a
  ols : ∀ a, Ls σ' ρ' a → Ls σ ρ a ∨ H a = none
  obg : ∀ (i : Nat) (s : Sl), ρ'[i]? = some s → isBg s = true → ∃ s₀ : Sl, (ρ[i]? = some s₀ ∧ isBg s₀ = true) ∧ σ'[i]? = σ[i]?
  dom : ∀ a, H a ≠ none → H' a ≠ none
section
variable {K : PySem.W.Frag} {G G' G'' H H' H'' : Hp} {σ σ' σ'' : St} {ρ ρ' ρ'' : Lo}
theorem Stp.refl : Stp σ ρ G H σ ρ G H := ⟨Same.refl _, fun _ _ h _ => h, fun _ _ _ => rfl, fun _ h => .inl h, fun i s h b => ⟨s, ⟨h, b⟩, rfl⟩, fun _ h => h⟩
theorem Stp.ow (s : Stp σ ρ G H σ' ρ' G' H') {a : Addr} (h : Ow σ' ρ' a) : Ow σ ρ a ∨ H a = none := by
  rcases h with h | ⟨i, t, ⟨h1, hb⟩, h2⟩
  · exact (s.ols a h).imp .inl id
  · obtain ⟨s₀, h3, h4⟩ := s.obg i t h1 hb
    exact .inl (.inr ⟨i, s₀, h3, h4 ▸ h2⟩)
theorem Stp.trans (s : Stp σ ρ G H σ' ρ' G' H') (t : Stp σ' ρ' G' H' σ'' ρ'' G'' H'') : Stp σ ρ G H σ'' ρ'' G'' H'' := by
  have no : ∀ {a : Addr}, H a ≠ none → ¬ Ow σ ρ a → ¬ Ow σ' ρ' a := fun h1 h2 h3 => (s.ow h3).elim h2 h1
  refine ⟨s.gg.trans t.gg, fun a o h n => t.keep a o (s.keep a o h n) (no (by rw [h]; simp) n), fun a h n => (t.gnew a (s.dom a h) (no h n)).trans (s.gnew a h n), fun a h => ?_, fun i ds h hb => ?_, fun a h => t.dom a (s.dom a h)⟩
  · rcases t.ols a h with h | h
    · exact s.ols a h
    · refine .inr ?_
      cases e : H a with
      | none => rfl
      | some o => exact absurd h (s.dom a (by rw [e]; simp))
  · obtain ⟨d1, ⟨h1, b1⟩, e1⟩ := t.obg i ds h hb
    obtain ⟨d2, h2, e2⟩ := s.obg i d1 h1 b1
    exact ⟨d2, h2, e1.trans e2⟩
theorem Rel.noG (r : Rel K G H σ ρ) {a : Addr} (h : Ow σ ρ a) : G a = none := by
  rcases h with ⟨i, s, ⟨h1, h3⟩, h2⟩ | ⟨i, ds, h1, h2⟩
  · have q := r.sl i _ h1
    cases s <;> first | cases h3; done | skip
    all_goals
      obtain ⟨p, xs, e, g, _⟩ := q
      rw [h2] at e
      cases e
      exact g
  · obtain ⟨h1, h3⟩ := h1
    have q := r.sl i _ h1
    cases ds <;> first | cases h3; done | skip
    all_goals
      obtain ⟨p, xs, e, g, _⟩ := q
      rw [h2] at e
      cases e
      exact g
theorem Rel.gfree (r : Rel K G H σ ρ) {a : Addr} (h : H a = none) : G a = none := r.sub.free h
theorem Rel.owH (r : Rel K G H σ ρ) {a : Addr} (h : Ow σ ρ a) : H a ≠ none := by
  rcases h with ⟨i, s, ⟨h1, h3⟩, h2⟩ | ⟨i, ds, h1, h2⟩
  · have q := r.sl i _ h1
    cases s <;> first | cases h3; done | skip
    all_goals
      obtain ⟨p, xs, e, g, q, _⟩ := q
      rw [h2] at e
      cases e
      rw [q]
      simp
  · obtain ⟨h1, h3⟩ := h1
    have q := r.sl i _ h1
    cases ds <;> first | cases h3; done | skip
    all_goals
      obtain ⟨p, xs, e, g, q, _⟩ := q
      rw [h2] at e
      cases e
      rw [q]
      simp
theorem same_upd {p : Addr} {o : HO} (h : H p = none) : Same H (upd H p o) := fun b x e => by
  rw [upd_ne (ne_of_none e h)]
  exact e
theorem same_both {p : Addr} {o : HO} (h : Same G H) : Same (upd G p o) (upd H p o) := fun b x e => by
  by_cases hb : b = p
  · subst hb
    rw [upd_same] at e ⊢
    exact e
  · rw [upd_ne hb] at e ⊢
    exact h _ _ e
theorem Rel.newH {p : Addr} {o : HO} (r : Rel K G H σ ρ) (h : H p = none) : Rel K G (upd H p o) σ ρ ∧ Stp σ ρ G H σ ρ G (upd H p o) := by
  have st : Same H (upd H p o) := same_upd h
  refine ⟨⟨r.sub.trans st, fun i s e => ?_, r.apart, r.len⟩, ⟨Same.refl _, fun a u e _ => st a u e, fun _ _ _ => rfl, fun a h => .inl h, fun i s h b => ⟨s, ⟨h, b⟩, rfl⟩, fun a e => ?_⟩⟩
  · have q := r.sl i s e
    cases s with
    | no => trivial
    | va d => exact q
    | ls ds => obtain ⟨a, xs, e1, g, e2, al⟩ := q; exact ⟨a, xs, e1, g, st _ _ e2, al⟩
    | dc m => obtain ⟨a, o, e1, g, e2, al⟩ := q; exact ⟨a, o, e1, g, st _ _ e2, al⟩
    | bd m => obtain ⟨a, o, e1, g, e2, al⟩ := q; exact ⟨a, o, e1, g, st _ _ e2, al⟩
    | hd _ => exact q
    | bg ds => obtain ⟨a, xs, e1, g, e2, al⟩ := q; exact ⟨a, xs, e1, g, st _ _ e2, al⟩
  · cases q : H a with
    | none => exact absurd q e
    | some u => rw [st _ _ q]; simp
end

def ResR (K : PySem.W.Frag) (G H : Hp) (σ : St) (ρ : Lo) (v : V) : RR → Prop
  | .va d => Dp K G v d
  | .ls ds => ∃ (p : Addr) (xs : List V), v = .ref p ∧ G p = none ∧ H p = some (.lst xs) ∧ DpAll K G xs ds ∧ ¬ Ow σ ρ p
  | .br i => σ[i]? = some (some v)
def NewR (H : Hp) (v : V) : RR → Prop
  | .ls _ => ∀ p, v = .ref p → H p = none
  | _ => True
structure Pst (K : PySem.W.Frag) (σ : St) (ρ : Lo) (G H : Hp) (r : RR) (ρ' : Lo) (v : V) (G' H' : Hp) : Prop where
  rel : Rel K G' H' σ ρ'
  stp : Stp σ ρ G H σ ρ' G' H'
  res : ResR K G' H' σ ρ' v r
  new : NewR H v r
abbrev Fn (α : Type) := Lo → Option (α × Lo)
def tD (K : PySem.W.Frag) (f : Fn RR) : TE := fun σ H Q => ∃ G ρ r ρ', Rel K G H σ ρ ∧ f ρ = some (r, ρ') ∧ ∀ v G' H', Pst K σ ρ G H r ρ' v G' H' → Q v H'
def tF (K : PySem.W.Frag) (f : Fn D) : TE := fun σ H Q => ∃ G ρ d ρ', Rel K G H σ ρ ∧ f ρ = some (d, ρ') ∧ ∀ v G' H', Rel K G' H' σ ρ' → Stp σ ρ G H σ ρ' G' H' → Dp K G' v d → Q v H'
def tFs (K : PySem.W.Frag) (f : Fn (List D)) : TA := fun σ H Q => ∃ G ρ ds ρ', Rel K G H σ ρ ∧ f ρ = some (ds, ρ') ∧ ∀ vs G' H', Rel K G' H' σ ρ' → Stp σ ρ G H σ ρ' G' H' → DpAll K G' vs ds → Q vs H'
def ResV (K : PySem.W.Frag) (G : Hp) (σ : St) (v : V) : RR → Prop
  | .va d => Dp K G v d
  | .ls _ => False
  | .br i => σ[i]? = some (some v)
inductive ResVs (K : PySem.W.Frag) (G : Hp) (σ : St) : List V → List RR → Prop
  | nil : ResVs K G σ [] []
  | cons {v vs r rs} : ResV K G σ v r → ResVs K G σ vs rs → ResVs K G σ (v :: vs) (r :: rs)
def tV (K : PySem.W.Frag) (f : Fn RR) : TE := fun σ H Q => ∃ G ρ r ρ', Rel K G H σ ρ ∧ f ρ = some (r, ρ') ∧ ∀ v G' H', Rel K G' H' σ ρ' → Stp σ ρ G H σ ρ' G' H' → ResV K G' σ v r → Q v H'
def tVs (K : PySem.W.Frag) (f : Fn (List RR)) : TA := fun σ H Q => ∃ G ρ rs ρ', Rel K G H σ ρ ∧ f ρ = some (rs, ρ') ∧ ∀ vs G' H', Rel K G' H' σ ρ' → Stp σ ρ G H σ ρ' G' H' → ResVs K G' σ vs rs → Q vs H'

def frz (r : RR) (ρ : Lo) : Option (D × Lo) := match r with
  | .va d => some (d, ρ)
  | .ls ds => some (.list ds, ρ)
  | .br i => match ρ[i]? with
    | some (.ls ds) => some (.list ds, ρ.set i (.va (.list ds)))
    | some (.va d) => some (d, ρ)
    | _ => none
def half (r : RR) : RR := match r with
  | .ls ds => .va (.list ds)
  | r => r
def vw (r : RR) (ρ : Lo) : Option D := match r with
  | .va d => some d
  | .ls ds => some (.list ds)
  | .br i => match ρ[i]? with
    | some (.ls ds) => some (.list ds)
    | some (.bg ds) => some (.list ds)
    | some (.va d) => some d
    | _ => none
section
variable {K : PySem.W.Frag} {G G' G'' H H' H'' : Hp} {σ : St} {ρ ρ' ρ'' : Lo} {v : V} {r : RR} {d : D}
theorem resV_mono (s : Same G G') (h : ResV K G σ v r) : ResV K G' σ v r := by
  cases r with
  | va d => exact dpMono s h
  | ls ds => exact h
  | br i => exact h
theorem Own.of_set {i j : Nat} {d : D} (h : Own (ρ.set i (.va d)) j) : Own ρ j ∧ j ≠ i := by
  obtain ⟨s, e, q⟩ := h
  by_cases hj : i = j
  · subst hj
    by_cases hi : i < ρ.length
    · rw [List.getElem?_set_self hi] at e
      cases e
      cases q
    · rw [List.getElem?_eq_none (by simpa using hi)] at e
      cases e
  · rw [List.getElem?_set_ne hj] at e
    exact ⟨⟨s, e, q⟩, fun z => hj z.symm⟩
theorem Own.ls {i : Nat} {ds : List D} (h : ρ[i]? = some (.ls ds)) : Own ρ i := ⟨_, h, rfl⟩
theorem Own.bg {i : Nat} {ds : List D} (h : ρ[i]? = some (.bg ds)) : Own ρ i := ⟨_, h, rfl⟩
theorem Ow.own {a : Addr} (h : Ow σ ρ a) : ∃ i, Own ρ i ∧ σ[i]? = some (some (.ref a)) := by
  rcases h with ⟨i, ds, h1, h2⟩ | ⟨i, ds, h1, h2⟩
  · exact ⟨i, ⟨ds, h1.1, by cases ds <;> first | rfl | cases h1.2⟩, h2⟩
  · exact ⟨i, ⟨ds, h1.1, by cases ds <;> first | rfl | cases h1.2⟩, h2⟩
theorem Ow.of {a : Addr} {i : Nat} (h : Own ρ i) (e : σ[i]? = some (some (.ref a))) : Ow σ ρ a := by
  obtain ⟨s, h1, h2⟩ := h
  cases s with
  | no => cases h2
  | va d => cases h2
  | ls ds => exact .inl ⟨i, _, ⟨h1, rfl⟩, e⟩
  | dc m => exact .inl ⟨i, _, ⟨h1, rfl⟩, e⟩
  | bd m => exact .inr ⟨i, _, ⟨h1, rfl⟩, e⟩
  | hd _ => cases h2
  | bg ds => exact .inr ⟨i, _, ⟨h1, rfl⟩, e⟩
theorem frz_slot (R : Rel K G H σ ρ) {i : Nat} {ds : List D} (e : ρ[i]? = some (.ls ds)) : ∃ (p : Addr) (xs : List V), σ[i]? = some (some (.ref p)) ∧ H p = some (.lst xs) ∧
    Rel K (upd G p (.lst xs)) H σ (ρ.set i (.va (.list ds))) ∧ Stp σ ρ G H σ (ρ.set i (.va (.list ds))) (upd G p (.lst xs)) H ∧ Dp K (upd G p (.lst xs)) (.ref p) (.list ds) := by
  obtain ⟨p, xs, e1, g, e2, al⟩ := R.sl i _ e
  have hi : i < ρ.length := (List.getElem?_eq_some_iff.mp e).1
  have sg : Same G (upd G p (.lst xs)) := same_upd g
  have dp : Dp K (upd G p (.lst xs)) (.ref p) (.list ds) := .lst (SqL.of upd_same) (dpsMono sg al)
  have ow : Ow σ ρ p := .inl ⟨i, _, ⟨e, rfl⟩, e1⟩
  refine ⟨p, xs, e1, e2, ⟨fun a o h => ?_, fun j s ej => ?_, fun j k a hj hk => R.apart j k a hj.of_set.1 hk.of_set.1, by rw [List.length_set]; exact R.len⟩,
    ⟨sg, fun a o h _ => h, fun a _ n => upd_ne fun z => n (z ▸ ow), fun a h => .inl ?_, fun j ds' h hb => ?_, fun a h => h⟩, dp⟩
  · by_cases ha : a = p
    · subst ha
      rw [upd_same] at h
      cases h
      exact e2
    · rw [upd_ne ha] at h
      exact R.sub _ _ h
  · by_cases hj : i = j
    · subst hj
      rw [List.getElem?_set_self hi] at ej
      cases ej
      exact ⟨_, e1, dp⟩
    · rw [List.getElem?_set_ne hj] at ej
      have q := R.sl j s ej
      have own : ∀ es, isOwn s = true → Mine K G H σ[j]? es → Mine K (upd G p (.lst xs)) H σ[j]? es := fun es ho ⟨a, ys, e3, g3, e4, al3⟩ =>
        ⟨a, ys, e3, by rw [upd_ne (fun z => hj (R.apart i j p (.ls e) ⟨s, ej, ho⟩ e1 (by rw [z] at e3; exact e3)))]; exact g3, e4, dpsMono sg al3⟩
      cases s with
      | no => trivial
      | va d => obtain ⟨v, e3, q⟩ := q; exact ⟨v, e3, dpMono sg q⟩
      | ls es => exact own es rfl q
      | dc m =>
        obtain ⟨a, o, e3, g3, e4, al3⟩ := q
        exact ⟨a, o, e3, by rw [upd_ne (fun z => hj (R.apart i j p (.ls e) ⟨_, ej, rfl⟩ e1 (by rw [z] at e3; exact e3)))]; exact g3, e4, dmMono sg al3⟩
      | bd m =>
        obtain ⟨a, o, e3, g3, e4, al3⟩ := q
        exact ⟨a, o, e3, by rw [upd_ne (fun z => hj (R.apart i j p (.ls e) ⟨_, ej, rfl⟩ e1 (by rw [z] at e3; exact e3)))]; exact g3, e4, dmMono sg al3⟩
      | hd _ => exact q
      | bg es => exact own es rfl q
  · obtain ⟨j, s', ⟨h1, h3⟩, h2⟩ := h
    by_cases hj : i = j
    · subst hj
      rw [List.getElem?_set_self hi] at h1
      cases h1
      cases h3
    · rw [List.getElem?_set_ne hj] at h1
      exact ⟨j, s', ⟨h1, h3⟩, h2⟩
  · by_cases hj : i = j
    · subst hj
      rw [List.getElem?_set_self hi] at h
      cases h
      cases hb
    · rw [List.getElem?_set_ne hj] at h
      exact ⟨ds', ⟨h, hb⟩, rfl⟩
theorem frz_new {ds : List D} (R : Pst K σ ρ G H (.ls ds) ρ' v G' H') : ∃ G'', Rel K G'' H' σ ρ' ∧ Stp σ ρ G H σ ρ' G'' H' ∧ Dp K G'' v (.list ds) := by
  obtain ⟨p, xs, rfl, g, e2, al, no⟩ := R.res
  have hn := R.new p rfl
  have sg : Same G' (upd G' p (.lst xs)) := same_upd g
  have dp : Dp K (upd G' p (.lst xs)) (.ref p) (.list ds) := .lst (SqL.of upd_same) (dpsMono sg al)
  refine ⟨upd G' p (.lst xs), ⟨fun a o h => ?_, fun j s ej => ?_, R.rel.apart, R.rel.len⟩, ⟨R.stp.gg.trans sg, R.stp.keep, fun a h n => ?_, R.stp.ols, R.stp.obg, R.stp.dom⟩, dp⟩
  · by_cases ha : a = p
    · subst ha
      rw [upd_same] at h
      cases h
      exact e2
    · rw [upd_ne ha] at h
      exact R.rel.sub _ _ h
  · have q := R.rel.sl j s ej
    have own : ∀ es, isOwn s = true → Mine K G' H' σ[j]? es → Mine K (upd G' p (.lst xs)) H' σ[j]? es := fun es ho ⟨a, ys, e3, g3, e4, al3⟩ =>
      ⟨a, ys, e3, by rw [upd_ne (fun z => no (Ow.of ⟨s, ej, ho⟩ (by rw [z] at e3; exact e3)))]; exact g3, e4, dpsMono sg al3⟩
    cases s with
    | no => trivial
    | va d => obtain ⟨v, e3, q⟩ := q; exact ⟨v, e3, dpMono sg q⟩
    | ls es => exact own es rfl q
    | dc m =>
      obtain ⟨a, o, e3, g3, e4, al3⟩ := q
      exact ⟨a, o, e3, by rw [upd_ne (fun z => no (Ow.of ⟨_, ej, rfl⟩ (by rw [z] at e3; exact e3)))]; exact g3, e4, dmMono sg al3⟩
    | bd m =>
      obtain ⟨a, o, e3, g3, e4, al3⟩ := q
      exact ⟨a, o, e3, by rw [upd_ne (fun z => no (Ow.of ⟨_, ej, rfl⟩ (by rw [z] at e3; exact e3)))]; exact g3, e4, dmMono sg al3⟩
    | hd _ => exact q
    | bg es => exact own es rfl q
  · rw [upd_ne (fun z => h (by rw [z]; exact hn))]
    exact R.stp.gnew a h n
theorem frz_ok (R : Pst K σ ρ G H r ρ' v G' H') (e : frz r ρ' = some (d, ρ'')) : ∃ G'', Rel K G'' H' σ ρ'' ∧ Stp σ ρ G H σ ρ'' G'' H' ∧ Dp K G'' v d := by
  cases r with
  | va d' =>
    cases e
    exact ⟨G', R.rel, R.stp, R.res⟩
  | ls ds =>
    cases e
    exact frz_new R
  | br i =>
    unfold frz at e
    simp only at e
    cases q : ρ'[i]? with
    | none => rw [q] at e; cases e
    | some s =>
      rw [q] at e
      cases s with
      | no => cases e
      | hd _ => cases e
      | dc _ => cases e
      | bd _ => cases e
      | bg ds => cases e
      | va d' =>
        cases e
        obtain ⟨u, e1, h1⟩ := R.rel.sl i _ q
        have e2 : σ[i]? = some (some v) := R.res
        rw [e1] at e2
        cases e2
        exact ⟨G', R.rel, R.stp, h1⟩
      | ls ds =>
        cases e
        obtain ⟨p, xs, e1, e2, r1, s1, dp⟩ := frz_slot R.rel q
        have e3 : σ[i]? = some (some v) := R.res
        rw [e1] at e3
        cases e3
        exact ⟨_, r1, R.stp.trans s1, dp⟩
theorem half_ok (R : Pst K σ ρ G H r ρ' v G' H') : ∃ G'', Rel K G'' H' σ ρ' ∧ Stp σ ρ G H σ ρ' G'' H' ∧ ResV K G'' σ v (half r) := by
  cases r with
  | va d => exact ⟨G', R.rel, R.stp, R.res⟩
  | ls ds => exact frz_new R
  | br i => exact ⟨G', R.rel, R.stp, R.res⟩
end

section
variable {X : Cx} {e : Expr} {es : List Expr}
theorem weakE {t t' : TE} (h : PE X e t) (w : ∀ σ H Q, t' σ H Q → t σ H Q) : PE X e t' := ⟨fun pins s σ H Q I q => h.run pins s σ H Q I (w σ H Q q)⟩
theorem weakA {t t' : TA} (h : PA X es t) (w : ∀ σ H Q, t' σ H Q → t σ H Q) : PA X es t' := ⟨fun pos pins s σ H Q I q => h.run pos pins s σ H Q I (w σ H Q q)⟩
def fF (f : Fn RR) : Fn D := fun ρ => (f ρ).bind fun x => frz x.1 x.2
def fV (f : Fn RR) : Fn RR := fun ρ => (f ρ).map fun x => (half x.1, x.2)
theorem to_F {f : Fn RR} (h : PE X e (tD X.K f)) : PE X e (tF X.K (fF f)) := weakE h fun σ H Q ⟨G, ρ, d, ρ', R, q, k⟩ => by
  unfold fF at q
  cases z : f ρ with
  | none => rw [z] at q; cases q
  | some x =>
    rw [z] at q
    refine ⟨G, ρ, x.1, x.2, R, z, fun v G' H' P => ?_⟩
    obtain ⟨G'', r1, s1, dp⟩ := frz_ok P q
    exact k v G'' H' r1 s1 dp
theorem to_V {f : Fn RR} (h : PE X e (tD X.K f)) : PE X e (tV X.K (fV f)) := weakE h fun σ H Q ⟨G, ρ, d, ρ', R, q, k⟩ => by
  unfold fV at q
  cases z : f ρ with
  | none => rw [z] at q; cases q
  | some x =>
    rw [z] at q
    cases q
    refine ⟨G, ρ, x.1, x.2, R, z, fun v G' H' P => ?_⟩
    obtain ⟨G'', r1, s1, dp⟩ := half_ok P
    exact k v G'' H' r1 s1 dp
def fsNil {α : Type} : Fn (List α) := fun ρ => some ([], ρ)
def fsCons {α : Type} (f : Fn α) (fs : Fn (List α)) : Fn (List α) := fun ρ => (f ρ).bind fun x => (fs x.2).map fun y => (x.1 :: y.1, y.2)
theorem fs_nil : PA X [] (tFs X.K fsNil) := weakA pa_nil fun σ H Q ⟨G, ρ, ds, ρ', R, q, k⟩ => by
  cases q
  exact k [] G H R .refl .nil
theorem fs_cons {f : Fn D} {fs : Fn (List D)} (h : PE X e (tF X.K f)) (t : PA X es (tFs X.K fs)) (hs : starEach (e :: es) X.env = (false, eval e X.env) :: starEach es X.env) : PA X (e :: es) (tFs X.K (fsCons f fs)) :=
  weakA (pa_cons h t hs) fun σ H Q ⟨G, ρ, ds, ρ', R, q, k⟩ => by
    unfold fsCons at q
    cases z : f ρ with
    | none => rw [z] at q; cases q
    | some x =>
      rw [z] at q
      cases z2 : fs x.2 with
      | none => rw [Option.bind_some, z2] at q; cases q
      | some y =>
        rw [Option.bind_some, z2] at q
        cases q
        exact ⟨G, ρ, x.1, x.2, R, z, fun v G1 H1 R1 S1 d1 => ⟨G1, x.2, y.1, y.2, R1, z2, fun vs G2 H2 R2 S2 d2 => k _ G2 H2 R2 (S1.trans S2) (.cons (dpMono S2.gg d1) d2)⟩⟩
theorem vs_nil : PA X [] (tVs X.K fsNil) := weakA pa_nil fun σ H Q ⟨G, ρ, ds, ρ', R, q, k⟩ => by
  cases q
  exact k [] G H R .refl .nil
theorem vs_cons {f : Fn RR} {fs : Fn (List RR)} (h : PE X e (tV X.K f)) (t : PA X es (tVs X.K fs)) (hs : starEach (e :: es) X.env = (false, eval e X.env) :: starEach es X.env) : PA X (e :: es) (tVs X.K (fsCons f fs)) :=
  weakA (pa_cons h t hs) fun σ H Q ⟨G, ρ, ds, ρ', R, q, k⟩ => by
    unfold fsCons at q
    cases z : f ρ with
    | none => rw [z] at q; cases q
    | some x =>
      rw [z] at q
      cases z2 : fs x.2 with
      | none => rw [Option.bind_some, z2] at q; cases q
      | some y =>
        rw [Option.bind_some, z2] at q
        cases q
        exact ⟨G, ρ, x.1, x.2, R, z, fun v G1 H1 R1 S1 d1 => ⟨G1, x.2, y.1, y.2, R1, z2, fun vs G2 H2 R2 S2 d2 => k _ G2 H2 R2 (S1.trans S2) (.cons (resV_mono S2.gg d1) d2)⟩⟩
end
end Den


set_option autoImplicit false
namespace Den
open PySem PySem.Spec L2

abbrev lim : Nat := 1000000
theorem lim_lt {n : Nat} (h : n ≤ lim) : n < sizeLine := by
  have e : sizeLine = 16777216 := sizeLine_eq
  show n < sizeLine
  have h2 : n ≤ 1000000 := h
  omega
theorem lim_le {n : Nat} (h : n ≤ lim) : n ≤ sizeLine := Nat.le_of_lt (lim_lt h)

def ViewR (K : PySem.W.Frag) (G H : Hp) (v : V) (d : D) : Prop :=
  Dp K G v d ∨ ∃ (p : Addr) (xs : List V) (ds : List D), v = .ref p ∧ H p = some (.lst xs) ∧ d = .list ds ∧ DpAll K G xs ds
structure Made (K : PySem.W.Frag) (G H : Hp) (v : V) (r : RR) (G' H' : Hp) : Prop where
  gg : Same G G'
  hh : Same H H'
  gh : Same G' H'
  old : ∀ a, H a ≠ none → G' a = G a
  res : match r with
    | .va d => Dp K G' v d
    | .ls ds => ∃ (p : Addr) (xs : List V), v = .ref p ∧ G' p = none ∧ H' p = some (.lst xs) ∧ DpAll K G' xs ds ∧ H p = none
    | .br _ => False
section
variable {K : PySem.W.Frag} {G G' H H' : Hp} {σ : St} {ρ ρ' : Lo} {v : V} {r : RR} {d : D}
theorem ViewR.dp (s : Same G H) (h : ViewR K G H v d) : Dp K H v d := by
  rcases h with h | ⟨p, xs, ds, rfl, e, rfl, al⟩
  · exact dpMono s h
  · exact .lst (SqL.of e) (dpsMono s al)
theorem vw_view (R : Rel K G H σ ρ) (h : ResV K G σ v r) (e : vw r ρ = some d) : ViewR K G H v d := by
  cases r with
  | va d' => cases e; exact .inl h
  | ls ds => exact h.elim
  | br i =>
    have e3 : σ[i]? = some (some v) := h
    unfold vw at e
    simp only at e
    cases q : ρ[i]? with
    | none => rw [q] at e; cases e
    | some s =>
      rw [q] at e
      have sl := R.sl i s q
      cases s with
      | no => cases e
      | va d' =>
        cases e
        obtain ⟨u, e1, h1⟩ := sl
        rw [e1] at e3
        cases e3
        exact .inl h1
      | ls ds =>
        cases e
        obtain ⟨p, xs, e1, g, e2, al⟩ := sl
        rw [e1] at e3
        cases e3
        exact .inr ⟨p, xs, ds, rfl, e2, rfl, al⟩
      | hd _ => cases e
      | dc _ => cases e
      | bd _ => cases e
      | bg ds =>
        cases e
        obtain ⟨p, xs, e1, g, e2, al⟩ := sl
        rw [e1] at e3
        cases e3
        exact .inr ⟨p, xs, ds, rfl, e2, rfl, al⟩
theorem Made.va (s : Same G H) (h : Dp K G v d) : Made K G H v (.va d) G H := ⟨Same.refl _, Same.refl _, s, fun _ _ => rfl, h⟩
theorem Made.tup {p : Addr} {xs : List V} {ds : List D} (s : Same G H) (n : H p = none) (h : DpAll K G xs ds) : Made K G H (.ref p) (.va (.tuple ds)) (upd G p (.tup xs)) (upd H p (.tup xs)) := by
  have g : G p = none := s.free n
  exact ⟨same_upd g, same_upd n, same_both s, fun a q => upd_ne fun z => q (by rw [z]; exact n), .tup (SqT.of upd_same) (dpsMono (same_upd g) h)⟩
theorem Made.ls {p : Addr} {xs : List V} {ds : List D} (s : Same G H) (n : H p = none) (h : DpAll K G xs ds) : Made K G H (.ref p) (.ls ds) G (upd H p (.lst xs)) :=
  ⟨Same.refl _, same_upd n, s.trans (same_upd n), fun _ _ => rfl, p, xs, rfl, s.free n, upd_same, h, n⟩
theorem Made.pst (R : Rel K G H σ ρ) (m : Made K G H v r G' H') : Pst K σ ρ G H r ρ v G' H' := by
  have own : ∀ (x : Option (Option V)) ds, Mine K G H x ds → Mine K G' H' x ds := fun x ds ⟨a, xs, e1, g, e2, al⟩ =>
    ⟨a, xs, e1, (m.old a (by rw [e2]; simp)).trans g, m.hh _ _ e2, dpsMono m.gg al⟩
  refine ⟨⟨m.gh, fun i s e => ?_, R.apart, R.len⟩, ⟨m.gg, fun a o e _ => m.hh a o e, fun a e _ => m.old a e, fun a h => .inl h, fun i s h b => ⟨s, ⟨h, b⟩, rfl⟩, fun a e => ?_⟩, ?_, ?_⟩
  · have q := R.sl i s e
    cases s with
    | no => trivial
    | va d => obtain ⟨v, e1, q⟩ := q; exact ⟨v, e1, dpMono m.gg q⟩
    | ls ds => exact own _ ds q
    | dc m' =>
      obtain ⟨a, o, e1, g, e2, al⟩ := q
      exact ⟨a, o, e1, (m.old a (by rw [e2]; simp)).trans g, m.hh _ _ e2, dmMono m.gg al⟩
    | bd m' =>
      obtain ⟨a, o, e1, g, e2, al⟩ := q
      exact ⟨a, o, e1, (m.old a (by rw [e2]; simp)).trans g, m.hh _ _ e2, dmMono m.gg al⟩
    | hd _ => exact q
    | bg ds => exact own _ ds q
  · cases q : H a with
    | none => exact absurd q e
    | some u => rw [m.hh _ _ q]; simp
  · cases r with
    | va d => exact m.res
    | ls ds =>
      obtain ⟨p, xs, e1, g, e2, al, n⟩ := m.res
      exact ⟨p, xs, e1, g, e2, al, fun o => R.owH o n⟩
    | br i => exact m.res.elim
  · cases r with
    | va d => trivial
    | ls ds =>
      obtain ⟨p, xs, e1, g, e2, al, n⟩ := m.res
      intro q eq
      rw [e1] at eq
      cases eq
      exact n
    | br i => trivial
theorem pst_trans {σ : St} {ρ₀ : Lo} {G₀ H₀ : Hp} (s : Stp σ ρ₀ G₀ H₀ σ ρ G H) (P : Pst K σ ρ G H r ρ' v G' H') : Pst K σ ρ₀ G₀ H₀ r ρ' v G' H' := by
  refine ⟨P.rel, s.trans P.stp, P.res, ?_⟩
  cases r with
  | va d => trivial
  | br i => trivial
  | ls ds =>
    intro p e
    have n := P.new p e
    cases q : H₀ p with
    | none => rfl
    | some o => exact absurd n (s.dom p (by rw [q]; simp))
end

def rD (K : PySem.W.Frag) (φ : D → D → Option RR) : R2 := fun x y H Q => ∃ (G : Hp) (d e : D) (r : RR), Same G H ∧ ViewR K G H x d ∧ ViewR K G H y e ∧ φ d e = some r ∧ ∀ v G' H', Made K G H v r G' H' → Q v H'
def rU1 (K : PySem.W.Frag) (φ : D → Option RR) : V → Hp → VK → Prop := fun x H Q => ∃ (G : Hp) (d : D) (r : RR), Same G H ∧ ViewR K G H x d ∧ φ d = some r ∧ ∀ v G' H', Made K G H v r G' H' → Q v H'
inductive ViewsR (K : PySem.W.Frag) (G H : Hp) : List V → List D → Prop
  | nil : ViewsR K G H [] []
  | cons {v vs d ds} : ViewR K G H v d → ViewsR K G H vs ds → ViewsR K G H (v :: vs) (d :: ds)
def rL (K : PySem.W.Frag) (φ : List D → Option RR) : List V → Hp → VK → Prop := fun vs H Q => ∃ (G : Hp) (ds : List D) (r : RR), Same G H ∧ ViewsR K G H vs ds ∧ φ ds = some r ∧ ∀ v G' H', Made K G H v r G' H' → Q v H'
def f1 (φ : D → Option RR) (f : Fn RR) : Fn RR := fun ρ => (fV f ρ).bind fun x => (vw x.1 x.2).bind fun d => (φ d).map fun r => (r, x.2)
def f2 (φ : D → D → Option RR) (f g : Fn RR) : Fn RR := fun ρ => (fV f ρ).bind fun x => (fV g x.2).bind fun y => (vw x.1 y.2).bind fun d => (vw y.1 y.2).bind fun e => (φ d e).map fun r => (r, y.2)
def vws : List RR → Lo → Option (List D)
  | [], _ => some []
  | r :: rs, ρ => (vw r ρ).bind fun d => (vws rs ρ).map fun ds => d :: ds
def fL (φ : List D → Option RR) (fs : Fn (List RR)) : Fn RR := fun ρ => (fs ρ).bind fun x => (vws x.1 x.2).bind fun ds => (φ ds).map fun r => (r, x.2)
def fM (φ : D → List D → Option RR) (f : Fn RR) (fs : Fn (List RR)) : Fn RR := fun ρ => (fV f ρ).bind fun x => (fs x.2).bind fun y => (vw x.1 y.2).bind fun d => (vws y.1 y.2).bind fun ds => (φ d ds).map fun r => (r, y.2)
section
variable {X : Cx} {a b e : Expr} {es : List Expr} {f g : Fn RR} {fs : Fn (List RR)} {pos : Pos}
theorem bindS {α β : Type} {o : Option α} {k : α → Option β} {y : β} (h : o.bind k = some y) : ∃ x, o = some x ∧ k x = some y := by
  cases o with
  | none => cases h
  | some x => exact ⟨x, rfl, h⟩
theorem mapS {α β : Type} {o : Option α} {k : α → β} {y : β} (h : o.map k = some y) : ∃ x, o = some x ∧ k x = y := by
  cases o with
  | none => cases h
  | some x => exact ⟨x, rfl, Option.some.inj h⟩
theorem views_of {K : PySem.W.Frag} {G H : Hp} {σ : St} {ρ : Lo} (R : Rel K G H σ ρ) : ∀ {vs : List V} {rs : List RR} {ds : List D}, ResVs K G σ vs rs → vws rs ρ = some ds → ViewsR K G H vs ds
  | _, _, _, .nil, e => by cases e; exact .nil
  | _, _, _, .cons h t, e => by
    obtain ⟨d, e1, e⟩ := bindS e
    obtain ⟨ds, e2, rfl⟩ := mapS e
    exact .cons (vw_view R h e1) (views_of R t e2)
theorem w1 {φ : D → Option RR} {σ : St} {H : Hp} {Q : VK} (h : tD X.K (f1 φ f) σ H Q) : tV X.K (fV f) σ H fun x H1 => rU1 X.K φ x H1 Q := by
  obtain ⟨G, ρ, r, ρ', R, q, k⟩ := h
  obtain ⟨x, e1, q⟩ := bindS q
  obtain ⟨d, e3, q⟩ := bindS q
  obtain ⟨r', e5, q⟩ := mapS q
  cases q
  exact ⟨G, ρ, x.1, x.2, R, e1, fun v G1 H1 R1 S1 d1 => ⟨G1, d, r, R1.sub, vw_view R1 d1 e3, e5, fun v G' H' m => k v G' H' (pst_trans S1 (m.pst R1))⟩⟩
theorem w2 {φ : D → D → Option RR} {σ : St} {H : Hp} {Q : VK} (h : tD X.K (f2 φ f g) σ H Q) : tV X.K (fV f) σ H fun x H1 => tV X.K (fV g) σ H1 fun y H2 => rD X.K φ x y H2 Q := by
  obtain ⟨G, ρ, r, ρ', R, q, k⟩ := h
  obtain ⟨x, e1, q⟩ := bindS q
  obtain ⟨y, e2, q⟩ := bindS q
  obtain ⟨d, e3, q⟩ := bindS q
  obtain ⟨e', e4, q⟩ := bindS q
  obtain ⟨r', e5, q⟩ := mapS q
  cases q
  exact ⟨G, ρ, x.1, x.2, R, e1, fun v G1 H1 R1 S1 d1 => ⟨G1, x.2, y.1, y.2, R1, e2, fun u G2 H2 R2 S2 d2 =>
    ⟨G2, d, e', r, R2.sub, vw_view R2 (resV_mono S2.gg d1) e3, vw_view R2 d2 e4, e5, fun v G' H' m => k v G' H' (pst_trans (S1.trans S2) (m.pst R2))⟩⟩⟩
theorem wL {φ : List D → Option RR} {σ : St} {H : Hp} {Q : VK} (h : tD X.K (fL φ fs) σ H Q) : tVs X.K fs σ H fun vs H1 => rL X.K φ vs H1 Q := by
  obtain ⟨G, ρ, r, ρ', R, q, k⟩ := h
  obtain ⟨x, e1, q⟩ := bindS q
  obtain ⟨ds, e3, q⟩ := bindS q
  obtain ⟨r', e5, q⟩ := mapS q
  cases q
  exact ⟨G, ρ, x.1, x.2, R, e1, fun v G1 H1 R1 S1 d1 => ⟨G1, ds, r, R1.sub, views_of R1 d1 e3, e5, fun v G' H' m => k v G' H' (pst_trans S1 (m.pst R1))⟩⟩
theorem resVs_get {K : PySem.W.Frag} {G : Hp} {σ : St} {vs : List V} {rs : List RR} (h : ResVs K G σ vs rs) : vs.length = rs.length := by
  induction h with
  | nil => rfl
  | cons _ _ ih => simp [ih]
theorem e_bin {op : Operator} {φ : D → D → Option RR} (ho : OpR X (binaryOp op) (rD X.K φ)) (ha : PE X a (tD X.K f)) (hb : PE X b (tD X.K g)) : PE X (.BinOp a op b pos) (tD X.K (f2 φ f g)) :=
  weakE (pe_op ho (to_V ha) (to_V hb)) fun _ _ _ h => w2 h
theorem e_cmp {op : CmpOp} {φ : D → D → Option RR} (ho : OpR X (compareOp op) (rD X.K φ)) (ha : PE X a (tD X.K f)) (hb : PE X b (tD X.K g)) (hm : behindInMarks op b = false) : PE X (.Compare a [op] [b] pos) (tD X.K (f2 φ f g)) :=
  weakE (pe_cmpR ho (to_V ha) (to_V hb) hm) fun _ _ _ h => w2 h
theorem e_un {op : UnaryOp} {φ : D → Option RR} (ho : UnR X (unaryOp op) (rU1 X.K φ)) (ha : PE X a (tD X.K f)) : PE X (.UnaryOp op a pos) (tD X.K (f1 φ f)) :=
  weakE (pe_un ho (to_V ha)) fun _ _ _ h => w1 h
theorem e_ix {φ : D → D → Option RR} (hr : IxR X (rD X.K φ)) (ha : PE X a (tD X.K f)) (hb : PE X b (tD X.K g)) (hs : PlainIx b) : PE X (.Subscript a b pos) (tD X.K (f2 φ f g)) :=
  weakE (pe_ix hr (to_V ha) (to_V hb) hs) fun _ _ _ h => w2 h

def fVar (i : Nat) : Fn RR := fun ρ => match ρ[i]? with
  | some (.va d) => some (.va d, ρ)
  | some (.ls _) => some (.br i, ρ)
  | some (.bg _) => some (.br i, ρ)
  | _ => none
def fC (d : D) : Fn RR := fun ρ => some (.va d, ρ)
theorem Pst.same {K : PySem.W.Frag} {G H : Hp} {σ : St} {ρ : Lo} {v : V} {r : RR} (R : Rel K G H σ ρ) (h : ResV K G σ v r) : Pst K σ ρ G H r ρ v G H := by
  cases r with
  | va d => exact ⟨R, .refl, h, trivial⟩
  | ls ds => exact h.elim
  | br i => exact ⟨R, .refl, h, trivial⟩
theorem e_var {i : Nat} {x : Str} (hN : X.N[i]? = some x) (hv : Vis X.env.scope x) (hd : (x == ("__debug__" : Str)) = false) (hcd : (x == ("__classdict__" : Str)) = false) : PE X (.Name x pos) (tD X.K (fVar i)) :=
  weakE (pe_var hN hv hd hcd) fun σ H Q ⟨G, ρ, r, ρ', R, q, k⟩ => by
    unfold fVar at q
    cases z : ρ[i]? with
    | none => rw [z] at q; cases q
    | some s =>
      rw [z] at q
      have sl := R.sl i s z
      cases s with
      | no => cases q
      | va d =>
        cases q
        obtain ⟨v, e1, h⟩ := sl
        exact ⟨v, e1, k v G H (.same R h)⟩
      | ls ds =>
        cases q
        obtain ⟨p, xs, e1, _⟩ := sl
        exact ⟨_, e1, k _ G H (.same R e1)⟩
      | hd _ => cases q
      | dc _ => cases q
      | bd _ => cases q
      | bg ds =>
        cases q
        obtain ⟨p, xs, e1, _⟩ := sl
        exact ⟨_, e1, k _ G H (.same R e1)⟩
def Lit (K : PySem.W.Frag) (v : V) (d : D) : Prop := Dp K (fun _ => none) v d
theorem Lit.dp {K : PySem.W.Frag} {v : V} {d : D} (h : Lit K v d) (G : Hp) : Dp K G v d := dpMono (by intro _ _ z; cases z) h
theorem e_lit {v : V} {d : D} (h : PE X e (tC v)) (l : Lit X.K v d) : PE X e (tD X.K (fC d)) :=
  weakE h fun σ H Q ⟨G, ρ, r, ρ', R, q, k⟩ => by
    cases q
    exact k v G H (.same R (l.dp G))

def fTup (fs : Fn (List D)) : Fn RR := fun ρ => (fs ρ).bind fun x => if x.1.length ≤ lim then some (.va (.tuple x.1), x.2) else none
def fLst (fs : Fn (List D)) : Fn RR := fun ρ => (fs ρ).bind fun x => if x.1.length ≤ lim then some (.ls x.1, x.2) else none
theorem e_tup {fs : Fn (List D)} {x1 : Nat} (h : PA X es (tFs X.K fs)) : PE X (.Tuple es x1 pos) (tD X.K (fTup fs)) :=
  weakE (pe_tup h) fun σ H Q ⟨G, ρ, r, ρ', R, q, k⟩ => by
    obtain ⟨x, e1, q⟩ := bindS q
    by_cases hl : x.1.length ≤ lim
    · rw [if_pos hl] at q
      cases q
      refine ⟨G, ρ, x.1, x.2, R, e1, fun vs G1 H1 R1 S1 d1 => ⟨by rw [dpsLen d1]; exact lim_le hl, fun p hp => ?_⟩⟩
      exact k _ _ _ (pst_trans S1 ((Made.tup R1.sub hp d1).pst R1))
    · rw [if_neg hl] at q
      cases q
theorem e_lst {fs : Fn (List D)} (h : PA X es (tFs X.K fs)) : PE X (.List es pos) (tD X.K (fLst fs)) :=
  weakE (pe_lst h) fun σ H Q ⟨G, ρ, r, ρ', R, q, k⟩ => by
    obtain ⟨x, e1, q⟩ := bindS q
    by_cases hl : x.1.length ≤ lim
    · rw [if_pos hl] at q
      cases q
      refine ⟨G, ρ, x.1, x.2, R, e1, fun vs G1 H1 R1 S1 d1 => ⟨by rw [dpsLen d1]; exact lim_le hl, fun p hp => ?_⟩⟩
      exact k _ _ _ (pst_trans S1 ((Made.ls R1.sub hp d1).pst R1))
    · rw [if_neg hl] at q
      cases q

def truth : D → Option Bool
  | .none => some false
  | .bool b => some b
  | .int i => some (i != 0)
  | .str y => if y.length ≤ lim then some ((y.length : Int) != 0) else none
  | .list xs => some (!xs.isEmpty)
  | .tuple xs => some (!xs.isEmpty)
  | .dict _ => none
abbrev FT := Fn Bool
def tT (K : PySem.W.Frag) (f : FT) : TT := fun σ H Q => ∃ G ρ b ρ', Rel K G H σ ρ ∧ f ρ = some (b, ρ') ∧ ∀ G' H', Rel K G' H' σ ρ' → Stp σ ρ G H σ ρ' G' H' → Q b H'
def fT (f : Fn RR) : FT := fun ρ => (fV f ρ).bind fun x => (vw x.1 x.2).bind fun d => (truth d).map fun b => (b, x.2)
theorem weakT {e : Expr} {t t' : TT} (h : PT X e t) (w : ∀ σ H Q, t' σ H Q → t σ H Q) : PT X e t' := ⟨fun pins s σ H Q I q => h.run pins s σ H Q I (w σ H Q q)⟩
theorem weakW {e : Expr} {t t' : TT} (h : PW X e t) (w : ∀ σ H Q, t' σ H Q → t σ H Q) : PW X e t' := ⟨fun wh pins s σ H Q I q => h.run wh pins s σ H Q I (w σ H Q q)⟩
theorem empty_dps {K : PySem.W.Frag} {G : Hp} {xs : List V} {ds : List D} (h : DpAll K G xs ds) : (!ds.isEmpty) = !xs.isEmpty := by
  cases h <;> rfl
theorem truv_of {K : PySem.W.Frag} {H : Hp} {v : V} {d : D} {b : Bool} (h : Dp K H v d) (e : truth d = some b) : TruV K v H b := by
  cases h with
  | non => cases e; rfl
  | bl b' => cases e; rfl
  | int i => cases e; rfl
  | str y =>
    simp only [truth] at e
    by_cases hl : y.length ≤ lim
    · rw [if_pos hl] at e
      cases e
      exact ⟨lim_le hl, rfl⟩
    · rw [if_neg hl] at e
      cases e
  | lst hs al =>
    cases e
    exact .inl ⟨_, hs, empty_dps al⟩
  | tup hs al =>
    cases e
    exact .inr (.inl ⟨_, hs, empty_dps al⟩)
  | dct hs al => cases e
theorem t_val (ha : PE X a (tD X.K f)) (he : ∀ whole, isTrue a X.env whole = (do let v ← whole; standAt a.pos; holding [v] (truthy v))) : PT X a (tT X.K (fT f)) :=
  weakT (pt_truth (to_V ha) he) fun σ H Q ⟨G, ρ, b, ρ', R, q, k⟩ => by
    obtain ⟨x, e1, q⟩ := bindS q
    obtain ⟨d, e2, q⟩ := bindS q
    obtain ⟨b', e3, q⟩ := mapS q
    cases q
    exact ⟨G, ρ, x.1, x.2, R, e1, fun v G1 H1 R1 S1 d1 => ⟨b, truv_of ((vw_view R1 d1 e2).dp R1.sub) e3, k G1 H1 R1 S1⟩⟩
theorem t_cmp {op : CmpOp} {φ : D → D → Option RR} (ho : OpR X (compareOp op) (rD X.K φ)) (ha : PE X a (tD X.K f)) (hb : PE X b (tD X.K g)) (hm : behindInMarks op b = false) (hφ : ∀ d e r, φ d e = some r → ∃ b, r = .va (.bool b)) :
    PT X (.Compare a [op] [b] pos) (tT X.K (fT (f2 φ f g))) :=
  weakT (pt_cmpR ho (to_V ha) (to_V hb) hm) fun σ H Q ⟨G, ρ, c, ρ', R, q, k⟩ => by
    obtain ⟨x, e1, q⟩ := bindS q
    obtain ⟨y, e0, ey⟩ := mapS e1
    obtain ⟨d, e2, q⟩ := bindS q
    obtain ⟨b', e3, q⟩ := mapS q
    have h : tD X.K (f2 φ f g) σ H (fun x H' => ∃ k, x = .bl k ∧ Q k H') := by
      refine ⟨G, ρ, y.1, y.2, R, e0, fun v G' H' P => ?_⟩
      obtain ⟨z1, e4, q4⟩ := bindS e0
      obtain ⟨z2, e5, q5⟩ := bindS q4
      obtain ⟨z3, e6, q6⟩ := bindS q5
      obtain ⟨z4, e7, q7⟩ := bindS q6
      obtain ⟨z5, e8, q8⟩ := mapS q7
      obtain ⟨bb, e9⟩ := hφ _ _ _ e8
      subst e9
      subst q8
      subst ey
      cases e2
      cases e3
      cases q
      have res : Dp X.K G' v (.bool _) := P.res
      cases res
      exact ⟨_, rfl, k G' H' P.rel P.stp⟩
    exact w2 h
def fAnd (f g : FT) : FT := fun ρ => (f ρ).bind fun x => if x.1 then g x.2 else some (false, x.2)
def fOr (f g : FT) : FT := fun ρ => (f ρ).bind fun x => if x.1 then some (true, x.2) else g x.2
def fNot (f : FT) : FT := fun ρ => (f ρ).map fun x => (!x.1, x.2)
theorem tt_and {f g : FT} {σ : St} {H : Hp} {Q : Bool → Hp → Prop} (h : tT X.K (fAnd f g) σ H Q) : tAnd (tT X.K f) (tT X.K g) σ H Q := by
  obtain ⟨G, ρ, c, ρ', R, q, k⟩ := h
  obtain ⟨x, e1, q⟩ := bindS q
  refine ⟨G, ρ, x.1, x.2, R, e1, fun G1 H1 R1 S1 => ?_⟩
  cases hx : x.1 with
  | true =>
    rw [hx, if_pos rfl] at q
    rw [if_pos rfl]
    exact ⟨G1, x.2, c, ρ', R1, q, fun G2 H2 R2 S2 => k G2 H2 R2 (S1.trans S2)⟩
  | false =>
    rw [hx, if_neg (by simp)] at q
    cases q
    rw [if_neg (by simp)]
    exact k G1 H1 R1 S1
theorem tt_or {f g : FT} {σ : St} {H : Hp} {Q : Bool → Hp → Prop} (h : tT X.K (fOr f g) σ H Q) : tOr (tT X.K f) (tT X.K g) σ H Q := by
  obtain ⟨G, ρ, c, ρ', R, q, k⟩ := h
  obtain ⟨x, e1, q⟩ := bindS q
  refine ⟨G, ρ, x.1, x.2, R, e1, fun G1 H1 R1 S1 => ?_⟩
  cases hx : x.1 with
  | true =>
    rw [hx, if_pos rfl] at q
    cases q
    rw [if_pos rfl]
    exact k G1 H1 R1 S1
  | false =>
    rw [hx, if_neg (by simp)] at q
    rw [if_neg (by simp)]
    exact ⟨G1, x.2, c, ρ', R1, q, fun G2 H2 R2 S2 => k G2 H2 R2 (S1.trans S2)⟩
theorem t_not {f : FT} (h : PT X a (tT X.K f)) : PT X (.UnaryOp .Not a pos) (tT X.K (fNot f)) :=
  weakT (pt_not h) fun σ H Q ⟨G, ρ, c, ρ', R, q, k⟩ => by
    obtain ⟨x, e1, q⟩ := mapS q
    cases q
    exact ⟨G, ρ, x.1, x.2, R, e1, fun G1 H1 R1 S1 => k G1 H1 R1 S1⟩
def isB (f : Fn RR) : Fn Bool := fun ρ => (fV f ρ).bind fun x => match x.1 with
  | .va (.bool b) => some (b, x.2)
  | _ => none
def fAndV (f g : Fn RR) : Fn RR := fun ρ => (isB f ρ).bind fun x => if x.1 then g x.2 else some (.va (.bool false), x.2)
def fOrV (f g : Fn RR) : Fn RR := fun ρ => (isB f ρ).bind fun x => if x.1 then some (.va (.bool true), x.2) else g x.2
theorem isB_ok {f : Fn RR} {σ : St} {H : Hp} {G : Hp} {ρ : Lo} {x : Bool × Lo} {Q : VK} (R : Rel X.K G H σ ρ) (e : isB f ρ = some x) (k : ∀ G' H', Rel X.K G' H' σ x.2 → Stp σ ρ G H σ x.2 G' H' → Q (.bl x.1) H') : tV X.K (fV f) σ H Q := by
  obtain ⟨y, e1, e⟩ := bindS e
  refine ⟨G, ρ, y.1, y.2, R, e1, fun v G1 H1 R1 S1 d1 => ?_⟩
  cases hy : y.1 with
  | ls ds => rw [hy] at e; cases e
  | br i => rw [hy] at e; cases e
  | va d =>
    rw [hy] at e d1
    cases d with
    | bool b =>
      cases e
      cases (show Dp X.K G1 v (.bool b) from d1)
      exact k G1 H1 R1 S1
    | _ => cases e
theorem e_and {f g : Fn RR} {rest : List Expr} (ha : PE X a (tD X.K f)) (hb : PE X (.BoolOp .And (b :: rest) pos) (tD X.K g)) : PE X (.BoolOp .And (a :: b :: rest) pos) (tD X.K (fAndV f g)) :=
  weakE (pe_and (to_V ha) hb) fun σ H Q ⟨G, ρ, r, ρ', R, q, k⟩ => by
    obtain ⟨x, e1, q⟩ := bindS q
    refine isB_ok R e1 fun G1 H1 R1 S1 => ⟨x.1, rfl, ?_⟩
    cases hx : x.1 with
    | true =>
      rw [hx, if_pos rfl] at q
      rw [if_pos rfl]
      exact ⟨G1, x.2, r, ρ', R1, q, fun v G2 H2 P => k v G2 H2 (pst_trans S1 P)⟩
    | false =>
      rw [hx, if_neg (by simp)] at q
      cases q
      rw [if_neg (by simp)]
      exact k _ G1 H1 (pst_trans S1 (.same R1 (.bl false)))
theorem e_or {f g : Fn RR} {rest : List Expr} (ha : PE X a (tD X.K f)) (hb : PE X (.BoolOp .Or (b :: rest) pos) (tD X.K g)) : PE X (.BoolOp .Or (a :: b :: rest) pos) (tD X.K (fOrV f g)) :=
  weakE (pe_or (to_V ha) hb) fun σ H Q ⟨G, ρ, r, ρ', R, q, k⟩ => by
    obtain ⟨x, e1, q⟩ := bindS q
    refine isB_ok R e1 fun G1 H1 R1 S1 => ⟨x.1, rfl, ?_⟩
    cases hx : x.1 with
    | false =>
      rw [hx, if_neg (by simp)] at q
      rw [if_neg (by simp)]
      exact ⟨G1, x.2, r, ρ', R1, q, fun v G2 H2 P => k v G2 H2 (pst_trans S1 P)⟩
    | true =>
      rw [hx, if_pos rfl] at q
      cases q
      rw [if_pos rfl]
      exact k _ G1 H1 (pst_trans S1 (.same R1 (.bl true)))
def fNotV (f : Fn RR) : Fn RR := fun ρ => (isB f ρ).map fun x => (.va (.bool (!x.1)), x.2)
theorem e_not {f : Fn RR} (ha : PE X a (tD X.K f)) : PE X (.UnaryOp .Not a pos) (tD X.K (fNotV f)) :=
  weakE (pe_not (to_V ha)) fun σ H Q ⟨G, ρ, r, ρ', R, q, k⟩ => by
    obtain ⟨x, e1, q⟩ := mapS q
    cases q
    exact isB_ok R e1 fun G1 H1 R1 S1 => ⟨x.1, rfl, k _ G1 H1 (pst_trans S1 (.same R1 (.bl (!x.1))))⟩
def fIf (c : FT) (f g : Fn RR) : Fn RR := fun ρ => (c ρ).bind fun x => if x.1 then f x.2 else g x.2
theorem e_if {c : Expr} {fc : FT} {f g : Fn RR} (hc : PT X c (tT X.K fc)) (ha : PE X a (tD X.K f)) (hb : PE X b (tD X.K g)) : PE X (.IfExp c a b pos) (tD X.K (fIf fc f g)) :=
  weakE (pe_ifExp hc ha hb) fun σ H Q ⟨G, ρ, r, ρ', R, q, k⟩ => by
    obtain ⟨x, e1, q⟩ := bindS q
    refine ⟨G, ρ, x.1, x.2, R, e1, fun G1 H1 R1 S1 => ?_⟩
    cases hx : x.1 with
    | true =>
      rw [hx, if_pos rfl] at q
      rw [if_pos rfl]
      exact ⟨G1, x.2, r, ρ', R1, q, fun v G2 H2 P => k v G2 H2 (pst_trans S1 P)⟩
    | false =>
      rw [hx, if_neg (by simp)] at q
      rw [if_neg (by simp)]
      exact ⟨G1, x.2, r, ρ', R1, q, fun v G2 H2 P => k v G2 H2 (pst_trans S1 P)⟩
end
end Den


set_option autoImplicit false
namespace Den
open PySem PySem.Spec PySem.SeqAt L2
theorem dict_eq_declines_tuple (l b : Addr) (es : Array DictEntry) (items2 : Array Value) (n n2 : Nat) (dd dd2 : Option Addr) (sl sl2 : Array (Option Value)) :
    Meets (Builtin.«dict.__eq__» ⟨[.ref l, .ref b], []⟩) (fun _ R s => s.heap.get? l = some { cls := .type "dict", dict := dd, data := .dict es n, slots := sl } ∧ s.heap.get? b = some { cls := .type "tuple", dict := dd2, data := .seq items2 n2, slots := sl2 } ∧ R (.ok (.ret .notImplemented)) s) :=
  .of_wp fun prog w A R s h => by obtain ⟨hp, g, d, tk, os⟩ := s; obtain ⟨hl, hb, h⟩ := h; have f1 := F.sub_tuple_dict; wp_walk using wpAny_loadPart' hl, wpAny_loadPart' hb; exact ⟨_, rfl, h⟩
theorem tuple_eq_declines_dict (l b : Addr) (items : Array Value) (es : Array DictEntry) (n n2 : Nat) (dd dd2 : Option Addr) (sl sl2 : Array (Option Value)) :
    Meets (Builtin.«tuple.__eq__» ⟨[.ref l, .ref b], []⟩) (fun _ R s => s.heap.get? l = some { cls := .type "tuple", dict := dd, data := .seq items n, slots := sl } ∧ s.heap.get? b = some { cls := .type "dict", dict := dd2, data := .dict es n2, slots := sl2 } ∧ R (.ok (.ret .notImplemented)) s) :=
  .of_wp fun prog w A R s h => by obtain ⟨hp, g, d, tk, os⟩ := s; obtain ⟨hl, hb, h⟩ := h; have f1 := F.sub_dict_tuple; wp_walk using wpAny_loadPart' hl, wpAny_loadPart' hb; exact ⟨_, rfl, h⟩
theorem dict_tuple_ne {A : Around} {s : Shared} {l b : Addr} {es : Array DictEntry} {n n2 : Nat} {dd dd2 : Option Addr} {sl sl2 : Array (Option Value)} {items2 : Array Value}
    (ho : s.heap.get? l = some { cls := .type "dict", dict := dd, data := .dict es n, slots := sl }) (ho2 : s.heap.get? b = some { cls := .type "tuple", dict := dd2, data := .seq items2 n2, slots := sl2 }) (hu : A.units < cLine) : RcAt A s (.ref l) (.ref b) false := fun prog w E Q h => by
  have hne : l ≠ b := fun e => by
    subst e
    rw [ho] at ho2
    have q := congrArg Obj.cls (Option.some.inj ho2)
    simp at q
  exact (rc_eq_decline_or (k := false) ⟨_, ho, rfl⟩ ⟨_, ho2, rfl⟩ (by decide) F.sub_tuple_dict F.slot_dict_eq F.slot_tuple_eq_refl
    (fun _ hq => call_meets F.slot_dict_eq ⟨_, ho, rfl⟩ F.entry_dict_eq (F.args_dict_eq_2 _ _) (dict_eq_declines_tuple l b es items2 n n2 dd dd2 sl sl2) ⟨ho, ho2, hq⟩)
    (fun _ hq => call_meets F.slot_tuple_eq_refl ⟨_, ho2, rfl⟩ F.entry_tuple_eq (F.args_tuple_eq_2 _ _) (tuple_eq_declines_dict b l items2 es n2 n dd2 dd sl2 sl) ⟨ho2, ho, hq⟩)
    (fun _ hq => wpAny_isSame_ref_other hne ho ho2 (by simp) hq) (.inr hu) h)
end Den


set_option autoImplicit false
namespace Den
open PySem PySem.Spec L2

section
variable {K : PySem.W.Frag} {G H : Hp} {v : V}
theorem view_int {i : Int} (h : ViewR K G H v (.int i)) : v = .int i := by
  rcases h with h | ⟨_, _, _, _, _, e, _⟩
  · cases h; rfl
  · cases e
theorem view_bool {i : Bool} (h : ViewR K G H v (.bool i)) : v = .bl i := by
  rcases h with h | ⟨_, _, _, _, _, e, _⟩
  · cases h; rfl
  · cases e
theorem view_str {i : Str} (h : ViewR K G H v (.str i)) : v = .str i := by
  rcases h with h | ⟨_, _, _, _, _, e, _⟩
  · cases h; rfl
  · cases e
theorem view_none (h : ViewR K G H v .none) : v = .non := by
  rcases h with h | ⟨_, _, _, _, _, e, _⟩
  · cases h; rfl
  · cases e
theorem view_list {ds : List D} (s : Same G H) (h : ViewR K G H v (.list ds)) : ∃ (a : Addr) (xs : List V), v = .ref a ∧ SqL K H a xs ∧ DpAll K G xs ds := by
  rcases h with h | ⟨p, xs, ds', rfl, e, e2, al⟩
  · cases h with
    | lst hs al => exact ⟨_, _, rfl, s.seq hs, al⟩
  · cases e2
    exact ⟨p, xs, rfl, SqL.of e, al⟩
theorem view_tup {ds : List D} (s : Same G H) (h : ViewR K G H v (.tuple ds)) : ∃ (a : Addr) (xs : List V), v = .ref a ∧ SqT K H a xs ∧ DpAll K G xs ds := by
  rcases h with h | ⟨p, xs, ds', rfl, e, e2, al⟩
  · cases h with
    | tup hs al => exact ⟨_, _, rfl, same_tup s hs, al⟩
  · cases e2
theorem view_tupG {ds : List D} (h : ViewR K G H v (.tuple ds)) : Dp K G v (.tuple ds) := by
  rcases h with h | ⟨p, xs, ds', rfl, e, e2, al⟩
  · exact h
  · cases e2
theorem made_int (s : Same G H) (i : Int) : Made K G H (.int i) (.va (.int i)) G H := .va s (.int i)
theorem made_bool (s : Same G H) (i : Bool) : Made K G H (.bl i) (.va (.bool i)) G H := .va s (.bl i)
theorem made_str (s : Same G H) (i : Str) : Made K G H (.str i) (.va (.str i)) G H := .va s (.str i)
end

def φAdd : D → D → Option RR
  | .int i, .int j => some (.va (.int (i + j)))
  | .str x, .str y => if x.length + y.length ≤ lim then some (.va (.str (x ++ y))) else none
  | .list xs, .list ys => if xs.length + ys.length ≤ lim then some (.ls (xs ++ ys)) else none
  | .tuple xs, .tuple ys => if xs.length + ys.length ≤ lim then some (.va (.tuple (xs ++ ys))) else none
  | _, _ => none
def φSub : D → D → Option RR
  | .int i, .int j => some (.va (.int (i - j)))
  | _, _ => none
def φMul : D → D → Option RR
  | .int i, .int j => if (-(2 ^ 64) < i ∧ i < 2 ^ 64) ∨ (-(2 ^ 64) < j ∧ j < 2 ^ 64) then some (.va (.int (i * j))) else none
  | _, _ => none
def φDiv : D → D → Option RR
  | .int i, .int j => if 0 < j ∧ j < 18446744073709551616 then some (.va (.int (i / j))) else none
  | _, _ => none
def φMod : D → D → Option RR
  | .int i, .int j => if 0 < j then some (.va (.int (i % j))) else none
  | _, _ => none
def φPow : D → D → Option RR
  | .int i, .int j => if 0 ≤ j ∧ j ≤ 100 ∧ -1000 < i ∧ i < 1000 then some (.va (.int (i ^ j.toNat))) else none
  | _, _ => none
section
variable {X : Cx}
theorem iteS {α : Type} {c : Prop} [Decidable c] {x y : α} (h : (if c then some x else none) = some y) : c ∧ x = y := by
  by_cases hc : c
  · rw [if_pos hc] at h
    exact ⟨hc, Option.some.inj h⟩
  · rw [if_neg hc] at h
    cases h
theorem d_cat {pins : List (Addr × Obj)} {s : Shared} {σ : St} {H : Hp} {l b : Addr} {xs ys : List V} {Q : VK} (I : Inv X pins σ H s) (ha : SqL X.K H l xs) (hb : SqL X.K H b ys) (hz : xs.length + ys.length ≤ sizeLine)
    (q : ∀ p, H p = none → Q (.ref p) (upd H p (.lst (xs ++ ys)))) : wpAny (model X.prog X.w) X.A (binaryOp .Add (.ref l) (.ref b)) (EP X pins σ Q) X.xe s := by
  obtain ⟨its, r, pl, _⟩ := I.list ha
  obtain ⟨its2, r2, pl2, _⟩ := I.list hb
  obtain ⟨⟨cls, dd, data, sl⟩, n, ho, hc, _, hd⟩ := pl
  obtain ⟨⟨cls2, dd2, data2, sl2⟩, n2, ho2, hc2, _, hd2⟩ := pl2
  simp only at hc hd hc2 hd2
  subst hc hd hc2 hd2
  have l1 := r.length
  have l2 := r2.length
  refine concat_meets ⟨_, ho, rfl⟩ ⟨_, ho2, rfl⟩ noFill_list_add seq_list_add PySem.F.slot_list_add PySem.F.entry_list_add (PySem.F.args_list_add_2 _ _)
    (PyProof.Rows.list_addW l b its.toArray its2.toArray n n2 dd dd2 sl sl2 (by rw [List.size_toArray, List.size_toArray]; omega)) ⟨ho, ho2, ?_⟩
  have ea : its.toArray ++ its2.toArray = (its ++ its2).toArray := by simp
  rw [ea]
  exact ⟨.ref _, _, I.lnew (t' := s.toks) (r.append r2) (by rw [List.length_append]; omega), rfl, q _ I.fresh⟩
theorem o_add : OpR X (binaryOp .Add) (rD X.K φAdd) := by
  intro pins s σ H x y v u Q I rx ry h
  obtain ⟨G, d, e, r, sg, hx, hy, hφ, k⟩ := h
  unfold φAdd at hφ
  split at hφ
  · cases hφ
    cases view_int hx
    cases view_int hy
    exact op_add pins s σ H _ _ v u Q I rx ry ⟨_, _, rfl, rfl, k _ G H (made_int sg _)⟩
  · obtain ⟨hc, rfl⟩ := iteS hφ
    cases view_str hx
    cases view_str hy
    exact op_add_str pins s σ H _ _ v u Q I rx ry ⟨_, _, rfl, rfl, lim_le hc, k _ G H (made_str sg _)⟩
  · obtain ⟨hc, rfl⟩ := iteS hφ
    obtain ⟨a, xs, rfl, ha, al⟩ := view_list sg hx
    obtain ⟨b, ys, rfl, hb, bl⟩ := view_list sg hy
    cases rx
    cases ry
    exact d_cat I ha hb (by rw [dpsLen al, dpsLen bl]; exact lim_le hc) fun p hp => k _ _ _ (.ls sg hp (dpsApp al bl))
  · obtain ⟨hc, rfl⟩ := iteS hφ
    obtain ⟨a, xs, rfl, ha, al⟩ := view_tup sg hx
    obtain ⟨b, ys, rfl, hb, bl⟩ := view_tup sg hy
    refine op_catA pins s σ H _ _ v u Q I rx ry ⟨a, b, xs, ys, rfl, rfl, ha, hb, by rw [dpsLen al, dpsLen bl]; exact lim_le hc, fun z => ?_, fun _ z => ?_, fun _ _ p hp => k _ _ _ (.tup sg hp (dpsApp al bl))⟩
    · subst z
      cases al
      exact k _ G H (.va sg (view_tupG hy))
    · subst z
      cases bl
      rw [List.append_nil] at k
      exact k _ G H (.va sg (view_tupG hx))
  · cases hφ
theorem o_sub : OpR X (binaryOp .Sub) (rD X.K φSub) := by
  intro pins s σ H x y v u Q I rx ry h
  obtain ⟨G, d, e, r, sg, hx, hy, hφ, k⟩ := h
  unfold φSub at hφ
  split at hφ
  · cases hφ
    cases view_int hx
    cases view_int hy
    exact op_sub pins s σ H _ _ v u Q I rx ry ⟨_, _, rfl, rfl, k _ G H (made_int sg _)⟩
  · cases hφ
theorem o_mul : OpR X (binaryOp .Mult) (rD X.K φMul) := by
  intro pins s σ H x y v u Q I rx ry h
  obtain ⟨G, d, e, r, sg, hx, hy, hφ, k⟩ := h
  unfold φMul at hφ
  split at hφ
  · obtain ⟨hc, rfl⟩ := iteS hφ
    cases view_int hx
    cases view_int hy
    exact op_mul pins s σ H _ _ v u Q I rx ry ⟨_, _, rfl, rfl, hc, k _ G H (made_int sg _)⟩
  · cases hφ
theorem o_div : OpR X (binaryOp .FloorDiv) (rD X.K φDiv) := by
  intro pins s σ H x y v u Q I rx ry h
  obtain ⟨G, d, e, r, sg, hx, hy, hφ, k⟩ := h
  unfold φDiv at hφ
  split at hφ
  · obtain ⟨hc, rfl⟩ := iteS hφ
    cases view_int hx
    cases view_int hy
    exact op_fdivW pins s σ H _ _ v u Q I rx ry ⟨_, _, rfl, rfl, wide_div (b := 64) hc.1 (by omega) (by decide) (by decide), k _ G H (made_int sg _)⟩
  · cases hφ
theorem o_mod : OpR X (binaryOp .Mod) (rD X.K φMod) := by
  intro pins s σ H x y v u Q I rx ry h
  obtain ⟨G, d, e, r, sg, hx, hy, hφ, k⟩ := h
  unfold φMod at hφ
  split at hφ
  · obtain ⟨hc, rfl⟩ := iteS hφ
    cases view_int hx
    cases view_int hy
    exact op_mod pins s σ H _ _ v u Q I rx ry ⟨_, _, rfl, rfl, hc, k _ G H (made_int sg _)⟩
  · cases hφ
theorem o_pow : OpR X (binaryOp .Pow) (rD X.K φPow) := by
  intro pins s σ H x y v u Q I rx ry h
  obtain ⟨G, d, e, r, sg, hx, hy, hφ, k⟩ := h
  unfold φPow at hφ
  split at hφ
  · obtain ⟨hc, rfl⟩ := iteS hφ
    cases view_int hx
    cases view_int hy
    exact op_pow pins s σ H _ _ v u Q I rx ry ⟨_, _, rfl, rfl, ⟨hc.1, by omega, by omega⟩, k _ G H (made_int sg _)⟩
  · cases hφ
def φNeg : D → Option RR
  | .int i => some (.va (.int (-i)))
  | _ => none
theorem o_neg : UnR X (unaryOp .USub) (rU1 X.K φNeg) := by
  intro pins s σ H x v Q I rx h
  obtain ⟨G, d, r, sg, hx, hφ, k⟩ := h
  unfold φNeg at hφ
  split at hφ
  · cases hφ
    cases view_int hx
    exact un_neg pins s σ H _ v Q I rx ⟨_, rfl, k _ G H (made_int sg _)⟩
  · cases hφ

def isStrD : D → Bool
  | .str _ => true
  | _ => false
def dctTup : D → D → Bool
  | .dict _, .tuple _ => true
  | _, _ => false
theorem dctTup_ok {d e : D} (h : dctTup d e = true) : ∃ x y, d = .dict x ∧ e = .tuple y := by
  unfold dctTup at h
  split at h
  · exact ⟨_, _, rfl, rfl⟩
  · cases h
def φEq (d e : D) : Option RR := if (SeqAt.shaped d = true ∧ SeqAt.shaped e = true) ∨ (isStrD d = true ∧ isStrD e = true) then some (.va (.bool (PyData.eqv d e))) else if dctTup d e = true then some (.va (.bool false)) else none
def φNe (d e : D) : Option RR := if (SeqAt.shaped d = true ∧ SeqAt.shaped e = true) ∨ (isStrD d = true ∧ isStrD e = true) then some (.va (.bool (!PyData.eqv d e))) else none
theorem isStr_ok {d : D} (h : isStrD d = true) : ∃ x, d = .str x := by
  cases d <;> first | exact ⟨_, rfl⟩ | cases h
theorem o_eq (hu : X.A.units + 64 < cLine) : OpR X (compareOp .Eq) (rD X.K φEq) := by
  intro pins s σ H x y v u Q I rx ry h
  obtain ⟨G, d, e, r, sg, hx, hy, hφ, k⟩ := h
  unfold φEq at hφ
  by_cases hA : (SeqAt.shaped d = true ∧ SeqAt.shaped e = true) ∨ (isStrD d = true ∧ isStrD e = true)
  case neg =>
    rw [if_neg hA] at hφ
    obtain ⟨hd, rfl⟩ := iteS hφ
    obtain ⟨ks, es, rfl, rfl⟩ := dctTup_ok hd
    have hxd := hx.dp sg
    cases hxd with
    | dct ha al =>
      obtain ⟨b, ys, rfl, hb, _⟩ := view_tup sg hy
      cases rx
      cases ry
      obtain ⟨_, _, _, _, ⟨⟨cls, dd, data, sls⟩, tab, ep, ho, ⟨hc, _, _⟩, hda, _⟩⟩ := (show ObjOk X.prog X.w H s.heap _ (.dK _) from I.hok _ _ ha)
      obtain ⟨its, rv, ⟨⟨cls2, dd2, data2, sls2⟩, hob, hcl, n, hda2⟩, hz⟩ := I.tuple hb
      simp only at hc hda hcl hda2
      subst hc hda hcl hda2
      exact dict_tuple_ne ho hob (by omega) _ _ _ _ ⟨.bl _, H, I, rfl, k _ G H (made_bool sg _)⟩
  rw [if_pos hA] at hφ
  cases hφ
  have hc := hA
  rcases hc with hc | hc
  · exact op_eqD hu pins s σ H _ _ v u Q I rx ry ⟨d, e, (hx.dp sg).toS hc.1, (hy.dp sg).toS hc.2, hc.1, hc.2, k _ G H (made_bool sg _)⟩
  · obtain ⟨a, rfl⟩ := isStr_ok hc.1
    obtain ⟨b, rfl⟩ := isStr_ok hc.2
    cases view_str hx
    cases view_str hy
    refine op_eq pins s σ H _ _ v u Q I rx ry ⟨rfl, ?_⟩
    rw [dec_str]
    exact k _ G H (made_bool sg _)
theorem o_ne (hu : X.A.units + 64 < cLine) : OpR X (compareOp .NotEq) (rD X.K φNe) := by
  intro pins s σ H x y v u Q I rx ry h
  obtain ⟨G, d, e, r, sg, hx, hy, hφ, k⟩ := h
  obtain ⟨hc, rfl⟩ := iteS hφ
  rcases hc with hc | hc
  · exact op_neD hu pins s σ H _ _ v u Q I rx ry ⟨d, e, (hx.dp sg).toS hc.1, (hy.dp sg).toS hc.2, hc.1, hc.2, k _ G H (made_bool sg _)⟩
  · obtain ⟨a, rfl⟩ := isStr_ok hc.1
    obtain ⟨b, rfl⟩ := isStr_ok hc.2
    cases view_str hx
    cases view_str hy
    refine op_ne pins s σ H _ _ v u Q I rx ry ⟨rfl, ?_⟩
    rw [dec_str]
    exact k _ G H (made_bool sg _)
def φCmp (p : Int → Int → Bool) : D → D → Option RR
  | .int i, .int j => some (.va (.bool (p i j)))
  | _, _ => none
theorem o_cmp {f : Value → Value → Sem Value} {p : Int → Int → Bool} (ho : OpR X f (rI0 fun i j => .bl (p i j))) : OpR X f (rD X.K (φCmp p)) := by
  intro pins s σ H x y v u Q I rx ry h
  obtain ⟨G, d, e, r, sg, hx, hy, hφ, k⟩ := h
  unfold φCmp at hφ
  split at hφ
  · cases hφ
    cases view_int hx
    cases view_int hy
    exact ho pins s σ H _ _ v u Q I rx ry ⟨_, _, rfl, rfl, k _ G H (made_bool sg _)⟩
  · cases hφ
def φIn (d : D) : D → Option RR
  | .list es => if SeqAt.shaped d = true ∧ SeqAt.shaped (.list es) = true then some (.va (.bool (es.any fun z => PyData.eqv z d))) else none
  | .tuple es => if SeqAt.shaped d = true ∧ SeqAt.shaped (.tuple es) = true then some (.va (.bool (es.any fun z => PyData.eqv z d))) else none
  | _ => none
def φNotIn (d : D) : D → Option RR
  | .list es => if SeqAt.shaped d = true ∧ SeqAt.shaped (.list es) = true then some (.va (.bool (!es.any fun z => PyData.eqv z d))) else none
  | .tuple es => if SeqAt.shaped d = true ∧ SeqAt.shaped (.tuple es) = true then some (.va (.bool (!es.any fun z => PyData.eqv z d))) else none
  | _ => none
theorem canLayT {es : List D} (h : SeqAt.shaped (.tuple es) = true) : PyData.canLayAll0 es = true := by
  have q := SeqAt.canLay_of_shaped h
  simpa only [PyData.canLay0] using q
theorem o_in (hu : X.A.units + 65 < cLine) : OpR X (compareOp .In) (rD X.K φIn) := by
  intro pins s σ H x y v u Q I rx ry h
  obtain ⟨G, d, e, r, sg, hx, hy, hφ, k⟩ := h
  unfold φIn at hφ
  split at hφ
  · obtain ⟨hc, rfl⟩ := iteS hφ
    exact op_inD hu pins s σ H _ _ v u Q I rx ry ⟨d, _, (hx.dp sg).toS hc.1, (hy.dp sg).toS hc.2, hc.1, hc.2, k _ G H (made_bool sg _)⟩
  · obtain ⟨hc, rfl⟩ := iteS hφ
    obtain ⟨as, r1⟩ := L2.Dp.reads I d x v ((hx.dp sg).toS hc.1) rx
    obtain ⟨bs, r2⟩ := L2.Dp.reads I _ y u ((hy.dp sg).toS hc.2) ry
    exact SeqAt.in_tuple_reads r2 r1 (canLayT hc.2) (SeqAt.canLay_of_shaped hc.1) (PyProof.Rows.room_in_shaped hc.1 hu) ⟨.bl _, H, I, rfl, k _ G H (made_bool sg _)⟩
  · cases hφ
theorem o_notIn (hu : X.A.units + 65 < cLine) : OpR X (compareOp .NotIn) (rD X.K φNotIn) := by
  intro pins s σ H x y v u Q I rx ry h
  obtain ⟨G, d, e, r, sg, hx, hy, hφ, k⟩ := h
  unfold φNotIn at hφ
  split at hφ
  · obtain ⟨hc, rfl⟩ := iteS hφ
    exact op_notInD hu pins s σ H _ _ v u Q I rx ry ⟨d, _, (hx.dp sg).toS hc.1, (hy.dp sg).toS hc.2, hc.1, hc.2, k _ G H (made_bool sg _)⟩
  · obtain ⟨hc, rfl⟩ := iteS hφ
    obtain ⟨as, r1⟩ := L2.Dp.reads I d x v ((hx.dp sg).toS hc.1) rx
    obtain ⟨bs, r2⟩ := L2.Dp.reads I _ y u ((hy.dp sg).toS hc.2) ry
    exact SeqAt.notIn_tuple_reads r2 r1 (canLayT hc.2) (SeqAt.canLay_of_shaped hc.1) (PyProof.Rows.room_in_shaped hc.1 hu) ⟨.bl _, H, I, rfl, k _ G H (made_bool sg _)⟩
  · cases hφ
def isNone : D → Bool
  | .none => true
  | _ => false
def φIs (d : D) : D → Option RR
  | .none => some (.va (.bool (isNone d)))
  | _ => none
def φIsNot (d : D) : D → Option RR
  | .none => some (.va (.bool (!isNone d)))
  | _ => none
theorem none_iff {K : PySem.W.Frag} {H : Hp} {v : V} {d : D} (h : Dp K H v d) : decide (v = .non) = isNone d := by
  cases h <;> rfl
theorem o_is : OpR X (compareOp .Is) (rD X.K φIs) := by
  intro pins s σ H x y v u Q I rx ry h
  obtain ⟨G, d, e, r, sg, hx, hy, hφ, k⟩ := h
  unfold φIs at hφ
  split at hφ
  · cases hφ
    refine op_isN pins s σ H _ _ v u Q I rx ry ⟨view_none hy, ?_⟩
    rw [none_iff (hx.dp sg)]
    exact k _ G H (made_bool sg _)
  · cases hφ
theorem o_isNot : OpR X (compareOp .IsNot) (rD X.K φIsNot) := by
  intro pins s σ H x y v u Q I rx ry h
  obtain ⟨G, d, e, r, sg, hx, hy, hφ, k⟩ := h
  unfold φIsNot at hφ
  split at hφ
  · cases hφ
    refine op_notN pins s σ H _ _ v u Q I rx ry ⟨view_none hy, ?_⟩
    rw [none_iff (hx.dp sg)]
    exact k _ G H (made_bool sg _)
  · cases hφ

def φIx : D → D → Option RR
  | .list xs, .int i => (atI xs i).map .va
  | .tuple xs, .int i => (atI xs i).map .va
  | .str z, .int i => if z.length ≤ lim then (atI z.cps.toList i).map fun c => .va (.str ⟨#[c]⟩) else none
  | _, _ => none
theorem atI_dps {K : PySem.W.Frag} {G : Hp} {xs : List V} {ds : List D} {i : Int} {d : D} (al : DpAll K G xs ds) (h : atI ds i = some d) : ∃ v, atI xs i = some v ∧ Dp K G v d := by
  unfold atI at h ⊢
  obtain ⟨j, h1, h2⟩ := bindS h
  rw [← dpsLen al] at h1
  rw [h1]
  exact dpsGet al h2
theorem o_ix : IxR X (rD X.K φIx) := by
  intro val sli pins s σ H x y v u Q I rx ry h hsub
  obtain ⟨G, d, e, r, sg, hx, hy, hφ, k⟩ := h
  unfold φIx at hφ
  split at hφ
  · obtain ⟨d', h1, rfl⟩ := mapS hφ
    obtain ⟨a, xs, rfl, ha, al⟩ := view_list sg hx
    obtain ⟨w, h2, h3⟩ := atI_dps al h1
    exact ix_list val sli pins s σ H _ y v u Q I rx ry ⟨a, xs, _, w, rfl, view_int hy, ha, h2, k _ G H (.va sg h3)⟩ hsub
  · obtain ⟨d', h1, rfl⟩ := mapS hφ
    obtain ⟨a, xs, rfl, ha, al⟩ := view_tup sg hx
    obtain ⟨w, h2, h3⟩ := atI_dps al h1
    exact ix_tup val sli pins s σ H _ y v u Q I rx ry ⟨a, xs, _, w, rfl, view_int hy, ha, h2, k _ G H (.va sg h3)⟩ hsub
  · rename_i z i
    by_cases hl : z.length ≤ lim
    · rw [if_pos hl] at hφ
      obtain ⟨c, h1, rfl⟩ := mapS hφ
      exact ix_str val sli pins s σ H _ y v u Q I rx ry ⟨z, i, c, view_str hx, view_int hy, lim_le hl, h1, k _ G H (made_str sg _)⟩ hsub
    · rw [if_neg hl] at hφ
      cases hφ
  · cases hφ

theorem views1 {K : PySem.W.Frag} {G H : Hp} {vs : List V} {d : D} (h : ViewsR K G H vs [d]) : ∃ v, vs = [v] ∧ ViewR K G H v d := by
  cases h with
  | cons h t => cases t; exact ⟨_, rfl, h⟩
theorem views2 {K : PySem.W.Frag} {G H : Hp} {vs : List V} {d e : D} (h : ViewsR K G H vs [d, e]) : ∃ v u, vs = [v, u] ∧ ViewR K G H v d ∧ ViewR K G H u e := by
  cases h with
  | cons h t =>
    obtain ⟨u, rfl, q⟩ := views1 t
    exact ⟨_, u, rfl, h, q⟩
theorem views3 {K : PySem.W.Frag} {G H : Hp} {vs : List V} {d e f : D} (h : ViewsR K G H vs [d, e, f]) : ∃ v u w, vs = [v, u, w] ∧ ViewR K G H v d ∧ ViewR K G H u e ∧ ViewR K G H w f := by
  cases h with
  | cons h t =>
    obtain ⟨u, w, rfl, q, q2⟩ := views2 t
    exact ⟨_, u, w, rfl, h, q, q2⟩
def φLen : List D → Option RR
  | [.list xs] => some (.va (.int xs.length))
  | [.tuple xs] => some (.va (.int xs.length))
  | [.str z] => if z.length ≤ lim then some (.va (.int z.length)) else none
  | _ => none
theorem c_len : CallR X (.builtin "len") (rL X.K φLen) := by
  intro pins s σ H vs us Q I rs h
  obtain ⟨G, ds, r, sg, hv, hφ, k⟩ := h
  unfold φLen at hφ
  split at hφ
  · cases hφ
    obtain ⟨v, rfl, hx⟩ := views1 hv
    obtain ⟨a, xs, rfl, ha, al⟩ := view_list sg hx
    refine call_len_seq pins s σ H _ us Q I rs ⟨a, xs, rfl, .inl ha, ?_⟩
    rw [dpsLen al]
    exact k _ G H (made_int sg _)
  · cases hφ
    obtain ⟨v, rfl, hx⟩ := views1 hv
    obtain ⟨a, xs, rfl, ha, al⟩ := view_tup sg hx
    refine call_len_seq pins s σ H _ us Q I rs ⟨a, xs, rfl, .inr ha, ?_⟩
    rw [dpsLen al]
    exact k _ G H (made_int sg _)
  · obtain ⟨hc, rfl⟩ := iteS hφ
    obtain ⟨v, rfl, hx⟩ := views1 hv
    cases view_str hx
    exact call_len_str pins s σ H _ us Q I rs ⟨_, rfl, lim_le hc, k _ G H (made_int sg _)⟩
  · cases hφ
def φAbs : List D → Option RR
  | [.int i] => some (.va (.int (if i < 0 then -i else i)))
  | _ => none
theorem c_abs : CallR X (.builtin "abs") (rL X.K φAbs) := by
  intro pins s σ H vs us Q I rs h
  obtain ⟨G, ds, r, sg, hv, hφ, k⟩ := h
  unfold φAbs at hφ
  split at hφ
  · cases hφ
    obtain ⟨v, rfl, hx⟩ := views1 hv
    cases view_int hx
    exact call_abs pins s σ H _ us Q I rs ⟨_, rfl, k _ G H (made_int sg _)⟩
  · cases hφ
def φInt : List D → Option RR
  | [.int i] => some (.va (.int i))
  | [.bool b] => some (.va (.int (if b then 1 else 0)))
  | _ => none
theorem c_int : CallR X (.type "int") (rL X.K φInt) := by
  intro pins s σ H vs us Q I rs h
  obtain ⟨G, ds, r, sg, hv, hφ, k⟩ := h
  unfold φInt at hφ
  split at hφ
  · cases hφ
    obtain ⟨v, rfl, hx⟩ := views1 hv
    cases view_int hx
    exact call_int1 pins s σ H _ us Q I rs (.inl ⟨_, rfl, k _ G H (made_int sg _)⟩)
  · cases hφ
    obtain ⟨v, rfl, hx⟩ := views1 hv
    cases view_bool hx
    exact call_int1 pins s σ H _ us Q I rs (.inr ⟨_, rfl, k _ G H (made_int sg _)⟩)
  · cases hφ
def intsOf : List D → Option (List Int)
  | [] => some []
  | .int i :: ds => (intsOf ds).map (i :: ·)
  | _ :: _ => none
def boolsOf : List D → Option (List Bool)
  | [] => some []
  | .bool i :: ds => (boolsOf ds).map (i :: ·)
  | _ :: _ => none
theorem ints_dps {K : PySem.W.Frag} {G : Hp} : ∀ {xs : List V} {ds : List D} {ns : List Int}, DpAll K G xs ds → intsOf ds = some ns → xs = ns.map V.int
  | _, _, _, .nil, e => by cases e; rfl
  | _, _, _, .cons h t, e => by
    cases h with
    | int i =>
      obtain ⟨ms, e1, rfl⟩ := mapS e
      rw [ints_dps t e1]
      rfl
    | _ => cases e
theorem bools_dps {K : PySem.W.Frag} {G : Hp} : ∀ {xs : List V} {ds : List D} {ns : List Bool}, DpAll K G xs ds → boolsOf ds = some ns → xs = ns.map V.bl
  | _, _, _, .nil, e => by cases e; rfl
  | _, _, _, .cons h t, e => by
    cases h with
    | bl i =>
      obtain ⟨ms, e1, rfl⟩ := mapS e
      rw [bools_dps t e1]
      rfl
    | _ => cases e
def φMax : List D → Option RR
  | [.int i, .int j] => some (.va (.int (if j > i then j else i)))
  | _ => none
def φMin : List D → Option RR
  | [.int i, .int j] => some (.va (.int (if j < i then j else i)))
  | [.int i, .int j, .int l] => some (.va (.int (if l < (if j < i then j else i) then l else (if j < i then j else i))))
  | [.list ds] => (intsOf ds).bind fun ns => ns.min?.map fun m => .va (.int m)
  | _ => none
theorem c_max (hc : X.calm = true) : CallR X (.builtin "max") (rL X.K φMax) := by
  intro pins s σ H vs us Q I rs h
  obtain ⟨G, ds, r, sg, hv, hφ, k⟩ := h
  unfold φMax at hφ
  split at hφ
  · cases hφ
    obtain ⟨v, u, rfl, hx, hy⟩ := views2 hv
    cases view_int hx
    cases view_int hy
    exact call_max2 hc pins s σ H _ us Q I rs ⟨_, _, rfl, k _ G H (made_int sg _)⟩
  · cases hφ
theorem c_min (hc : X.calm = true) : CallR X (.builtin "min") (rL X.K φMin) := by
  intro pins s σ H vs us Q I rs h
  obtain ⟨G, ds, r, sg, hv, hφ, k⟩ := h
  unfold φMin at hφ
  split at hφ
  · cases hφ
    obtain ⟨v, u, rfl, hx, hy⟩ := views2 hv
    cases view_int hx
    cases view_int hy
    exact call_min2 hc pins s σ H _ us Q I rs ⟨_, _, rfl, k _ G H (made_int sg _)⟩
  · rename_i i j l
    obtain ⟨v, u, w, rfl, hx, hy, hz⟩ := views3 hv
    cases view_int hx
    cases view_int hy
    cases view_int hz
    refine call_min3Nu hc pins s σ H _ us Q I rs ⟨_, _, _, .int (if l < (if j < i then j else i) then l else (if j < i then j else i)), rfl, ?_, ?_⟩
    · by_cases h1 : j < i
      · by_cases h2 : l < j <;> simp [nuMin3, nuMin2, nuLt, nuCB, h1, h2]
      · by_cases h2 : l < i <;> simp [nuMin3, nuMin2, nuLt, nuCB, h1, h2]
    · cases hφ
      exact k _ G H (made_int sg _)
  · obtain ⟨ns, e1, hφ⟩ := bindS hφ
    obtain ⟨m, e2, rfl⟩ := mapS hφ
    obtain ⟨v, rfl, hx⟩ := views1 hv
    obtain ⟨a, xs, rfl, ha, al⟩ := view_list sg hx
    rw [ints_dps al e1] at ha
    have q := List.min?_eq_some_iff.mp e2
    refine cr_min hc pins s σ H _ us Q I rs ⟨a, ns, rfl, ha, List.length_pos_of_mem q.1, fun m' h1 h2 => ?_⟩
    have h3 := q.2 m' h1
    have h4 := h2 m q.1
    have h5 : m' = m := by omega
    rw [h5]
    exact k _ G H (made_int sg _)
  · cases hφ
def φSum : List D → Option RR
  | [.list ds] => (intsOf ds).map fun ns => .va (.int ns.sum)
  | _ => none
def φAny : List D → Option RR
  | [.list ds] => (boolsOf ds).map fun ns => .va (.bool (ns.any id))
  | _ => none
def φAll : List D → Option RR
  | [.list ds] => (boolsOf ds).map fun ns => .va (.bool (ns.all id))
  | _ => none
theorem c_sum (hc : X.calm = true) : CallR X (.builtin "sum") (rL X.K φSum) := by
  intro pins s σ H vs us Q I rs h
  obtain ⟨G, ds, r, sg, hv, hφ, k⟩ := h
  unfold φSum at hφ
  split at hφ
  · obtain ⟨ns, e1, rfl⟩ := mapS hφ
    obtain ⟨v, rfl, hx⟩ := views1 hv
    obtain ⟨a, xs, rfl, ha, al⟩ := view_list sg hx
    rw [ints_dps al e1] at ha
    exact cr_sum hc pins s σ H _ us Q I rs ⟨a, ns, rfl, ha, k _ G H (made_int sg _)⟩
  · cases hφ
theorem c_any (hc : X.calm = true) : CallR X (.builtin "any") (rL X.K φAny) := by
  intro pins s σ H vs us Q I rs h
  obtain ⟨G, ds, r, sg, hv, hφ, k⟩ := h
  unfold φAny at hφ
  split at hφ
  · obtain ⟨ns, e1, rfl⟩ := mapS hφ
    obtain ⟨v, rfl, hx⟩ := views1 hv
    obtain ⟨a, xs, rfl, ha, al⟩ := view_list sg hx
    rw [bools_dps al e1] at ha
    exact cr_any hc pins s σ H _ us Q I rs ⟨a, ns, rfl, ha, k _ G H (made_bool sg _)⟩
  · cases hφ
theorem c_all (hc : X.calm = true) : CallR X (.builtin "all") (rL X.K φAll) := by
  intro pins s σ H vs us Q I rs h
  obtain ⟨G, ds, r, sg, hv, hφ, k⟩ := h
  unfold φAll at hφ
  split at hφ
  · obtain ⟨ns, e1, rfl⟩ := mapS hφ
    obtain ⟨v, rfl, hx⟩ := views1 hv
    obtain ⟨a, xs, rfl, ha, al⟩ := view_list sg hx
    rw [bools_dps al e1] at ha
    exact cr_all hc pins s σ H _ us Q I rs ⟨a, ns, rfl, ha, k _ G H (made_bool sg _)⟩
  · cases hφ
def φTuple : List D → Option RR
  | [.list ds] => some (.va (.tuple ds))
  | [.tuple ds] => some (.va (.tuple ds))
  | _ => none
def φList : List D → Option RR
  | [.list ds] => some (.ls ds)
  | [.tuple ds] => some (.ls ds)
  | _ => none
theorem c_tuple : CallR X (.type "tuple") (rL X.K φTuple) := by
  intro pins s σ H vs us Q I rs h
  obtain ⟨G, ds, r, sg, hv, hφ, k⟩ := h
  unfold φTuple at hφ
  split at hφ
  · cases hφ
    obtain ⟨v, rfl, hx⟩ := views1 hv
    obtain ⟨a, xs, rfl, ha, al⟩ := view_list sg hx
    exact call_tuple_of pins s σ H _ us Q I rs ⟨a, xs, rfl, .inl ⟨ha, fun p hp => k _ _ _ (.tup sg hp al)⟩⟩
  · cases hφ
    obtain ⟨v, rfl, hx⟩ := views1 hv
    have hg := view_tupG hx
    obtain ⟨a, xs, rfl, ha, al⟩ := view_tup sg hx
    exact call_tuple_of pins s σ H _ us Q I rs ⟨a, xs, rfl, .inr ⟨ha, k _ G H (.va sg hg)⟩⟩
  · cases hφ
theorem c_list : CallR X (.type "list") (rL X.K φList) := by
  intro pins s σ H vs us Q I rs h
  obtain ⟨G, ds, r, sg, hv, hφ, k⟩ := h
  unfold φList at hφ
  split at hφ
  · cases hφ
    obtain ⟨v, rfl, hx⟩ := views1 hv
    obtain ⟨a, xs, rfl, ha, al⟩ := view_list sg hx
    exact call_list_of pins s σ H _ us Q I rs ⟨a, xs, rfl, .inl ha, fun p hp => k _ _ _ (.ls sg hp al)⟩
  · cases hφ
    obtain ⟨v, rfl, hx⟩ := views1 hv
    obtain ⟨a, xs, rfl, ha, al⟩ := view_tup sg hx
    exact call_list_of pins s σ H _ us Q I rs ⟨a, xs, rfl, .inr ha, fun p hp => k _ _ _ (.ls sg hp al)⟩
  · cases hφ
def φRepr : List D → Option RR
  | [d] => if d.showable = true ∧ d.hasDict = false ∧ d.depth ≤ 64 ∧ d.shown.length ≤ lim then some (.va (.str d.shown)) else none
  | _ => none
theorem c_repr (hg : X.A.guards = some []) (hu : X.A.units + 66 < cLine) : CallR X (.builtin "repr") (rL X.K φRepr) := by
  intro pins s σ H vs us Q I rs h
  obtain ⟨G, ds, r, sg, hv, hφ, k⟩ := h
  unfold φRepr at hφ
  split at hφ
  · rename_i d
    obtain ⟨hc, rfl⟩ := iteS hφ
    obtain ⟨h1, h2, h3, h4⟩ := hc
    obtain ⟨v, rfl, hx⟩ := views1 hv
    obtain ⟨u, rfl, ru⟩ := vals1 rs
    have big : (∃ a, u = .ref a) → wpAny (model X.prog X.w) X.A (call (.builtin "repr") [u]) (EP X pins σ Q) X.xe s := fun ⟨a, e⟩ => by
      subst e
      obtain ⟨as, rd⟩ := L2.Dp.reads I _ v _ ((hx.dp sg).toH h2) ru
      refine repr_of_reads' (h₀ := s.heap) rd h1 (fun e => by rw [h2] at e; cases e) hg (by omega) (fun _ _ e => e) (fun h' t tk hk => ?_) (lim_le h4)
      exact ⟨.str _, H, I.kept hk, ⟨_, rfl⟩, k _ G H (made_str sg _)⟩
    rcases hx with hx | ⟨p, _, _, rfl, _⟩
    · cases hx with
      | lst _ _ => exact big (by cases ru; exact ⟨_, rfl⟩)
      | tup _ _ => exact big (by cases ru; exact ⟨_, rfl⟩)
      | dct _ _ => simp [PyData.hasDict] at h2
      | non =>
        cases ru
        exact PySem.P.repr_of_none ⟨.str _, H, I.tok _, ⟨_, rfl⟩, k _ G H (made_str sg _)⟩
      | bl b =>
        cases ru
        exact PySem.P.repr_of_bool ⟨.str _, H, I.tok _, ⟨_, rfl⟩, by cases b <;> exact k _ G H (made_str sg _)⟩
      | int i =>
        obtain ⟨t, rfl⟩ := ru
        exact PySem.P.repr_of_int (by simpa [PyData.showable] using h1) ⟨.str _, H, I.tok _, ⟨_, rfl⟩, k _ G H (made_str sg _)⟩
      | str y =>
        obtain ⟨t, rfl⟩ := ru
        exact PySem.P.repr_of_str ⟨.str _, H, I.tok _, ⟨_, rfl⟩, k _ G H (made_str sg _)⟩ (lim_le h4)
    · exact big (by cases ru; exact ⟨_, rfl⟩)
  · cases hφ
end
end Den


set_option autoImplicit false
namespace Den
open PySem PySem.Spec L2

section
variable {K : PySem.W.Frag} {G H : Hp} {σ : St} {ρ : Lo} {v : V}
def SlOf : RR → Sl
  | .va d => .va d
  | .ls ds => .ls ds
  | .br _ => .no
def notBg (ρ : Lo) (i : Nat) : Bool := match ρ[i]? with
  | some (.bg _) => false
  | some (.bd _) => false
  | some _ => true
  | none => false
theorem notBg_lt {i : Nat} (h : notBg ρ i = true) : i < ρ.length := by
  unfold notBg at h
  cases e : ρ[i]? with
  | none => rw [e] at h; cases h
  | some s => exact (List.getElem?_eq_some_iff.mp e).1
theorem ow_set {i : Nat} {s : Sl} {v : V} {a : Addr} (h : Ow (σ.set i (some v)) (ρ.set i s) a) : Ow σ ρ a ∨ (isOwn s = true ∧ v = .ref a) := by
  obtain ⟨j, ⟨t, e1, o⟩, e2⟩ := h.own
  by_cases hj : i = j
  · subst hj
    by_cases hi : i < ρ.length
    · rw [List.getElem?_set_self hi] at e1
      cases e1
      by_cases hi2 : i < σ.length
      · rw [List.getElem?_set_self hi2] at e2
        cases e2
        exact .inr ⟨o, rfl⟩
      · rw [List.getElem?_eq_none (by simpa using hi2)] at e2
        cases e2
    · rw [List.getElem?_eq_none (by simpa using hi)] at e1
      cases e1
  · rw [List.getElem?_set_ne hj] at e1 e2
    exact .inl (Ow.of ⟨t, e1, o⟩ e2)
theorem rel_set {i : Nat} {r : RR} (R : Rel K G H σ ρ) (hr : ResR K G H σ ρ v r) (nb : ∀ j, r ≠ .br j) : Rel K G H (σ.set i (some v)) (ρ.set i (SlOf r)) := by
  have len := R.len
  refine ⟨R.sub, fun j s e => ?_, fun j k a hj hk ej ek => ?_, by rw [List.length_set, List.length_set]; exact R.len⟩
  · by_cases hj : i = j
    · subst hj
      have hi : i < ρ.length := by
        have := (List.getElem?_eq_some_iff.mp e).1
        simpa using this
      rw [List.getElem?_set_self hi] at e
      rw [List.getElem?_set_self (by omega)]
      cases e
      cases r with
      | va d => exact ⟨v, rfl, hr⟩
      | ls ds =>
        obtain ⟨p, xs, rfl, g, e2, al, _⟩ := hr
        exact ⟨p, xs, rfl, g, e2, al⟩
      | br j => exact absurd rfl (nb j)
    · rw [List.getElem?_set_ne hj] at e ⊢
      exact R.sl j s e
  · have one : ∀ {j : Nat}, Own (ρ.set i (SlOf r)) j → (σ.set i (some v))[j]? = some (some (.ref a)) → (i ≠ j ∧ Own ρ j ∧ σ[j]? = some (some (.ref a))) ∨ (i = j ∧ ¬ Ow σ ρ a) := fun {j} ⟨t, e1, o⟩ e2 => by
      by_cases hj : i = j
      · subst hj
        refine .inr ⟨rfl, ?_⟩
        have hi : i < ρ.length := by
          have := (List.getElem?_eq_some_iff.mp e1).1
          simpa using this
        rw [List.getElem?_set_self hi] at e1
        rw [List.getElem?_set_self (by omega)] at e2
        cases e1
        cases e2
        cases r with
        | va d => cases o
        | br k => cases o
        | ls ds =>
          obtain ⟨p, xs, e3, _, _, _, no⟩ := hr
          cases e3
          exact no
      · rw [List.getElem?_set_ne hj] at e1 e2
        exact .inl ⟨hj, ⟨t, e1, o⟩, e2⟩
    rcases one hj ej with ⟨a1, a2, a3⟩ | ⟨a1, a2⟩
    · rcases one hk ek with ⟨b1, b2, b3⟩ | ⟨b1, b2⟩
      · exact R.apart j k a a2 b2 a3 b3
      · exact absurd (Ow.of a2 a3) b2
    · rcases one hk ek with ⟨b1, b2, b3⟩ | ⟨b1, b2⟩
      · exact absurd (Ow.of b2 b3) a2
      · exact a1.symm.trans b1
theorem stp_set {σ₀ : St} {ρ₀ : Lo} {G₀ H₀ : Hp} {i : Nat} {r : RR} (S : Stp σ₀ ρ₀ G₀ H₀ σ ρ G H) (hb : notBg ρ i = true) (hn : NewR H₀ v r) : Stp σ₀ ρ₀ G₀ H₀ (σ.set i (some v)) (ρ.set i (SlOf r)) G H := by
  refine ⟨S.gg, S.keep, S.gnew, fun a h => ?_, fun j ds h hbg => ?_, S.dom⟩
  · obtain ⟨j, ds, e1, e2⟩ := h
    by_cases hj : i = j
    · subst hj
      have hi : i < ρ.length := notBg_lt hb
      rw [List.getElem?_set_self hi] at e1
      by_cases hi2 : i < σ.length
      · rw [List.getElem?_set_self hi2] at e2
        cases e2
        cases r with
        | va d => cases e1.1; cases e1.2
        | br k => cases e1.1; cases e1.2
        | ls es => exact .inr (hn a rfl)
      · rw [List.getElem?_eq_none (by simpa using hi2)] at e2
        cases e2
    · rw [List.getElem?_set_ne hj] at e1 e2
      exact S.ols a ⟨j, ds, e1, e2⟩
  · have hj : i ≠ j := by
      rintro rfl
      have hi : i < ρ.length := notBg_lt hb
      rw [List.getElem?_set_self hi] at h
      cases h
      cases r <;> cases hbg
    rw [List.getElem?_set_ne hj] at h
    obtain ⟨ds₀, h1, h2⟩ := S.obg j ds h hbg
    exact ⟨ds₀, h1, by rw [List.getElem?_set_ne hj]; exact h2⟩
end

inductive Out where
  | nx | rt (r : RR) | bk | ct
def RetR (K : PySem.W.Frag) (σ : St) (ρ : Lo) (H : Hp) (G' H' : Hp) (v : V) : RR → Prop
  | .va d => Dp K G' v d
  | .ls ds => ∃ (p : Addr) (xs : List V), v = .ref p ∧ G' p = none ∧ H' p = some (.lst xs) ∧ DpAll K G' xs ds ∧ (H p = none ∨ Ls σ ρ p)
  | .br _ => False
def OutK (K : PySem.W.Frag) (σ : St) (ρ : Lo) (G H : Hp) (o : Out) (ρ' : Lo) (D : Ends) : Prop := ∀ σ' G' H', Rel K G' H' σ' ρ' → Stp σ ρ G H σ' ρ' G' H' → match o with
  | .nx => D.nx σ' H'
  | .bk => D.bk σ' H'
  | .ct => D.ct σ' H'
  | .rt r => ∀ v, RetR K σ ρ H G' H' v r → D.rt v H'
abbrev FS := Fn Out
def tS (K : PySem.W.Frag) (f : FS) : TS := fun D σ H => ∃ G ρ o ρ', Rel K G H σ ρ ∧ f ρ = some (o, ρ') ∧ OutK K σ ρ G H o ρ' D
section
variable {X : Cx} {a b e c : Expr} {es : List Expr} {st : Stmt} {sts : List Stmt} {f g : Fn RR} {pos : Pos}
theorem weakS {t t' : TS} (h : PS X st t) (w : ∀ D σ H, t' D σ H → t D σ H) : PS X st t' := ⟨fun pins s σ H D I q => h.run pins s σ H D I (w D σ H q)⟩
theorem weakSs {t t' : TS} (h : PSs X sts t) (w : ∀ D σ H, t' D σ H → t D σ H) : PSs X sts t' := ⟨fun pins s σ H D I q => h.run pins s σ H D I (w D σ H q)⟩
theorem outK_trans {K : PySem.W.Frag} {σ σ' : St} {ρ ρ' ρ'' : Lo} {G G' H H' : Hp} {o : Out} {D : Ends} (k : OutK K σ ρ G H o ρ'' D) (S : Stp σ ρ G H σ' ρ' G' H') : OutK K σ' ρ' G' H' o ρ'' D := fun σ2 G2 H2 R2 S2 => by
  have q := k σ2 G2 H2 R2 (S.trans S2)
  cases o with
  | nx => exact q
  | bk => exact q
  | ct => exact q
  | rt r =>
    intro v hv
    refine q v ?_
    cases r with
    | va d => exact hv
    | br j => exact hv
    | ls ds =>
      obtain ⟨p, xs, e1, g, e2, al, n⟩ := hv
      refine ⟨p, xs, e1, g, e2, al, ?_⟩
      rcases n with n | n
      · refine .inl ?_
        cases z : H p with
        | none => rfl
        | some o => exact absurd n (S.dom p (by rw [z]; simp))
      · rcases S.ols p n with n | n
        · exact .inr n
        · exact .inl n
def fNop : FS := fun ρ => some (.nx, ρ)
def fSeq (f g : FS) : FS := fun ρ => (f ρ).bind fun x => match x.1 with
  | .nx => g x.2
  | o => some (o, x.2)
theorem ss_nil : PSs X [] (tS X.K fNop) := weakSs pss_nil fun D σ H ⟨G, ρ, o, ρ', R, q, k⟩ => by
  cases q
  exact k σ G H R .refl
theorem seq_ok {f g : FS} {D : Ends} {σ : St} {H : Hp} (h : tS X.K (fSeq f g) D σ H) : tS X.K f { D with nx := tS X.K g D } σ H := by
  obtain ⟨G, ρ, o, ρ', R, q, k⟩ := h
  obtain ⟨x, e1, q⟩ := bindS q
  refine ⟨G, ρ, x.1, x.2, R, e1, fun σ1 G1 H1 R1 S1 => ?_⟩
  cases hx : x.1 with
  | nx =>
    rw [hx] at q
    exact ⟨G1, x.2, o, ρ', R1, q, outK_trans k S1⟩
  | bk =>
    rw [hx] at q
    cases q
    exact k σ1 G1 H1 R1 S1
  | ct =>
    rw [hx] at q
    cases q
    exact k σ1 G1 H1 R1 S1
  | rt r =>
    rw [hx] at q
    cases q
    exact k σ1 G1 H1 R1 S1
theorem ss_cons {f g : FS} (h : PS X st (tS X.K f)) (t : PSs X sts (tS X.K g)) : PSs X (st :: sts) (tS X.K (fSeq f g)) :=
  weakSs (pss_cons h t) fun D σ H q => seq_ok q
def fRet (f : Fn RR) : FS := fun ρ => (f ρ).bind fun x => match x.1 with
  | .va d => some (.rt (.va d), x.2)
  | .ls ds => some (.rt (.ls ds), x.2)
  | .br i => match x.2[i]? with
    | some (.ls ds) => some (.rt (.ls ds), x.2.set i .no)
    | some (.va d) => some (.rt (.va d), x.2)
    | _ => none
theorem s_ret (h : PE X e (tD X.K f)) : PS X (.Return (some e) pos) (tS X.K (fRet f)) :=
  weakS (ps_ret h) fun D σ H ⟨G, ρ, o, ρ', R, q, k⟩ => by
    obtain ⟨x, e1, q⟩ := bindS q
    refine ⟨G, ρ, x.1, x.2, R, e1, fun v G1 H1 P => ?_⟩
    cases hx : x.1 with
    | va d =>
      rw [hx] at q P
      cases q
      exact k σ G1 H1 P.rel P.stp v P.res
    | ls ds =>
      rw [hx] at q P
      cases q
      obtain ⟨p, xs, rfl, g, e2, al, no⟩ := P.res
      exact k σ G1 H1 P.rel P.stp _ ⟨p, xs, rfl, g, e2, al, .inl (P.new p rfl)⟩
    | br i =>
      rw [hx] at q P
      have e3 : σ[i]? = some (some v) := P.res
      simp only at q
      cases z : x.2[i]? with
      | none => rw [z] at q; cases q
      | some s =>
        rw [z] at q
        cases s with
        | no => cases q
        | hd _ => cases q
        | dc _ => cases q
        | bd _ => cases q
        | bg ds => cases q
        | va d =>
          cases q
          obtain ⟨u, e4, dp⟩ := P.rel.sl i _ z
          rw [e3] at e4
          cases e4
          exact k σ G1 H1 P.rel P.stp v dp
        | ls ds =>
          cases q
          obtain ⟨p, xs, e4, g, e2, al⟩ := P.rel.sl i _ z
          rw [e3] at e4
          cases e4
          have hi : i < x.2.length := (List.getElem?_eq_some_iff.mp z).1
          have ownset : ∀ {j : Nat}, Own (x.2.set i .no) j → Own x.2 j ∧ i ≠ j := fun {j} ⟨t, e, o⟩ => by
            by_cases hj : i = j
            · subst hj
              rw [List.getElem?_set_self hi] at e
              cases e
              cases o
            · rw [List.getElem?_set_ne hj] at e
              exact ⟨⟨t, e, o⟩, hj⟩
          have R2 : Rel X.K G1 H1 σ (x.2.set i .no) := ⟨P.rel.sub, fun j s e => by
              by_cases hj : i = j
              · subst hj
                rw [List.getElem?_set_self hi] at e
                cases e
                trivial
              · rw [List.getElem?_set_ne hj] at e
                exact P.rel.sl j s e, fun j l a hj hl => P.rel.apart j l a (ownset hj).1 (ownset hl).1, by rw [List.length_set]; exact P.rel.len⟩
          have S2 : Stp σ ρ G H σ (x.2.set i .no) G1 H1 := ⟨P.stp.gg, P.stp.keep, P.stp.gnew, fun a ⟨j, es, e, e5⟩ => by
              by_cases hj : i = j
              · subst hj
                rw [List.getElem?_set_self hi] at e
                cases e.1
                cases e.2
              · rw [List.getElem?_set_ne hj] at e
                exact P.stp.ols a ⟨j, es, e, e5⟩, fun j es e hbg => by
              by_cases hj : i = j
              · subst hj
                rw [List.getElem?_set_self hi] at e
                cases e
                cases hbg
              · rw [List.getElem?_set_ne hj] at e
                exact P.stp.obg j es e hbg, P.stp.dom⟩
          refine k σ G1 H1 R2 S2 _ ⟨p, xs, rfl, g, e2, al, ?_⟩
          rcases P.stp.ols p ⟨i, _, ⟨z, rfl⟩, e3⟩ with n | n
          · exact .inr n
          · exact .inl n
def fRetN : FS := fun ρ => some (.rt (.va .none), ρ)
theorem s_retN : PS X (.Return none pos) (tS X.K fRetN) := weakS ps_retN fun D σ H ⟨G, ρ, o, ρ', R, q, k⟩ => by
  cases q
  exact k σ G H R .refl _ Dp.non
def fIfS (c : FT) (f g : FS) : FS := fun ρ => (c ρ).bind fun x => if x.1 then f x.2 else g x.2
theorem s_if {fc : FT} {f g : FS} {sa sb : List Stmt} (hc : PT X c (tT X.K fc)) (ha : PSs X sa (tS X.K f)) (hb : PSs X sb (tS X.K g)) : PS X (.If c sa sb pos) (tS X.K (fIfS fc f g)) :=
  weakS (ps_if hc ha hb) fun D σ H ⟨G, ρ, o, ρ', R, q, k⟩ => by
    obtain ⟨x, e1, q⟩ := bindS q
    refine ⟨G, ρ, x.1, x.2, R, e1, fun G1 H1 R1 S1 => ?_⟩
    cases hx : x.1 with
    | true =>
      rw [hx, if_pos rfl] at q
      rw [if_pos rfl]
      exact ⟨G1, x.2, o, ρ', R1, q, outK_trans k S1⟩
    | false =>
      rw [hx, if_neg (by simp)] at q
      rw [if_neg (by simp)]
      exact ⟨G1, x.2, o, ρ', R1, q, outK_trans k S1⟩
def fO (f : Fn RR) : Fn RR := fun ρ => (f ρ).bind fun x => match x.1 with
  | .br i => (frz (.br i) x.2).map fun y => (.va y.1, y.2)
  | r => some (r, x.2)
theorem to_O (h : PE X e (tD X.K f)) : PE X e (tD X.K (fO f)) := weakE h fun σ H Q ⟨G, ρ, r, ρ', R, q, k⟩ => by
  obtain ⟨x, e1, q⟩ := bindS q
  refine ⟨G, ρ, x.1, x.2, R, e1, fun v G1 H1 P => ?_⟩
  cases hx : x.1 with
  | va d =>
    rw [hx] at q P
    cases q
    exact k v G1 H1 P
  | ls d =>
    rw [hx] at q P
    cases q
    exact k v G1 H1 P
  | br i =>
    rw [hx] at q P
    obtain ⟨y, e2, q⟩ := mapS q
    cases q
    obtain ⟨G2, R2, S2, dp⟩ := frz_ok P e2
    exact k v G2 H1 ⟨R2, S2, dp, trivial⟩
theorem fO_nb {f : Fn RR} {ρ ρ' : Lo} {r : RR} (h : fO f ρ = some (r, ρ')) : ∀ j, r ≠ .br j := by
  obtain ⟨x, e1, q⟩ := bindS h
  cases hx : x.1 with
  | va d => rw [hx] at q; cases q; intro j; simp
  | ls d => rw [hx] at q; cases q; intro j; simp
  | br i =>
    rw [hx] at q
    obtain ⟨y, e2, q⟩ := mapS q
    cases q
    intro j
    simp
def fSet (i : Nat) (f : Fn RR) : FS := fun ρ => (fO f ρ).bind fun x => if notBg x.2 i = true then some (.nx, x.2.set i (SlOf x.1)) else none
theorem set_ok {i : Nat} {D : Ends} {σ : St} {H : Hp} (h : tS X.K (fSet i f) D σ H) : tAsg (tD X.K (fO f)) (gName i) D σ H := by
  obtain ⟨G, ρ, o, ρ', R, q, k⟩ := h
  obtain ⟨x, e1, q⟩ := bindS q
  obtain ⟨hb, q⟩ := iteS q
  cases q
  refine ⟨G, ρ, x.1, x.2, R, e1, fun v G1 H1 P => ?_⟩
  exact k _ G1 H1 (rel_set P.rel P.res (fO_nb e1)) (stp_set P.stp hb P.new)
theorem s_set {i : Nat} {x : Str} {pos' : Pos} (hN : X.N.Nodup) (hi : X.N[i]? = some x) (hx : Loc X.env.scope x) (he : PE X e (tD X.K f)) (hs : swapsWith e (some (.Name x pos')) pos.line X.env = pure false)
    (hf : X.fn x = true ∨ X.env.scope.names.lookup x = some .local) : PS X (.Assign [.Name x pos'] e pos) (tS X.K (fSet i f)) :=
  weakS (ps_set hN hi hx (to_O he) hs hf) fun D σ H q => set_ok q
def fDrop (f : Fn RR) : FS := fun ρ => (f ρ).map fun x => (.nx, x.2)
theorem s_expr (he : PE X e (tD X.K f)) (hs : swapsWith e none pos.line X.env = pure false) : PS X (.Expr e pos) (tS X.K (fDrop f)) :=
  weakS (ps_expr he hs) fun D σ H ⟨G, ρ, o, ρ', R, q, k⟩ => by
    obtain ⟨x, e1, q⟩ := mapS q
    cases q
    exact ⟨G, ρ, x.1, x.2, R, e1, fun v G1 H1 P => k σ G1 H1 P.rel P.stp⟩
def fBk : FS := fun ρ => some (.bk, ρ)
def fCt : FS := fun ρ => some (.ct, ρ)
theorem s_bk : PS X (.Break pos) (tS X.K fBk) := weakS ps_break fun D σ H ⟨G, ρ, o, ρ', R, q, k⟩ => by
  cases q
  exact k σ G H R .refl
theorem s_ct : PS X (.Continue pos) (tS X.K fCt) := weakS ps_continue fun D σ H ⟨G, ρ, o, ρ', R, q, k⟩ => by
  cases q
  exact k σ G H R .refl
theorem s_pass : PS X (.Pass pos) (tS X.K fNop) := weakS ps_pass fun D σ H ⟨G, ρ, o, ρ', R, q, k⟩ => by
  cases q
  exact k σ G H R .refl

def tTg (K : PySem.W.Frag) (t : D → Lo → Option Lo) (vs : List Nat) : TG := fun v σ H Q => ∃ G ρ d ρ', Rel K G H σ ρ ∧ Dp K G v d ∧ t d ρ = some ρ' ∧ ∀ σ', Rel K G H σ' ρ' → Stp σ ρ G H σ' ρ' G H → (∀ j, j ∉ vs → σ'[j]? = σ[j]?) → σ'.length = σ.length → Q σ' H
def tTgs (K : PySem.W.Frag) (t : List D → Lo → Option Lo) (vs : List Nat) : TGs := fun xs σ H Q => ∃ G ρ ds ρ', Rel K G H σ ρ ∧ DpAll K G xs ds ∧ t ds ρ = some ρ' ∧ ∀ σ', Rel K G H σ' ρ' → Stp σ ρ G H σ' ρ' G H → (∀ j, j ∉ vs → σ'[j]? = σ[j]?) → σ'.length = σ.length → Q σ' H
theorem weakG {tg : Expr} {t t' : TG} (h : PG X tg t) (w : ∀ v σ H Q, t' v σ H Q → t v σ H Q) : PG X tg t' := ⟨fun pins s σ H v u Q I r q => h.run pins s σ H v u Q I r (w v σ H Q q)⟩
theorem weakGs {tgs : List Expr} {t t' : TGs} (h : PGs X tgs t) (w : ∀ v σ H Q, t' v σ H Q → t v σ H Q) : PGs X tgs t' := ⟨fun pins s σ H v u Q I r q => h.run pins s σ H v u Q I r (w v σ H Q q)⟩
def gNm (i : Nat) : D → Lo → Option Lo := fun d ρ => if notBg ρ i = true then some (ρ.set i (.va d)) else none
theorem g_name {i : Nat} {x : Str} (hN : X.N.Nodup) (hi : X.N[i]? = some x) (hx : Loc X.env.scope x) (hf : X.fn x = true ∨ X.env.scope.names.lookup x = some .local) : PG X (.Name x pos) (tTg X.K (gNm i) [i]) :=
  weakG (pg_name hN hi hx hf) fun v σ H Q ⟨G, ρ, d, ρ', R, dp, q, k⟩ => by
    obtain ⟨hb, q⟩ := iteS q
    cases q
    exact k _ (rel_set (r := .va d) R dp (by intro j; simp)) (stp_set (r := .va d) .refl hb trivial) (fun j hj => List.getElem?_set_ne (by
      rintro rfl
      exact hj (by simp))) List.length_set
def gsNil : List D → Lo → Option Lo
  | [], ρ => some ρ
  | _, _ => none
def gsCons (t : D → Lo → Option Lo) (u : List D → Lo → Option Lo) : List D → Lo → Option Lo
  | d :: ds, ρ => (t d ρ).bind fun ρ1 => u ds ρ1
  | _, _ => none
theorem gs_nil : PGs X [] (tTgs X.K gsNil []) := weakGs pgs_nil fun v σ H Q ⟨G, ρ, ds, ρ', R, dp, q, k⟩ => by
  cases dp with
  | nil =>
    cases q
    exact ⟨rfl, k σ R .refl (fun _ _ => rfl) rfl⟩
  | cons _ _ => cases q
theorem gs_cons {t : D → Lo → Option Lo} {u : List D → Lo → Option Lo} {vs ws : List Nat} (h : PG X e (tTg X.K t vs)) (h2 : PGs X es (tTgs X.K u ws))
    (hs : (assignEach (e :: es) X.env).map (·.2) = assign e X.env :: (assignEach es X.env).map (·.2)) : PGs X (e :: es) (tTgs X.K (gsCons t u) (vs ++ ws)) :=
  weakGs (pgs_cons h h2 hs) fun v σ H Q ⟨G, ρ, ds, ρ', R, dp, q, k⟩ => by
    cases dp with
    | nil => cases q
    | cons h1 t1 =>
      obtain ⟨ρ1, e1, q⟩ := bindS q
      refine ⟨_, _, rfl, G, ρ, _, ρ1, R, h1, e1, fun σ1 R1 S1 n1 l1 => ⟨G, ρ1, _, ρ', R1, t1, q, fun σ2 R2 S2 n2 l2 => k σ2 R2 (S1.trans S2) (fun j hj => ?_) (l2.trans l1)⟩⟩
      rw [List.mem_append, not_or] at hj
      exact (n2 j hj.2).trans (n1 j hj.1)
def gTp (n : Nat) (t : List D → Lo → Option Lo) : D → Lo → Option Lo
  | .tuple ds, ρ => if ds.length = n then t ds ρ else none
  | _, _ => none
theorem g_tup {t : List D → Lo → Option Lo} {n k : Nat} {vs : List Nat} (hc : X.calm = true) (h : PGs X es (tTgs X.K t vs)) (hn : (assignEach es X.env).length = n) (hst : (assignEach es X.env).findIdx? (·.1) = none) :
    PG X (.Tuple es k pos) (tTg X.K (gTp n t) vs) :=
  weakG (pg_tup hc h hn hst) fun v σ H Q ⟨G, ρ, d, ρ', R, dp, q, k⟩ => by
    cases dp with
    | @tup a xs ds hs al =>
      simp only [gTp] at q
      by_cases hl : ds.length = n
      · rw [if_pos hl] at q
        exact ⟨_, _, rfl, same_tup R.sub hs, by rw [dpsLen al]; exact hl, G, ρ, _, ρ', R, al, q, k⟩
      · rw [if_neg hl] at q
        cases q
    | _ => cases q
def fAsg (f : Fn RR) (t : D → Lo → Option Lo) : FS := fun ρ => (fF f ρ).bind fun x => (t x.1 x.2).map fun ρ' => (.nx, ρ')
theorem s_asg {tg : Expr} {t : D → Lo → Option Lo} {vs : List Nat} (he : PE X e (tD X.K f)) (hg : PG X tg (tTg X.K t vs)) (hs : swapsWithSole [tg] e pos.line X.env = pure false) (hw : swappedStores [tg] e X.env = pure none)
    (h1 : (assignEach [tg] X.env).map (·.2) = [assign tg X.env]) : PS X (.Assign [tg] e pos) (tS X.K (fAsg f t)) :=
  weakS (ps_asg (to_F he) hg hs hw h1) fun D σ H ⟨G, ρ, o, ρ', R, q, k⟩ => by
    obtain ⟨x, e1, q⟩ := bindS q
    obtain ⟨ρ2, e2, q⟩ := mapS q
    cases q
    exact ⟨G, ρ, x.1, x.2, R, e1, fun v G1 H1 R1 S1 dp => ⟨G1, x.2, x.1, ρ', R1, dp, e2, fun σ' R' S' _ _ => k σ' G1 H1 R' (S1.trans S')⟩⟩
def fPar (i j : Nat) (f g : Fn RR) : FS := fun ρ => (fO f ρ).bind fun x => (fO g x.2).bind fun y =>
  if notBg y.2 i = true ∧ notBg y.2 j = true ∧ i ≠ j then some (.nx, (y.2.set i (SlOf x.1)).set j (SlOf y.1)) else none
theorem res_mono {K : PySem.W.Frag} {G G' H H' : Hp} {σ : St} {ρ ρ' : Lo} {v : V} {r : RR} (S : Stp σ ρ G H σ ρ' G' H') (h : ResR K G H σ ρ v r) : ResR K G' H' σ ρ' v r := by
  cases r with
  | va d => exact dpMono S.gg h
  | br i => exact h
  | ls ds =>
    obtain ⟨p, xs, rfl, g, e2, al, no⟩ := h
    have hp : H p ≠ none := by rw [e2]; simp
    exact ⟨p, xs, rfl, (S.gnew p hp no).trans g, S.keep p _ e2 no, dpsMono S.gg al, fun o => (S.ow o).elim no hp⟩
theorem notBg_set {ρ : Lo} {i j : Nat} {s : Sl} (h : notBg ρ j = true) (hij : i ≠ j) : notBg (ρ.set i s) j = true := by
  unfold notBg at h ⊢
  rw [List.getElem?_set_ne hij]
  exact h
theorem par_ok {i j : Nat} {D : Ends} {σ : St} {H : Hp} (h : tS X.K (fPar i j f g) D σ H) : tPar i j (tCons (tD X.K (fO f)) (tCons (tD X.K (fO g)) tNil)) D σ H := by
  obtain ⟨G, ρ, o, ρ', R, q, k⟩ := h
  obtain ⟨x, e1, q⟩ := bindS q
  obtain ⟨y, e2, q⟩ := bindS q
  obtain ⟨⟨hb, hb2, hij⟩, q⟩ := iteS q
  cases q
  refine ⟨G, ρ, x.1, x.2, R, e1, fun v G1 H1 P => ⟨G1, x.2, y.1, y.2, P.rel, e2, fun w G2 H2 P2 => ⟨v, w, rfl, ?_⟩⟩⟩
  have r1 := res_mono P2.stp P.res
  have R2 := rel_set (i := i) P2.rel r1 (fO_nb e1)
  have S2 := stp_set (v := v) (r := x.1) (P.stp.trans P2.stp) hb P.new
  have n2 : NewR H w y.1 := (pst_trans P.stp P2).new
  refine k _ G2 H2 (rel_set R2 ?_ (fO_nb e2)) (stp_set S2 (notBg_set hb2 hij) n2)
  cases hy : y.1 with
  | va d =>
    have z := P2.res
    rw [hy] at z
    exact z
  | br l => exact absurd hy (fO_nb e2 l)
  | ls ds =>
    have z := P2.res
    have zn := P2.new
    rw [hy] at z zn
    obtain ⟨p, xs, rfl, g, e3, al, no⟩ := z
    refine ⟨p, xs, rfl, g, e3, al, fun hw => ?_⟩
    rcases ow_set hw with hw | ⟨ho, hv⟩
    · exact no hw
    · have hx := P.res
      cases hx1 : x.1 with
      | va d => rw [hx1] at ho; cases ho
      | br l => rw [hx1] at ho; cases ho
      | ls es =>
        rw [hx1] at hx
        obtain ⟨p2, xs2, e4, g4, e5, _⟩ := hx
        rw [hv] at e4
        cases e4
        have := zn p rfl
        rw [e5] at this
        cases this
theorem s_par {i j : Nat} {x y : Str} {px py pt : Pos} {kt k2 : Nat} {pt2 : Pos} (hc : X.calm = true) (hN : X.N.Nodup) (hi : X.N[i]? = some x) (hj : X.N[j]? = some y) (hij : i ≠ j)
    (hx : X.env.scope.names.lookup x = some .local) (hy : X.env.scope.names.lookup y = some .local) (ha : PE X a (tD X.K f)) (hb : PE X b (tD X.K g)) (hsa : starEach [a, b] X.env = (false, eval a X.env) :: starEach [b] X.env) (hsb : starEach [b] X.env = (false, eval b X.env) :: starEach [] X.env)
    (hw : swappedStores [.Tuple [.Name x px, .Name y py] kt pt] (.Tuple [a, b] k2 pt2) X.env = pure (some [x, y])) : PS X (.Assign [.Tuple [.Name x px, .Name y py] kt pt] (.Tuple [a, b] k2 pt2) pos) (tS X.K (fPar i j f g)) :=
  weakS (ps_par hc hN hi hj hij hx hy (pa_cons (to_O ha) (pa_cons (to_O hb) pa_nil hsb) hsa) hw rfl) fun D σ H q => par_ok q
end

def sameKind : Sl → List D → Sl
  | .ls _, ds => .ls ds
  | .bg _, ds => .bg ds
  | s, _ => s
def items (ρ : Lo) (i : Nat) : Option (List D) := match ρ[i]? with
  | some (.ls ds) => some ds
  | some (.bg ds) => some ds
  | _ => none
def putItems (ρ : Lo) (i : Nat) (ds : List D) : Lo := match ρ[i]? with
  | some s => ρ.set i (sameKind s ds)
  | none => ρ
def isOwnL : Sl → Bool
  | .ls _ => true
  | .bg _ => true
  | _ => false
def OwnL (ρ : Lo) (i : Nat) : Prop := ∃ s, ρ[i]? = some s ∧ isOwnL s = true
theorem OwnL.own {ρ : Lo} {i : Nat} (h : OwnL ρ i) : Own ρ i := by
  obtain ⟨s, e, q⟩ := h
  exact ⟨s, e, by cases s <;> first | rfl | cases q⟩
theorem OwnL.ls {ρ : Lo} {i : Nat} {ds : List D} (h : ρ[i]? = some (.ls ds)) : OwnL ρ i := ⟨_, h, rfl⟩
theorem OwnL.bg {ρ : Lo} {i : Nat} {ds : List D} (h : ρ[i]? = some (.bg ds)) : OwnL ρ i := ⟨_, h, rfl⟩
section
variable {K : PySem.W.Frag} {G H : Hp} {σ : St} {ρ : Lo}
theorem items_ok {i : Nat} {ds : List D} (R : Rel K G H σ ρ) (e : items ρ i = some ds) : ∃ (p : Addr) (xs : List V), σ[i]? = some (some (.ref p)) ∧ G p = none ∧ H p = some (.lst xs) ∧ DpAll K G xs ds ∧ Ow σ ρ p ∧ OwnL ρ i := by
  unfold items at e
  cases z : ρ[i]? with
  | none => rw [z] at e; cases e
  | some s =>
    rw [z] at e
    cases s with
    | no => cases e
    | va d => cases e
    | ls es =>
      cases e
      obtain ⟨p, xs, e1, g, e2, al⟩ := R.sl i _ z
      exact ⟨p, xs, e1, g, e2, al, .inl ⟨i, _, ⟨z, rfl⟩, e1⟩, .ls z⟩
    | hd _ => cases e
    | dc _ => cases e
    | bd _ => cases e
    | bg es =>
      cases e
      obtain ⟨p, xs, e1, g, e2, al⟩ := R.sl i _ z
      exact ⟨p, xs, e1, g, e2, al, .inr ⟨i, _, ⟨z, rfl⟩, e1⟩, .bg z⟩
theorem put_ok {i : Nat} {p : Addr} {xs : List V} {ds : List D} (R : Rel K G H σ ρ) (o : OwnL ρ i) (e : σ[i]? = some (some (.ref p))) (al : DpAll K G xs ds) :
    Rel K G (upd H p (.lst xs)) σ (putItems ρ i ds) ∧ Stp σ ρ G H σ (putItems ρ i ds) G (upd H p (.lst xs)) := by
  obtain ⟨s, hs, ho⟩ := id o
  have hi : i < ρ.length := (List.getElem?_eq_some_iff.mp hs).1
  have ep : putItems ρ i ds = ρ.set i (sameKind s ds) := by unfold putItems; rw [hs]
  have ow : Ow σ ρ p := Ow.of o.own e
  have gp : G p = none := R.noG ow
  have sub : Same G (upd H p (.lst xs)) := fun a u h => by
    rw [upd_ne (ne_of_none h gp)]
    exact R.sub _ _ h
  rw [ep]
  have back : ∀ {j : Nat} {t : Sl}, (ρ.set i (sameKind s ds))[j]? = some t → isOwn t = true → Own ρ j := fun {j t} h h2 => by
    by_cases hj : i = j
    · subst hj
      exact o.own
    · rw [List.getElem?_set_ne hj] at h
      exact ⟨t, h, h2⟩
  refine ⟨⟨sub, fun j t h => ?_, fun j l a ⟨t1, h1, o1⟩ ⟨t2, h2, o2⟩ => R.apart j l a (back h1 o1) (back h2 o2), by rw [List.length_set]; exact R.len⟩,
    ⟨Same.refl _, fun a u h n => by rw [upd_ne (fun z => n (by rw [z]; exact ow))]; exact h, fun _ _ _ => rfl, fun a ⟨j, es, h1, h2⟩ => ?_, fun j es h hbg => ?_, fun a h => ?_⟩⟩
  · by_cases hj : i = j
    · subst hj
      rw [List.getElem?_set_self hi] at h
      cases h
      cases s with
      | no => cases ho
      | va d => cases ho
      | ls es => exact ⟨p, xs, e, gp, upd_same, al⟩
      | hd _ => cases ho
      | dc _ => cases ho
      | bd _ => cases ho
      | bg es => exact ⟨p, xs, e, gp, upd_same, al⟩
    · rw [List.getElem?_set_ne hj] at h
      have q := R.sl j t h
      have own : ∀ es, isOwn t = true → Mine K G H σ[j]? es → Mine K G (upd H p (.lst xs)) σ[j]? es := fun es o2 ⟨a, ys, e3, g3, e4, al3⟩ =>
        ⟨a, ys, e3, g3, by rw [upd_ne (fun z => hj (R.apart i j p o.own ⟨t, h, o2⟩ e (by rw [z] at e3; exact e3)))]; exact e4, al3⟩
      cases t with
      | no => trivial
      | va d => exact q
      | ls es => exact own es rfl q
      | dc m =>
        obtain ⟨a, u, e3, g3, e4, al3⟩ := q
        exact ⟨a, u, e3, g3, by rw [upd_ne (fun z => hj (R.apart i j p o.own ⟨_, h, rfl⟩ e (by rw [z] at e3; exact e3)))]; exact e4, al3⟩
      | bd m =>
        obtain ⟨a, u, e3, g3, e4, al3⟩ := q
        exact ⟨a, u, e3, g3, by rw [upd_ne (fun z => hj (R.apart i j p o.own ⟨_, h, rfl⟩ e (by rw [z] at e3; exact e3)))]; exact e4, al3⟩
      | hd _ => exact q
      | bg es => exact own es rfl q
  · by_cases hj : i = j
    · subst hj
      rw [List.getElem?_set_self hi] at h1
      cases s with
      | no => cases ho
      | va d => cases ho
      | hd _ => cases ho
      | dc _ => cases ho
      | bd _ => cases ho
      | bg es => cases h1.1; cases h1.2
      | ls es' => exact .inl ⟨i, _, ⟨hs, rfl⟩, h2⟩
    · rw [List.getElem?_set_ne hj] at h1
      exact .inl ⟨j, es, h1, h2⟩
  · by_cases hj : i = j
    · subst hj
      rw [List.getElem?_set_self hi] at h
      cases s with
      | no => cases ho
      | va d => cases ho
      | ls es => cases h; cases hbg
      | hd _ => cases ho
      | dc _ => cases ho
      | bd _ => cases ho
      | bg es' => exact ⟨_, ⟨hs, rfl⟩, rfl⟩
    · rw [List.getElem?_set_ne hj] at h
      exact ⟨es, ⟨h, hbg⟩, rfl⟩
  · by_cases ha : a = p
    · rw [ha, upd_same]
      simp
    · rw [upd_ne ha]
      exact h
end
theorem own_stays {K : PySem.W.Frag} {G' H' : Hp} {σ : St} {ρ' : Lo} {i : Nat} {v : V} {ds : List D} (R' : Rel K G' H' σ ρ') (e : σ[i]? = some (some v)) (h : items ρ' i = some ds) : ∃ (p : Addr) (xs : List V), v = .ref p ∧ H' p = some (.lst xs) ∧ DpAll K G' xs ds ∧ OwnL ρ' i := by
  obtain ⟨p, xs, e1, g, e2, al, _, o⟩ := items_ok R' h
  rw [e] at e1
  cases e1
  exact ⟨p, xs, rfl, e2, al, o⟩
section
variable {X : Cx} {e : Expr} {es : List Expr} {pos : Pos}
def fMut (i : Nat) (φ : List D → List D → Option (List D × RR)) (fs : Fn (List D)) : Fn RR := fun ρ => if (items ρ i).isSome = true then (fs ρ).bind fun x => (items x.2 i).bind fun ds => (φ ds x.1).map fun y => (y.2, putItems x.2 i y.1) else none
def rMut (K : PySem.W.Frag) (φ : List D → List D → Option (List D × RR)) : V → List V → Hp → VK → Prop := fun x vs H Q => ∃ (G : Hp) (p : Addr) (xs : List V) (ds es : List D) (y : List D × RR), x = .ref p ∧ H p = some (.lst xs) ∧ DpAll K G xs ds ∧ DpAll K G vs es ∧ φ ds es = some y ∧
  ∀ (xs' : List V) (v : V), DpAll K G xs' y.1 → (match y.2 with | .va d => Dp K G v d | _ => False) → Q v (upd H p (.lst xs'))
theorem mut_ok {i : Nat} {φ : List D → List D → Option (List D × RR)} {fs : Fn (List D)} {σ : St} {H : Hp} {Q : VK} (h : tD X.K (fMut i φ fs) σ H Q) : tBM X.K "list" (rMut X.K φ) (tVar i) (tFs X.K fs) σ H Q := by
  obtain ⟨G, ρ, r, ρ', R, q, k⟩ := h
  unfold fMut at q
  by_cases hi : (items ρ i).isSome = true
  · rw [if_pos hi] at q
    obtain ⟨x, e1, q⟩ := bindS q
    obtain ⟨ds, e2, q⟩ := bindS q
    obtain ⟨y, e3, q⟩ := mapS q
    cases q
    obtain ⟨ds0, e0⟩ := Option.isSome_iff_exists.mp hi
    obtain ⟨p, xs, e4, g4, e5, al, ow, o⟩ := items_ok R e0
    refine ⟨.ref p, e4, .inl ⟨rfl, xs, SqL.of e5⟩, G, ρ, x.1, x.2, R, e1, fun vs G1 H1 R1 S1 d1 => ?_⟩
    obtain ⟨p', xs1, ep, e6, al1, o1⟩ := own_stays (v := .ref p) R1 e4 e2
    cases ep
    refine ⟨G1, p, xs1, ds, x.1, y, rfl, e6, al1, d1, e3, fun xs' v al' hv => ?_⟩
    obtain ⟨R2, S2⟩ := put_ok R1 o1 e4 al'
    refine k v G1 _ ⟨R2, S1.trans S2, ?_, ?_⟩
    · cases hy : y.2 with
      | va d => rw [hy] at hv; exact hv
      | ls es => rw [hy] at hv; exact hv.elim
      | br j => rw [hy] at hv; exact hv.elim
    · cases hy : y.2 with
      | va d => trivial
      | ls es => rw [hy] at hv; exact hv.elim
      | br j => trivial
  · rw [if_neg hi] at q
    cases q
theorem e_mut {i : Nat} {x name : Str} {id : String} {φ : List D → List D → Option (List D × RR)} {fs : Fn (List D)} {npos apos : Pos} (slot : Slot "list" name id) (hty : typeOf (.builtin id) = pure (.type "method_descriptor")) (hm : MtR X id (rMut X.K φ))
    (hN : X.N[i]? = some x) (hv : Vis X.env.scope x) (hd : (x == ("__debug__" : Str)) = false) (hcd : (x == ("__classdict__" : Str)) = false) (ha : PA X (e :: es) (tFs X.K fs))
    (hfew : ((backTo pos (starEach (e :: es) X.env)).all (fun x => !x.1) && (backToKw pos (keywordEach [] X.env)).all (fun x => x.1.isSome)
      && decide ((e :: es).length + ([] : List Keyword).length + (if ([] : List Keyword).isEmpty then 0 else 1) < 30)) = true)
    (hline : (apos.endLine == pos.line) = true) (hs : starEach (e :: es) X.env = (false, eval e X.env) :: starEach es X.env) (hplain : (backTo pos (starEach es X.env)).any (·.1) = false) :
    PE X (.Call (.Attribute (.Name x npos) name apos) (e :: es) [] pos) (tD X.K (fMut i φ fs)) :=
  weakE (pe_bm PySem.F.plainAttrs_list slot hty hm (pe_var hN hv hd hcd) ha rfl hfew hline hs hplain) fun σ H Q h => mut_ok h
def φApp : List D → List D → Option (List D × RR)
  | ds, [d] => if ds.length < lim then some (ds ++ [d], .va .none) else none
  | _, _ => none
theorem m_app : MtR X "list.append" (rMut X.K φApp) := by
  intro pins s σ H x vs v us Q I rx rs h
  obtain ⟨G, p, xs, ds, es, y, rfl, hp, al, bl, hφ, k⟩ := h
  unfold φApp at hφ
  split at hφ
  · obtain ⟨hl, rfl⟩ := iteS hφ
    cases bl with
    | cons b t =>
      cases t
      refine mt_append pins s σ H _ _ v us Q I rx rs ⟨p, xs, _, rfl, rfl, hp, by rw [dpsLen al]; exact lim_lt (Nat.le_of_lt hl), k _ _ (dpsApp al (.cons b .nil)) .non⟩
  · cases hφ
def φIns : List D → List D → Option (List D × RR)
  | ds, [.int i, d] => if ds.length < lim ∧ 0 ≤ i ∧ i < 1000000 then some (ds.take i.toNat ++ [d] ++ ds.drop i.toNat, .va .none) else none
  | _, _ => none
theorem m_ins : MtR X "list.insert" (rMut X.K φIns) := by
  intro pins s σ H x vs v us Q I rx rs h
  obtain ⟨G, p, xs, ds, es, y, rfl, hp, al, bl, hφ, k⟩ := h
  unfold φIns at hφ
  split at hφ
  · obtain ⟨⟨hl, h0, h1⟩, rfl⟩ := iteS hφ
    cases bl with
    | cons b t =>
      cases t with
      | cons b2 t2 =>
        cases t2
        cases b
        exact mt_insert pins s σ H _ _ v us Q I rx rs ⟨p, xs, _, _, rfl, rfl, hp, by rw [dpsLen al]; exact lim_lt (Nat.le_of_lt hl), h0, by omega, k _ _ (dpsApp (dpsApp (dpsTake _ al) (.cons b2 .nil)) (dpsDrop _ al)) .non⟩
  · cases hφ
end
def fPar3 (i j l : Nat) (f g h : Fn RR) : FS := fun ρ => (fO f ρ).bind fun x => (fO g x.2).bind fun y => (fO h y.2).bind fun z =>
  if (notBg z.2 i = true ∧ notBg z.2 j = true ∧ notBg z.2 l = true) ∧ i ≠ j ∧ i ≠ l ∧ j ≠ l then some (.nx, ((z.2.set i (SlOf x.1)).set j (SlOf y.1)).set l (SlOf z.1)) else none
theorem res_set {K : PySem.W.Frag} {G H H0 : Hp} {σ : St} {ρ : Lo} {i : Nat} {v w : V} {r r' : RR} (h : ResR K G H σ ρ w r') (nb : ∀ j, r' ≠ .br j) (ne : ∀ p, isOwn (SlOf r) = true → v = .ref p → H0 p ≠ none) (new : NewR H0 w r') :
    ResR K G H (σ.set i (some v)) (ρ.set i (SlOf r)) w r' := by
  cases r' with
  | va d => exact h
  | br l => exact absurd rfl (nb l)
  | ls ds =>
    obtain ⟨p, xs, rfl, g, e3, al, no⟩ := h
    refine ⟨p, xs, rfl, g, e3, al, fun hw => ?_⟩
    rcases ow_set hw with hw | ⟨ho, hv⟩
    · exact no hw
    · exact ne p ho hv (new p rfl)
theorem own_there {K : PySem.W.Frag} {G H : Hp} {σ : St} {ρ : Lo} {v : V} {r : RR} (h : ResR K G H σ ρ v r) : ∀ p, isOwn (SlOf r) = true → v = .ref p → H p ≠ none := fun p ho hv => by
  cases r with
  | va d => cases ho
  | br l => cases ho
  | ls es =>
    obtain ⟨p2, xs2, e4, g4, e5, _⟩ := h
    rw [hv] at e4
    cases e4
    rw [e5]
    simp
section
variable {X : Cx} {a b c : Expr} {f g h3 : Fn RR} {pos : Pos}
theorem par3_ok {i j l : Nat} {D : Ends} {σ : St} {H : Hp} (h : tS X.K (fPar3 i j l f g h3) D σ H) : L2.tPar3 i j l (tCons (tD X.K (fO f)) (tCons (tD X.K (fO g)) (tCons (tD X.K (fO h3)) tNil))) D σ H := by
  obtain ⟨G, ρ, o, ρ', R, q, k⟩ := h
  obtain ⟨x, e1, q⟩ := bindS q
  obtain ⟨y, e2, q⟩ := bindS q
  obtain ⟨z, e3, q⟩ := bindS q
  obtain ⟨⟨⟨hb, hb2, hb3⟩, hij, hil, hjl⟩, q⟩ := iteS q
  cases q
  refine ⟨G, ρ, x.1, x.2, R, e1, fun v G1 H1 P => ⟨G1, x.2, y.1, y.2, P.rel, e2, fun w G2 H2 P2 => ⟨G2, y.2, z.1, z.2, P2.rel, e3, fun u G3 H3 P3 => ⟨v, w, u, rfl, ?_⟩⟩⟩⟩
  have rx2 := res_mono P2.stp P.res
  have rx := res_mono P3.stp rx2
  have ry := res_mono P3.stp P2.res
  have R1 := rel_set (i := i) P3.rel rx (fO_nb e1)
  have S1 := stp_set (v := v) (r := x.1) ((P.stp.trans P2.stp).trans P3.stp) hb P.new
  have ry1 := res_set (i := i) (v := v) (r := x.1) ry (fO_nb e2) (own_there P.res) P2.new
  have ny : NewR H w y.1 := (pst_trans P.stp P2).new
  have R2 := rel_set (i := j) R1 ry1 (fO_nb e2)
  have S2 := stp_set (v := w) (r := y.1) S1 (notBg_set hb2 hij) ny
  have rz1 := res_set (i := i) (v := v) (r := x.1) P3.res (fO_nb e3) (own_there rx2) P3.new
  have rz2 := res_set (i := j) (v := w) (r := y.1) rz1 (fO_nb e3) (own_there P2.res) P3.new
  have nz : NewR H u z.1 := (pst_trans (P.stp.trans P2.stp) P3).new
  exact k _ G3 H3 (rel_set R2 rz2 (fO_nb e3)) (stp_set S2 (notBg_set (notBg_set hb3 hil) hjl) nz)
theorem s_par3 {i j l : Nat} {x y z : Str} {px py pz pt : Pos} {kt k2 : Nat} {pt2 : Pos} (hc : X.calm = true) (hN : X.N.Nodup) (hi : X.N[i]? = some x) (hj : X.N[j]? = some y) (hl : X.N[l]? = some z) (hij : i ≠ j) (hil : i ≠ l) (hjl : j ≠ l)
    (hx : X.env.scope.names.lookup x = some .local) (hy : X.env.scope.names.lookup y = some .local) (hz : X.env.scope.names.lookup z = some .local) (ha : PE X a (tD X.K f)) (hb : PE X b (tD X.K g)) (hcc : PE X c (tD X.K h3))
    (hsa : starEach [a, b, c] X.env = (false, eval a X.env) :: starEach [b, c] X.env) (hsb : starEach [b, c] X.env = (false, eval b X.env) :: starEach [c] X.env) (hsc : starEach [c] X.env = (false, eval c X.env) :: starEach [] X.env)
    (hw : swappedStores [.Tuple [.Name x px, .Name y py, .Name z pz] kt pt] (.Tuple [a, b, c] k2 pt2) X.env = pure (some [x, y, z])) : PS X (.Assign [.Tuple [.Name x px, .Name y py, .Name z pz] kt pt] (.Tuple [a, b, c] k2 pt2) pos) (tS X.K (fPar3 i j l f g h3)) :=
  weakS (L2.ps_par3 hc hN hi hj hl hij hil hjl hx hy hz (pa_cons (to_O ha) (pa_cons (to_O hb) (pa_cons (to_O hcc) pa_nil hsc) hsb) hsa) hw rfl) fun D σ H q => par3_ok q
end
end Den


set_option autoImplicit false
namespace Den
open PySem PySem.Spec L2

structure Yl (K : PySem.W.Frag) (G₀ : Hp) (J : It) (ds : List D) : Prop where
  go : ∀ (i : Nat) (d : D) (H : Hp), Same G₀ H → ds[i]? = some d → J.go i H
  yl : ∀ (i : Nat) (d : D) (G H : Hp) (x : V) (H2 : Hp), Same G₀ G → Same G H → ds[i]? = some d → J.yld i H x H2 → ∃ G2, Made K G H x (.va d) G2 H2
  st : ∀ (i : Nat) (H : Hp), Same G₀ H → ds.length ≤ i → J.stop i H
def tItr (K : PySem.W.Frag) (f : Fn (List D)) : TI := fun σ H R => ∃ G ρ ds ρ', Rel K G H σ ρ ∧ f ρ = some (ds, ρ') ∧ ∀ G' H' J, Rel K G' H' σ ρ' → Stp σ ρ G H σ ρ' G' H' → Yl K G' J ds → R J H'
section
variable {K : PySem.W.Frag} {G : Hp}
theorem yl_list {a : Addr} {xs : List V} {ds : List D} (h : SqL K G a xs) (al : DpAll K G xs ds) : Yl K G (Itl K a) ds where
  go := fun i d H s e => by
    obtain ⟨v, h1, _⟩ := dpsGet al e
    exact ⟨xs, v, s.seq h, h1⟩
  yl := fun i d G' H x H2 s s2 e y => by
    obtain ⟨v, h1, h2⟩ := dpsGet al e
    obtain ⟨rfl, y⟩ := y
    have q := y xs ((s.trans s2).seq h)
    rw [h1] at q
    cases q
    exact ⟨G', .va s2 (dpMono s h2)⟩
  st := fun i H s e => ⟨xs, s.seq h, by rw [dpsLen al]; exact e⟩
theorem yl_tup {a : Addr} {xs : List V} {ds : List D} (h : SqT K G a xs) (al : DpAll K G xs ds) : Yl K G (Itt K a) ds where
  go := fun i d H s e => by
    obtain ⟨v, h1, _⟩ := dpsGet al e
    exact ⟨xs, v, same_tup s h, h1⟩
  yl := fun i d G' H x H2 s s2 e y => by
    obtain ⟨v, h1, h2⟩ := dpsGet al e
    obtain ⟨rfl, y⟩ := y
    have q := y xs (same_tup (s.trans s2) h)
    rw [h1] at q
    cases q
    exact ⟨G', .va s2 (dpMono s h2)⟩
  st := fun i H s e => ⟨xs, same_tup s h, by rw [dpsLen al]; exact e⟩
def rng (lo hi : Int) : List D := (List.range (hi - lo).toNat).map fun (i : Nat) => .int (lo + (i : Int))
theorem rng_len (lo hi : Int) : (rng lo hi).length = (hi - lo).toNat := by unfold rng; rw [List.length_map, List.length_range]
theorem yl_rng {lo hi : Int} : Yl K G (Itr lo (hi - lo).toNat) (rng lo hi) where
  go := fun i d H s e => by
    have := (List.getElem?_eq_some_iff.mp e).1
    rw [rng_len] at this
    exact this
  yl := fun i d G' H x H2 s s2 e y => by
    obtain ⟨rfl, rfl⟩ := y
    refine ⟨G', ?_⟩
    unfold rng at e
    rw [List.getElem?_map] at e
    obtain ⟨j, e1, rfl⟩ := mapS e
    obtain ⟨h1, h2⟩ := List.getElem?_eq_some_iff.mp e1
    rw [List.getElem_range] at h2
    subst h2
    exact .va s2 (.int _)
  st := fun i H s e => by rw [rng_len] at e; exact e
end
section
variable {X : Cx} {tg l a b : Expr} {f g : Fn RR} {pos : Pos}
theorem weakI {tg it : Expr} {t t' : TI} (h : PI X tg it t) (w : ∀ σ H R, t' σ H R → t σ H R) : PI X tg it t' := ⟨fun pins s σ H R I q => h.run pins s σ H R I (w σ H R q)⟩
def its : D → Option (List D)
  | .list ds => some ds
  | .tuple ds => some ds
  | _ => none
def fIt (f : Fn RR) : Fn (List D) := fun ρ => (fF f ρ).bind fun x => (its x.1).map fun ds => (ds, x.2)
theorem i_seq (h : PE X l (tD X.K f)) : PI X tg l (tItr X.K (fIt f)) := by
  refine ⟨fun pins s σ H R I ⟨G, ρ, ds, ρ', Rl, q, k⟩ => ?_⟩
  obtain ⟨x, e1, q⟩ := bindS q
  obtain ⟨ds', e2, q⟩ := mapS q
  cases q
  cases hx : x.1 with
  | list es =>
    rw [hx] at e2
    cases e2
    refine (pi_list (to_F h)).run pins s σ H R I ⟨G, ρ, x.1, x.2, Rl, e1, fun v G1 H1 R1 S1 dp => ?_⟩
    rw [hx] at dp
    cases dp with
    | lst hs al => exact ⟨_, rfl, ⟨_, R1.sub.seq hs⟩, k G1 H1 _ R1 S1 (yl_list hs al)⟩
  | tuple es =>
    rw [hx] at e2
    cases e2
    refine (pi_tup (to_F h)).run pins s σ H R I ⟨G, ρ, x.1, x.2, Rl, e1, fun v G1 H1 R1 S1 dp => ?_⟩
    rw [hx] at dp
    cases dp with
    | tup hs al => exact ⟨_, rfl, ⟨_, same_tup R1.sub hs⟩, k G1 H1 _ R1 S1 (yl_tup hs al)⟩
  | _ => rw [hx] at e2; cases e2
def fR1 (fs : Fn (List RR)) : Fn (List D) := fun ρ => (fs ρ).bind fun x => (vws x.1 x.2).bind fun ds => match ds with
  | [.int j] => if -1000000 ≤ j ∧ j ≤ 1000000 then some (rng 0 j, x.2) else none
  | [.int i, .int j] => if -1000000 ≤ i ∧ i ≤ 1000000 ∧ -1000000 ≤ j ∧ j ≤ 1000000 then some (rng i j, x.2) else none
  | _ => none
theorem i_rng1 {p : Pos} {fs : Fn (List RR)} (hg : Gl X "range") (hm : X.mg "range" = none) (ha : PA X [a] (tVs X.K fs)) (hs : starEach [a] X.env = [(false, eval a X.env)]) (h1 : ∀ ρ x, fs ρ = some x → x.1.length = 1) :
    PI X tg (.Call (.Name "range" p) [a] [] pos) (tItr X.K (fR1 fs)) :=
  weakI (pi_range1 hg hm ha hs) fun σ H R ⟨G, ρ, ds, ρ', Rl, q, k⟩ => by
    obtain ⟨x, e1, q⟩ := bindS q
    obtain ⟨es, e2, q⟩ := bindS q
    refine ⟨G, ρ, x.1, x.2, Rl, e1, fun vs G1 H1 R1 S1 dv => ?_⟩
    have dv2 := views_of R1 dv e2
    have hl := h1 _ _ e1
    have hl2 := resVs_get dv
    split at q
    · obtain ⟨hc, q⟩ := iteS q
      cases q
      obtain ⟨v, rfl, hv⟩ := views1 dv2
      cases view_int hv
      have e0 : ∀ j : Int, (j - 0).toNat = j.toNat := fun j => by rw [Int.sub_zero]
      refine ⟨_, rfl, by omega, by omega, k G1 H1 _ R1 S1 ?_⟩
      rw [← e0]
      exact yl_rng
    · obtain ⟨v, u, rfl, _, _⟩ := views2 dv2
      rw [hl] at hl2
      simp at hl2
    · cases q
theorem i_rng2 {p : Pos} {fs : Fn (List RR)} (hg : Gl X "range") (hm : X.mg "range" = none) (ha : PA X [a, b] (tVs X.K fs)) (hs : starEach [a, b] X.env = [(false, eval a X.env), (false, eval b X.env)]) (hs2 : starEach [b] X.env = [(false, eval b X.env)]) (h1 : ∀ ρ x, fs ρ = some x → x.1.length = 2) :
    PI X tg (.Call (.Name "range" p) [a, b] [] pos) (tItr X.K (fR1 fs)) :=
  weakI (pi_range2 hg hm ha hs hs2) fun σ H R ⟨G, ρ, ds, ρ', Rl, q, k⟩ => by
    obtain ⟨x, e1, q⟩ := bindS q
    obtain ⟨es, e2, q⟩ := bindS q
    refine ⟨G, ρ, x.1, x.2, Rl, e1, fun vs G1 H1 R1 S1 dv => ?_⟩
    have dv2 := views_of R1 dv e2
    have hl := h1 _ _ e1
    have hl2 := resVs_get dv
    split at q
    · obtain ⟨v, rfl, _⟩ := views1 dv2
      rw [hl] at hl2
      simp at hl2
    · obtain ⟨hc, q⟩ := iteS q
      cases q
      obtain ⟨v, u, rfl, hv, hu⟩ := views2 dv2
      cases view_int hv
      cases view_int hu
      exact ⟨_, _, rfl, ⟨by omega, by omega, by omega, by omega⟩, k G1 H1 _ R1 S1 yl_rng⟩
    · cases q
theorem fsCons_len {α : Type} {f : Fn α} {fs : Fn (List α)} {n : Nat} (h : ∀ ρ x, fs ρ = some x → x.1.length = n) : ∀ ρ x, fsCons f fs ρ = some x → x.1.length = n + 1 := fun ρ x e => by
  obtain ⟨y, e1, e⟩ := bindS e
  obtain ⟨z, e2, rfl⟩ := mapS e
  rw [List.length_cons, h _ _ e2]
theorem fsNil_len {α : Type} : ∀ ρ (x : List α × Lo), fsNil ρ = some x → x.1.length = 0 := fun ρ x e => by
  cases e
  rfl

def enumFrom (k : Nat) : List D → List D
  | [] => []
  | d :: ds => .tuple [.int (k : Int), d] :: enumFrom (k + 1) ds
theorem enumFrom_len : ∀ (ds : List D) (k : Nat), (enumFrom k ds).length = ds.length
  | [], _ => rfl
  | d :: ds, k => by rw [enumFrom, List.length_cons, List.length_cons, enumFrom_len ds]
theorem enumFrom_get : ∀ (ds : List D) (k i : Nat) (e : D), (enumFrom k ds)[i]? = some e → ∃ d, ds[i]? = some d ∧ e = .tuple [.int ((k + i : Nat) : Int), d]
  | [], _, _, _, h => by simp [enumFrom] at h
  | d :: ds, k, 0, e, h => by
    simp [enumFrom] at h
    exact ⟨d, rfl, h.symm⟩
  | d :: ds, k, i + 1, e, h => by
    obtain ⟨d', h1, h2⟩ := enumFrom_get ds (k + 1) i e (by simpa [enumFrom] using h)
    exact ⟨d', by simpa using h1, by rw [h2]; congr 3; omega⟩
def IteT (K : PySem.W.Frag) (a : Addr) : It where
  go i H := ∃ (xs : List V) (x : V), SqT K H a xs ∧ xs[i]? = some x
  yld i H v H' := ∃ T x, v = .ref T ∧ H T = none ∧ H' = upd H T (.tup [.int (i : Nat), x]) ∧ ∀ xs, SqT K H a xs → xs[i]? = some x
  stop i H := ∃ xs : List V, SqT K H a xs ∧ xs.length ≤ i
theorem yl_enum {K : PySem.W.Frag} {G : Hp} {J : It} {xs : List V} {ds : List D} (al : DpAll K G xs ds) (go : ∀ i v H, Same G H → xs[i]? = some v → J.go i H) (st : ∀ i H, Same G H → xs.length ≤ i → J.stop i H)
    (yl : ∀ i v H y H', Same G H → xs[i]? = some v → J.yld i H y H' → ∃ T, y = .ref T ∧ H T = none ∧ H' = upd H T (.tup [.int (i : Nat), v])) : Yl K G J (enumFrom 0 ds) where
  go := fun i d H s e => by
    obtain ⟨d', e1, _⟩ := enumFrom_get ds 0 i d e
    obtain ⟨v, h1, _⟩ := dpsGet al e1
    exact go i v H s h1
  yl := fun i d G' H x H2 s s2 e y => by
    obtain ⟨d', e1, rfl⟩ := enumFrom_get ds 0 i d e
    obtain ⟨v, h1, h2⟩ := dpsGet al e1
    obtain ⟨T, rfl, n, rfl⟩ := yl i v H x H2 (s.trans s2) h1 y
    refine ⟨_, .tup s2 n ?_⟩
    rw [Nat.zero_add]
    exact .cons (.int _) (.cons (dpMono s h2) .nil)
  st := fun i H s e => st i H s (by rw [enumFrom_len] at e; rw [dpsLen al]; exact e)
theorem turn_enumT {P : Program} {w : World} {elts : List Expr} {kk : Nat} {tpos : Pos} (K : PySem.W.Frag) (a e it : Addr) :
    Turn P w K (.Tuple elts kk tpos) (IteT K a) [e, it] e (fun i h => (∃ old, IsEnum h e it ((i : Nat) : Int) old) ∧ h.IsTupleIter it a i ∧ e ≠ it) where
  mem := List.mem_cons_self
  obj := fun i h ⟨⟨old, he⟩, ⟨o, ho, hc, hd⟩, _⟩ b hb => by
    rcases List.mem_cons.mp hb with z | z
    · subst z
      exact ⟨_, he, fun v q => by cases q⟩
    · rw [List.mem_singleton.mp z]
      exact ⟨o, ho, fun v q => by rw [hd] at q; cases q⟩
  keep := fun i h h' ⟨⟨old, he⟩, hi, hne⟩ k => ⟨⟨old, k e List.mem_cons_self _ he⟩, hi.at fun o q => k it (List.mem_cons_of_mem _ List.mem_cons_self) o q, hne⟩
  item := by
    rintro X rfl rfl rfl hc i pins s σ H E I hf ⟨⟨old, he⟩, hit, hne⟩ ⟨xs, x, hq, hx⟩
    obtain ⟨us, rv, p, hz⟩ := I.tuple hq
    obtain ⟨u, hu, ru⟩ := rv.get hx
    have hel : e < s.heap.objs.size := Heap.lt_size he
    have hil : it < s.heap.objs.size := let ⟨_, q, _⟩ := hit; Heap.lt_size q
    have ha : a < s.heap.objs.size := p.lt
    have hai : a ≠ it := fun z => by
      obtain ⟨o1, q1, c1, _⟩ := p
      obtain ⟨o2, q2, c2, _⟩ := hit
      rw [z, q2] at q1
      cases q1
      rw [c1] at c2
      injection c2 with c3
      exact absurd c3 (by decide)
    have hae : a ≠ e := fun z => by
      obtain ⟨o1, q1, c1, _⟩ := p
      rw [z] at q1
      rw [show s.heap.get? e = _ from he] at q1
      cases q1
      injection c1 with c3
      exact absurd c3 (by decide)
    have Dr := Draws.tuple (prog := X.prog) (w := X.w) (A := X.A.in1) (I.ok.hd hc) it a hai us.toArray
    refine wpAny_pyNext_enum_itemD Dr he ⟨hit, p⟩ (i := i) (by have := (List.getElem?_eq_some_iff.mp hu).1; simpa using this) hne (by simp [hne, Ne.symm hae]) fun y h' tk py ho st' hT hsz hk => ?_
    have hy : y = u := by
      have z : us.toArray[i]? = some y := py
      rw [List.getElem?_toArray, hu] at z
      exact (Option.some.inj z).symm
    subst hy
    refine ⟨_, rfl, wpAny_letOwnedTupleGo_enum (s := { s with heap := h', toks := tk + 1 }) ho fun h2 he2 sb => ?_⟩
    have hT2 : h2.get? s.heap.objs.size = some { cls := .type "tuple", data := .seq #[.int i tk, y] } := (sb.2 _ (Nat.ne_of_gt hel)).trans hT
    have new : ObjOk X.prog X.w (upd H s.heap.objs.size (.tup [.int (i : Nat), x])) h2 s.heap.objs.size (.tup [.int (i : Nat), x]) :=
      ⟨lim_le (show 2 ≤ lim by decide), [.int i tk, y], .cons ⟨_, rfl⟩ (.cons ru .nil), ⟨_, hT2, rfl, _, rfl⟩⟩
    have keep2 : ∀ b ob, b ∉ [e, it] → s.heap.get? b = some ob → h2.get? b = some ob := fun b ob hb q => by
      rw [List.mem_cons, List.mem_singleton, not_or] at hb
      exact (sb.2 b hb.1).trans (hk b ob hb.1 hb.2 q)
    have I1 := I.turnedNew (t' := tk + 1) (ch := [e, it]) keep2 hf (Nat.le_refl _) new
    refine ⟨.ref s.heap.objs.size, _, I1, rfl, ⟨_, x, rfl, I.hok.fresh (Nat.le_refl _), rfl, fun ys hy => by rw [I.tuple_inj hy hq]; exact hx⟩, ⟨⟨y, ?_⟩, st'.1.at fun o q => (sb.2 it (Ne.symm hne)).trans q, hne⟩, fun b hb => ?_⟩
    · rw [show ((i + 1 : Nat) : Int) = (i : Int) + 1 by omega]
      exact he2
    · have hb2 : b < s.heap.objs.size := by
        rcases List.mem_cons.mp hb with z | z
        · rw [z]; exact hel
        · rw [List.mem_singleton.mp z]; exact hil
      rw [upd_ne (Nat.ne_of_lt hb2)]
      exact (hf b hb).1
  done := by
    rintro X rfl rfl rfl hc i pins s σ H E I hf ⟨⟨old, he⟩, hit, hne⟩ ⟨xs, hq, hx⟩
    obtain ⟨us, rv, p, hz⟩ := I.tuple hq
    obtain ⟨f0, f1, f2, f3, f4, f5⟩ := hf it (List.mem_cons_of_mem _ List.mem_cons_self)
    have hl := rv.length
    have hai : a ≠ it := fun z => by
      obtain ⟨o1, q1, c1, _⟩ := p
      obtain ⟨o2, q2, c2, _⟩ := hit
      rw [z, q2] at q1
      cases q1
      rw [c1] at c2
      injection c2 with c3
      exact absurd c3 (by decide)
    have hend : us.toArray[i]? = none := by rw [List.getElem?_toArray, List.getElem?_eq_none]; omega
    have hT : s.TypeIs (.ref e) "enumerate" := ⟨_, he, rfl⟩
    unfold pyNext
    refine wpAny_bind (wpAny_attempt (wpAny_callSpecial?_slot (name := Str.ofString "__next__") hT PySem.F.slot_enumerate_next
      (wpAny_call_entry PySem.F.slot_enumerate_next hT PySem.F.entry_enumerate_next ?_ (PySem.F.args_enumerate_next_1 _))))
    show wpAny _ _ (field (.ref e) 2 >>= _) _ _ _
    refine wpAny_bind (wpAny_field he rfl (x := .ref it) rfl ?_)
    refine wpAny_bind (wpAny_nextOf_tuple_end (I.ok.hd hc) hit p hend fun h' x' he' hx' => ?_)
    obtain ⟨o, ho, hc'⟩ := hx'
    refine wpAny_bind (wpAny_isInstance (T := "StopIteration") (b := true) ⟨o, ho, hc'⟩ isSubtype_stop ?_)
    exact wpAny_pure ⟨rfl, I.turned (t' := s.toks) (fun b o hb q => he' b o hb q) f0 f1 f3 f4 f5⟩
  self := fun A i s Q E ⟨⟨_, he⟩, _⟩ h => wpAny_pyIter_enum he h
end
end Den


set_option autoImplicit false
namespace Den
open PySem PySem.Spec L2

section
open Sem (wp)
open AutoSeq1 (wpAny_loadPart')
set_option maxHeartbeats 1000000 in
/-- enumerate of one thing that can be walked: made -/
theorem meets_enum1 {v : Value} {o : Obj} {Hh : Heap → Prop} (B : Begins v o Hh) :
    Meets (Builtin.«enumerate.__new__» ⟨[.type "enumerate", v], []⟩) (fun _ R s => Hh s.heap ∧
      R (.ok (.ret (.ref (s.heap.push o).objs.size))) { s with heap := (s.heap.push o).push { cls := .type "enumerate", data := .fields #[.none, .bool false, .ref s.heap.objs.size, rawInt 0, .none, .none] } }) := by
  refine Meets.of_wp fun prog w A R s h => ?_
  obtain ⟨hp, g, d, tk, os⟩ := s
  obtain ⟨h1, h⟩ := h
  have hsub := sub_enumerate
  have walkv : ∀ {A2 : Around} {E2 Q2 : Value → Shared → Prop}, Q2 (.ref hp.objs.size) ⟨hp.push o, g, d, tk, os⟩ → wpAny (model prog w) A2 (pyIter v) Q2 E2 ⟨hp, g, d, tk, os⟩ :=
    fun q => B.iter prog w _ _ ⟨hp, g, d, tk, os⟩ _ h1 q
  wp_walk using walkv
  refine (wpAny_stack_any fun around => wpAny_pure ?_)
  split
  · rename_i c _ _ _ _ _
    cases (c == Value.type "enumerate") <;> (wp_walk using walkv; exact ⟨_, rfl, h⟩)
  · wp_walk using walkv
    exact ⟨_, rfl, h⟩
theorem call_enumT {prog : Program} {w : World} {A : Around} {E : Value → Shared → Prop} {s : Shared} {t : Addr} {us : Array Value} {Q : Value → Shared → Prop} (ht : s.heap.IsTuple t us)
    (h : ∀ h', IsEnum h' (s.heap.objs.size + 1) s.heap.objs.size 0 .none → h'.IsTupleIter s.heap.objs.size t 0 → (∀ b o, s.heap.get? b = some o → h'.get? b = some o) → Q (.ref (s.heap.objs.size + 1)) { s with heap := h' }) :
    wpAny (model prog w) A (call (.type "enumerate") [.ref t]) Q E s := by
  refine callType_new PySem.F.called_enumerate (by decide) (PySem.F.typeCall_enumerate_1 _) (PySem.F.newCall_enumerate_1 _) (fun obj => PySem.F.args_object_init_2 obj _) PySem.F.entry_enumerate_new (meets_enum1 (begins_tuple t us)) ⟨ht, ?_⟩
  generalize ho : ({ cls := .type "tuple_iterator", data := .fields #[.ref t, .int 0 0] } : Obj) = o
  have hz : (s.heap.push o).objs.size = s.heap.objs.size + 1 := Heap.size_push ..
  have he : IsEnum ((s.heap.push o).push { cls := .type "enumerate", data := .fields #[.none, .bool false, .ref s.heap.objs.size, rawInt 0, .none, .none] }) (s.heap.objs.size + 1) s.heap.objs.size 0 .none := by
    have q := Heap.get?_push_size (s.heap.push o) (o := { cls := .type "enumerate", data := .fields #[.none, .bool false, .ref s.heap.objs.size, rawInt 0, .none, .none] }) rfl
    rwa [hz] at q
  have ofree : o.isFreed = false := by rw [← ho]; rfl
  show _ ∧ _
  rw [hz]
  refine ⟨⟨_, he, rfl⟩, h _ he ⟨o, Heap.get?_push_of_some _ (Heap.get?_push_size _ ofree), by rw [← ho], by rw [← ho]; rfl⟩ fun b u x => Heap.get?_push_of_some _ (Heap.get?_push_of_some _ x)⟩
end
section
variable {X : Cx} {tg e : Expr} {f : Fn RR} {pos : Pos}
def fEn (f : Fn RR) : Fn (List D) := fun ρ => (fIt f ρ).map fun x => (enumFrom 0 x.1, x.2)
theorem i_enum {p tpos : Pos} {elts : List Expr} {kk : Nat} (hg : Gl X "enumerate") (hm : X.mg "enumerate" = none) (he : PE X e (tD X.K f)) (hs : starEach [e] X.env = [(false, eval e X.env)]) :
    PI X (.Tuple elts kk tpos) (.Call (.Name "enumerate" p) [e] [] pos) (tItr X.K (fEn f)) := by
  have ha : PA X [e] (tFs X.K (fsCons (fF f) fsNil)) := fs_cons (to_F he) fs_nil hs
  refine ⟨fun pins s σ H R I ⟨G, ρ, ds, ρ', Rl, q, k⟩ => ?_⟩
  obtain ⟨y, e0, q⟩ := mapS q
  cases q
  obtain ⟨x, e1, q⟩ := bindS e0
  obtain ⟨ds', e2, q⟩ := mapS q
  cases q
  have ea : fsCons (fF f) fsNil ρ = some ([x.1], x.2) := by
    unfold fsCons
    rw [e1]
    rfl
  cases hx : x.1 with
  | list es =>
    rw [hx] at e2
    cases e2
    refine (pi_enum hg hm ha hs).run pins s σ H R I ⟨G, ρ, [x.1], x.2, Rl, ea, fun vs G1 H1 R1 S1 dp => ?_⟩
    rw [hx] at dp
    cases dp with
    | cons dp t =>
      cases t
      cases dp with
      | lst hs al =>
        refine ⟨_, _, rfl, R1.sub.seq hs, k G1 H1 _ R1 S1 (yl_enum al (fun i v H' s h => ⟨_, v, s.seq hs, h⟩) (fun i H' s h => ⟨_, s.seq hs, h⟩) fun i v H' y H2 s h z => ?_)⟩
        obtain ⟨T, x2, e3, n, e4, z⟩ := z
        have z2 := z _ (s.seq hs)
        rw [h] at z2
        cases z2
        exact ⟨T, e3, n, e4⟩
  | tuple es =>
    rw [hx] at e2
    cases e2
    refine PyProof.Rows.Call_ (ld_blt I hg hm PyProof.Rows.boot_enumerate (PyProof.Rows.callWith_type1 (thn (ha.run pos pins s σ H (fun vs H1 => ∃ a xs, vs = [.ref a] ∧ SqT X.K H1 a xs ∧ R (IteT X.K a) H1) I ?_) fun us s1 ⟨vs, H1, I1, r1, q1⟩ => ?_) hs rfl))
    · refine ⟨G, ρ, [x.1], x.2, Rl, ea, fun vs G1 H1 R1 S1 dp => ?_⟩
      rw [hx] at dp
      cases dp with
      | cons dp t =>
        cases t
        cases dp with
        | tup hs al =>
          refine ⟨_, _, rfl, same_tup R1.sub hs, k G1 H1 _ R1 S1 (yl_enum al (fun i v H' s h => ⟨_, v, same_tup s hs, h⟩) (fun i H' s h => ⟨_, same_tup s hs, h⟩) fun i v H' y H2 s h z => ?_)⟩
          obtain ⟨T, x2, e3, n, e4, z⟩ := z
          have z2 := z _ (same_tup s hs)
          rw [h] at z2
          cases z2
          exact ⟨T, e3, n, e4⟩
    · obtain ⟨a, xs, rfl, hq, q⟩ := q1
      obtain ⟨u, rfl, ru⟩ := vals1 r1
      cases ru
      obtain ⟨us2, rv, p', hz⟩ := I1.tuple hq
      refine call_enumT p' fun h' he2 hit hk => wpAny_pyIter_enum he2 ?_
      refine ⟨s1.heap.objs.size + 1, [s1.heap.objs.size + 1, s1.heap.objs.size], _, _, H1, rfl, I1.kept (t' := s1.toks) hk, turn_enumT X.K a (s1.heap.objs.size + 1) s1.heap.objs.size, ⟨⟨.none, he2⟩, hit, Nat.succ_ne_self _⟩, fun b hb => ?_, q⟩
      have hle : s1.heap.objs.size ≤ b := by
        rcases List.mem_cons.mp hb with z | z
        · rw [z]; exact Nat.le_succ _
        · rw [List.mem_singleton.mp z]; exact Nat.le_refl _
      exact I1.fpOk hle (I1.hok.fresh hle)
  | _ => rw [hx] at e2; cases e2

def loopF (t : D → Lo → Option Lo) (body : FS) : List D → FS
  | [], ρ => some (.nx, ρ)
  | d :: ds, ρ => (t d ρ).bind fun ρ1 => (body ρ1).bind fun x => match x.1 with
    | .nx => loopF t body ds x.2
    | .ct => loopF t body ds x.2
    | .bk => some (.nx, x.2)
    | .rt r => some (.rt r, x.2)
def fFor (it : Fn (List D)) (t : D → Lo → Option Lo) (body : FS) : FS := fun ρ => (it ρ).bind fun x => loopF t body x.1 x.2
theorem s_for {iter : Expr} {body : List Stmt} {it : Fn (List D)} {t : D → Lo → Option Lo} {fb : FS} {vs : List Nat} (hx : X.xe = fun _ _ => False) (hc : X.calm = true) (hi : PI X tg iter (tItr X.K it)) (hg : PG X tg (tTg X.K t vs)) (hb : PSs X body (tS X.K fb))
    (hs : ∀ x, foldedSetIterable iter X.env x = pure x) : PS X (.For tg iter body [] pos) (tS X.K (fFor it t fb)) :=
  weakS (ps_for (by rw [hx]; exact PassesOwn.never) hc hi hg hb hs) fun D σ H ⟨G, ρ, o, ρ', R, q, k⟩ => by
    obtain ⟨x, e1, q⟩ := bindS q
    refine ⟨G, ρ, x.1, x.2, R, e1, fun G1 H1 J R1 S1 yl => ?_⟩
    refine ⟨fun i m σ' H' => ∃ G' ρ'', Rel X.K G' H' σ' ρ'' ∧ Stp σ ρ G H σ' ρ'' G' H' ∧ Same G1 G' ∧ loopF t fb (x.1.drop i) ρ'' = some (o, ρ') ∧ m = x.1.length - i, ⟨_, G1, x.2, R1, S1, Same.refl _, q, rfl⟩, ?_⟩
    rintro i m σ2 H2 ⟨G2, ρ2, R2, S2, g12, q2, rfl⟩
    cases hd : x.1[i]? with
    | none =>
      have hl : x.1.length ≤ i := List.getElem?_eq_none_iff.mp hd
      rw [List.drop_eq_nil_of_le hl] at q2
      cases q2
      exact .inl ⟨yl.st i H2 (g12.trans R2.sub) hl, k σ2 G2 H2 R2 S2⟩
    | some d =>
      have hl : i < x.1.length := (List.getElem?_eq_some_iff.mp hd).1
      have ed : x.1.drop i = d :: x.1.drop (i + 1) := by
        rw [List.drop_eq_getElem_cons hl]
        congr 1
        exact (List.getElem?_eq_some_iff.mp hd).2
      rw [ed] at q2
      obtain ⟨ρ3, e3, q2⟩ := bindS q2
      obtain ⟨y, e4, q2⟩ := bindS q2
      refine .inr ⟨yl.go i d H2 (g12.trans R2.sub) hd, fun σ' H' => ∃ G' ρ'', Rel X.K G' H' σ' ρ'' ∧ Stp σ ρ G H σ' ρ'' G' H' ∧ Same G1 G' ∧ loopF t fb (x.1.drop (i + 1)) ρ'' = some (o, ρ'), fun σ' H' ⟨G', ρ'', a1, a2, a3, a4⟩ => ⟨_, by omega, G', ρ'', a1, a2, a3, a4, rfl⟩, fun v H3 hy => ?_⟩
      obtain ⟨G3, md⟩ := yl.yl i d G2 H2 v H3 g12 R2.sub hd hy
      have P := md.pst R2
      refine ⟨G3, ρ2, d, ρ3, P.rel, P.res, e3, fun σ4 R4 S4 _ _ => ?_⟩
      have S24 := S2.trans (P.stp.trans S4)
      have g14 : Same G1 G3 := g12.trans md.gg
      refine ⟨G3, ρ3, y.1, y.2, R4, e4, fun σ5 G5 H5 R5 S5 => ?_⟩
      have S25 := S24.trans S5
      cases hy1 : y.1 with
      | nx =>
        rw [hy1] at q2
        exact ⟨G5, y.2, R5, S25, g14.trans S5.gg, q2⟩
      | ct =>
        rw [hy1] at q2
        exact ⟨G5, y.2, R5, S25, g14.trans S5.gg, q2⟩
      | bk =>
        rw [hy1] at q2
        cases q2
        exact k σ5 G5 H5 R5 S25
      | rt r =>
        rw [hy1] at q2
        cases q2
        exact outK_trans k S24 σ5 G5 H5 R5 S5

def whF (c : FT) (b : FS) : Nat → FS
  | 0, _ => none
  | n + 1, ρ => (c ρ).bind fun x => if x.1 then (b x.2).bind fun y => match y.1 with
      | .nx => whF c b n y.2
      | .ct => whF c b n y.2
      | .bk => some (.nx, y.2)
      | .rt r => some (.rt r, y.2)
    else some (.nx, x.2)
def fWh (c : FT) (b : FS) : FS := whF c b 1000000
theorem s_while {c : Expr} {body : List Stmt} {fc : FT} {fb : FS} (hx : X.xe = fun _ _ => False) (hc : PT X c (tT X.K fc)) (hb : PSs X body (tS X.K fb)) : PS X (.While c body [] pos) (tS X.K (fWh fc fb)) :=
  weakS (ps_while (by rw [hx]; exact PassesOwn.never) hc hb) fun D σ H ⟨G, ρ, o, ρ', R, q, k⟩ => by
    refine ⟨fun m σ' H' => ∃ G' ρ'', Rel X.K G' H' σ' ρ'' ∧ Stp σ ρ G H σ' ρ'' G' H' ∧ whF fc fb m ρ'' = some (o, ρ'), ⟨_, G, ρ, R, .refl, q⟩, ?_⟩
    rintro m σ2 H2 ⟨G2, ρ2, R2, S2, q2⟩
    cases m with
    | zero => cases q2
    | succ n =>
      obtain ⟨x, e1, q2⟩ := bindS q2
      refine ⟨G2, ρ2, x.1, x.2, R2, e1, fun G3 H3 R3 S3 => ?_⟩
      cases hx1 : x.1 with
      | false =>
        rw [hx1, if_neg (by simp)] at q2
        cases q2
        rw [if_neg (by simp)]
        exact k σ2 G3 H3 R3 (S2.trans S3)
      | true =>
        rw [hx1, if_pos rfl] at q2
        rw [if_pos rfl]
        obtain ⟨y, e4, q2⟩ := bindS q2
        refine ⟨fun σ' H' => ∃ G' ρ'', Rel X.K G' H' σ' ρ'' ∧ Stp σ ρ G H σ' ρ'' G' H' ∧ whF fc fb n ρ'' = some (o, ρ'), fun σ' H' h => ⟨n, Nat.lt_succ_self _, h⟩, G3, x.2, y.1, y.2, R3, e4, fun σ5 G5 H5 R5 S5 => ?_⟩
        have S25 := (S2.trans S3).trans S5
        cases hy1 : y.1 with
        | nx =>
          rw [hy1] at q2
          exact ⟨G5, y.2, R5, S25, q2⟩
        | ct =>
          rw [hy1] at q2
          exact ⟨G5, y.2, R5, S25, q2⟩
        | bk =>
          rw [hy1] at q2
          cases q2
          exact k σ5 G5 H5 R5 S25
        | rt r =>
          rw [hy1] at q2
          cases q2
          exact outK_trans k (S2.trans S3) σ5 G5 H5 R5 S5
end
end Den


set_option autoImplicit false
namespace Den
open PySem PySem.Spec L2

def wipeL (ρ : Lo) : List Nat → Lo
  | [] => ρ
  | v :: vs => (wipeL ρ vs).set v .no
theorem wipeL_len (ρ : Lo) : ∀ vs : List Nat, (wipeL ρ vs).length = ρ.length
  | [] => rfl
  | v :: vs => by rw [wipeL, List.length_set, wipeL_len ρ vs]
theorem wipeL_out (ρ : Lo) {i : Nat} : ∀ {vs : List Nat}, i ∉ vs → (wipeL ρ vs)[i]? = ρ[i]?
  | [], _ => rfl
  | v :: vs, h => by
    rw [List.mem_cons, not_or] at h
    rw [wipeL, List.getElem?_set_ne (Ne.symm h.1), wipeL_out ρ h.2]
theorem wipeL_in (ρ : Lo) {i : Nat} {s : Sl} : ∀ {vs : List Nat}, i ∈ vs → (wipeL ρ vs)[i]? = some s → s = .no
  | v :: vs, h, e => by
    rw [wipeL] at e
    by_cases hv : v = i
    · subst hv
      by_cases hl : v < (wipeL ρ vs).length
      · rw [List.getElem?_set_self hl] at e
        cases e
        rfl
      · rw [List.getElem?_eq_none (by simpa using hl)] at e
        cases e
    · rw [List.getElem?_set_ne hv] at e
      rcases List.mem_cons.mp h with z | z
      · exact absurd z.symm hv
      · exact wipeL_in ρ z e
theorem wipe_in (σ : St) {i : Nat} : ∀ {vs : List Nat}, i ∈ vs → i < σ.length → (wipe σ vs)[i]? = some none
  | v :: vs, h, hl => by
    show ((wipe σ vs).set v none)[i]? = some none
    by_cases hv : v = i
    · subst hv
      exact List.getElem?_set_self (by rw [wipe_length]; exact hl)
    · rw [List.getElem?_set_ne hv]
      rcases List.mem_cons.mp h with z | z
      · exact absurd z.symm hv
      · exact wipe_in σ z hl
def restL (ρ₁ ρ₂ : Lo) : List Nat → Lo
  | [] => ρ₂
  | v :: vs => (restL ρ₁ ρ₂ vs).set v (ρ₁[v]?.getD .no)
theorem restL_len (ρ₁ ρ₂ : Lo) : ∀ vs : List Nat, (restL ρ₁ ρ₂ vs).length = ρ₂.length
  | [] => rfl
  | v :: vs => by rw [restL, List.length_set, restL_len ρ₁ ρ₂ vs]
theorem restL_out (ρ₁ ρ₂ : Lo) {i : Nat} : ∀ {vs : List Nat}, i ∉ vs → (restL ρ₁ ρ₂ vs)[i]? = ρ₂[i]?
  | [], _ => rfl
  | v :: vs, h => by
    rw [List.mem_cons, not_or] at h
    rw [restL, List.getElem?_set_ne (Ne.symm h.1), restL_out ρ₁ ρ₂ h.2]
theorem restL_in (ρ₁ ρ₂ : Lo) {i : Nat} (hl : ρ₂.length = ρ₁.length) : ∀ {vs : List Nat}, i ∈ vs → (restL ρ₁ ρ₂ vs)[i]? = ρ₁[i]?
  | v :: vs, h => by
    rw [restL]
    by_cases hv : v = i
    · subst hv
      by_cases hi : v < ρ₁.length
      · rw [List.getElem?_set_self (by rw [restL_len]; omega), List.getElem?_eq_getElem hi]
        rfl
      · rw [List.getElem?_eq_none (by rw [List.length_set, restL_len]; omega), List.getElem?_eq_none (by omega)]
    · rw [List.getElem?_set_ne hv]
      rcases List.mem_cons.mp h with z | z
      · exact absurd z.symm hv
      · exact restL_in ρ₁ ρ₂ hl z
section
variable {K : PySem.W.Frag} {G G' H H' : Hp} {σ σ' : St} {ρ ρ' : Lo}
theorem own_wipe {vs : List Nat} {i : Nat} (h : Own (wipeL ρ vs) i) : Own ρ i ∧ i ∉ vs := by
  obtain ⟨s, e, o⟩ := h
  by_cases hi : i ∈ vs
  · rw [wipeL_in ρ hi e] at o
    cases o
  · rw [wipeL_out ρ hi] at e
    exact ⟨⟨s, e, o⟩, hi⟩
theorem rel_wipe (R : Rel K G H σ ρ) (vs : List Nat) : Rel K G H (wipe σ vs) (wipeL ρ vs) := by
  refine ⟨R.sub, fun i s e => ?_, fun i j a hi hj ei ej => ?_, by rw [wipeL_len, wipe_length]; exact R.len⟩
  · by_cases hi : i ∈ vs
    · rw [wipeL_in ρ hi e]
      trivial
    · rw [wipeL_out ρ hi] at e
      rw [wipe_out hi]
      exact R.sl i s e
  · obtain ⟨o1, n1⟩ := own_wipe hi
    obtain ⟨o2, n2⟩ := own_wipe hj
    rw [wipe_out n1] at ei
    rw [wipe_out n2] at ej
    exact R.apart i j a o1 o2 ei ej
theorem ow_wipe {vs : List Nat} {a : Addr} (h : Ow (wipe σ vs) (wipeL ρ vs) a) : Ow σ ρ a := by
  obtain ⟨i, o, e⟩ := h.own
  obtain ⟨o1, n1⟩ := own_wipe o
  rw [wipe_out n1] at e
  exact Ow.of o1 e
theorem ls_wipe {vs : List Nat} {a : Addr} (h : Ls (wipe σ vs) (wipeL ρ vs) a) : Ls σ ρ a := by
  obtain ⟨i, s, ⟨e1, o⟩, e2⟩ := h
  by_cases hi : i ∈ vs
  · have := wipeL_in ρ hi e1
    subst this
    cases o
  · rw [wipeL_out ρ hi] at e1
    rw [wipe_out hi] at e2
    exact ⟨i, s, ⟨e1, o⟩, e2⟩
theorem stp_wipe {σ₀ : St} {ρ₀ : Lo} {G₀ H₀ : Hp} (S : Stp σ₀ ρ₀ G₀ H₀ σ ρ G H) (vs : List Nat) : Stp σ₀ ρ₀ G₀ H₀ (wipe σ vs) (wipeL ρ vs) G H := by
  refine ⟨S.gg, S.keep, S.gnew, fun a h => S.ols a (ls_wipe h), fun i ds h hb => ?_, S.dom⟩
  by_cases hi : i ∈ vs
  · cases wipeL_in ρ hi h
    cases hb
  · rw [wipeL_out ρ hi] at h
    obtain ⟨d0, h1, h2⟩ := S.obg i ds h hb
    exact ⟨d0, h1, by rw [wipe_out hi]; exact h2⟩
theorem rest_ok {vs : List Nat} {ρ₂ : Lo} (R : Rel K G H σ ρ) (R2 : Rel K G' H' (wipe σ vs) ρ₂) (S : Stp (wipe σ vs) (wipeL ρ vs) G H (wipe σ vs) ρ₂ G' H') :
    Rel K G' H' σ (restL ρ ρ₂ vs) ∧ Stp σ ρ G H σ (restL ρ ρ₂ vs) G' H' := by
  have hl : ρ₂.length = ρ.length := by rw [R2.len, wipe_length, R.len]
  have hid : ∀ {i : Nat} {s : Sl} {a : Addr}, i ∈ vs → ρ[i]? = some s → isOwn s = true → σ[i]? = some (some (.ref a)) → ¬ Ow (wipe σ vs) (wipeL ρ vs) a := fun {i s a} hi e o e2 h => by
    obtain ⟨j, o3, e3⟩ := h.own
    obtain ⟨o4, n4⟩ := own_wipe o3
    rw [wipe_out n4] at e3
    exact n4 (by rw [R.apart j i a o4 ⟨s, e, o⟩ e3 e2]; exact hi)
  have keepM : ∀ (i : Nat) (s : Sl) ds, i ∈ vs → ρ[i]? = some s → isOwn s = true → Mine K G H σ[i]? ds → Mine K G' H' σ[i]? ds := fun i s ds hi e o ⟨a, xs, e1, g, e2, al⟩ =>
    ⟨a, xs, e1, (S.gnew a (by rw [e2]; simp) (hid hi e o e1)).trans g, S.keep a _ e2 (hid hi e o e1), dpsMono S.gg al⟩
  have split : ∀ {i : Nat} {s : Sl}, (restL ρ ρ₂ vs)[i]? = some s → (i ∈ vs ∧ ρ[i]? = some s) ∨ (i ∉ vs ∧ ρ₂[i]? = some s) := fun {i s} e => by
    by_cases hi : i ∈ vs
    · rw [restL_in ρ ρ₂ hl hi] at e
      exact .inl ⟨hi, e⟩
    · rw [restL_out ρ ρ₂ hi] at e
      exact .inr ⟨hi, e⟩
  have notin : ∀ {i j : Nat} {s t : Sl} {a : Addr}, i ∈ vs → ρ[i]? = some s → isOwn s = true → σ[i]? = some (some (.ref a)) → j ∉ vs → ρ₂[j]? = some t → isOwn t = true → σ[j]? = some (some (.ref a)) → False := fun {i j s t a} hi e o e2 hj e3 o3 e4 => by
    have w : Ow (wipe σ vs) ρ₂ a := Ow.of ⟨t, e3, o3⟩ (by rw [wipe_out hj]; exact e4)
    rcases S.ow w with w | w
    · exact hid hi e o e2 w
    · exact R.owH (Ow.of ⟨s, e, o⟩ e2) w
  refine ⟨⟨R2.sub, fun i s e => ?_, fun i j a ⟨s, es, os⟩ ⟨t, et, ot⟩ ei ej => ?_, by rw [restL_len, hl]; exact R.len⟩,
    ⟨S.gg, fun a o e n => S.keep a o e fun w => n (ow_wipe w), fun a e n => S.gnew a e fun w => n (ow_wipe w), fun a ⟨i, ds, ⟨e1, o1⟩, e2⟩ => ?_, fun i ds e hb => ?_, S.dom⟩⟩
  · rcases split e with ⟨hi, e⟩ | ⟨hi, e⟩
    · have q := R.sl i s e
      cases s with
      | no => trivial
      | va d => obtain ⟨v, e1, q⟩ := q; exact ⟨v, e1, dpMono S.gg q⟩
      | ls ds => exact keepM i _ ds hi e rfl q
      | dc m =>
        obtain ⟨a, o, e1, g, e2, al⟩ := q
        exact ⟨a, o, e1, (S.gnew a (by rw [e2]; simp) (hid hi e rfl e1)).trans g, S.keep a _ e2 (hid hi e rfl e1), dmMono S.gg al⟩
      | bd m =>
        obtain ⟨a, o, e1, g, e2, al⟩ := q
        exact ⟨a, o, e1, (S.gnew a (by rw [e2]; simp) (hid hi e rfl e1)).trans g, S.keep a _ e2 (hid hi e rfl e1), dmMono S.gg al⟩
      | hd _ => exact q
      | bg ds => exact keepM i _ ds hi e rfl q
    · have q := R2.sl i s e
      rw [wipe_out hi] at q
      exact q
  · rcases split es with ⟨hi, es⟩ | ⟨hi, es⟩
    · rcases split et with ⟨hj, et⟩ | ⟨hj, et⟩
      · exact R.apart i j a ⟨s, es, os⟩ ⟨t, et, ot⟩ ei ej
      · exact (notin hi es os ei hj et ot ej).elim
    · rcases split et with ⟨hj, et⟩ | ⟨hj, et⟩
      · exact (notin hj et ot ej hi es os ei).elim
      · exact R2.apart i j a ⟨s, es, os⟩ ⟨t, et, ot⟩ (by rw [wipe_out hi]; exact ei) (by rw [wipe_out hj]; exact ej)
  · rcases split e1 with ⟨hi, e1⟩ | ⟨hi, e1⟩
    · exact .inl ⟨i, ds, ⟨e1, o1⟩, e2⟩
    · rcases S.ols a ⟨i, ds, ⟨e1, o1⟩, by rw [wipe_out hi]; exact e2⟩ with w | w
      · exact .inl (ls_wipe w)
      · exact .inr w
  · rcases split e with ⟨hi, e⟩ | ⟨hi, e⟩
    · exact ⟨ds, ⟨e, hb⟩, rfl⟩
    · obtain ⟨d0, ⟨h1, b1⟩, _⟩ := S.obg i ds e hb
      rw [wipeL_out ρ hi] at h1
      exact ⟨d0, ⟨h1, b1⟩, rfl⟩
theorem ow_rest {vs : List Nat} {ρ₂ : Lo} {a : Addr} (hl : ρ₂.length = ρ.length) (h : Ow σ (restL ρ ρ₂ vs) a) : Ow σ ρ a ∨ Ow (wipe σ vs) ρ₂ a := by
  obtain ⟨i, ⟨s, e, o⟩, e2⟩ := h.own
  by_cases hi : i ∈ vs
  · rw [restL_in ρ ρ₂ hl hi] at e
    exact .inl (Ow.of ⟨s, e, o⟩ e2)
  · rw [restL_out ρ ρ₂ hi] at e
    exact .inr (Ow.of ⟨s, e, o⟩ (by rw [wipe_out hi]; exact e2))
theorem wipe_same {vs ws : List Nat} (hw : ∀ j ∈ ws, j ∈ vs) (h : ∀ j, j ∉ ws → σ'[j]? = (wipe σ vs)[j]?) (hl : σ'.length = (wipe σ vs).length) : wipe σ' vs = wipe σ vs := by
  apply List.ext_getElem?
  intro j
  have l2 : σ'.length = σ.length := by rw [hl, wipe_length]
  by_cases hj : j ∈ vs
  · by_cases hlt : j < σ.length
    · rw [wipe_in σ' hj (by omega), wipe_in σ hj hlt]
    · rw [List.getElem?_eq_none (by rw [wipe_length]; omega), List.getElem?_eq_none (by rw [wipe_length]; omega)]
  · rw [wipe_out hj, h j (fun z => hj (hw j z))]
end
def lcF (vs : List Nat) (t : D → Lo → Option Lo) (test : FT) (elt : Fn D) : List D → List D → Lo → Option (List D × Lo)
  | [], acc, ρ => some (acc, ρ)
  | d :: ds, acc, ρ => (t d ρ).bind fun ρ1 => (test ρ1).bind fun b => if b.1 then (elt b.2).bind fun y => lcF vs t test elt ds (acc ++ [y.1]) (wipeL y.2 vs) else lcF vs t test elt ds acc (wipeL b.2 vs)
def fLc (vs : List Nat) (it : Fn (List D)) (t : D → Lo → Option Lo) (test : FT) (elt : Fn RR) : Fn RR := fun ρ => (it ρ).bind fun x => if x.1.length ≤ lim then
  (lcF vs t test (fF elt) x.1 [] (wipeL x.2 vs)).map fun y => (.ls y.1, restL x.2 y.2 vs) else none
def fYes : FT := fun ρ => some (true, ρ)
section
variable {X : Cx}
theorem lc_ok {K : PySem.W.Frag} {vs ws : List Nat} {it : Fn (List D)} {t : D → Lo → Option Lo} {test : FT} {elt : Fn RR} (hw : ∀ j ∈ ws, j ∈ vs) {σ : St} {H : Hp} {Q : VK} (h : tD K (fLc vs it t test elt) σ H Q) :
    tLc (tItr K it) (tTg K t ws) (tT K test) (tF K (fF elt)) vs σ H Q := by
  obtain ⟨G, ρ, r, ρ', R, q, k⟩ := h
  obtain ⟨x, e1, q⟩ := bindS q
  by_cases hlen : x.1.length ≤ lim
  · rw [if_pos hlen] at q
    obtain ⟨y, e2, q⟩ := mapS q
    cases q
    refine ⟨G, ρ, x.1, x.2, R, e1, fun G1 H1 J R1 S1 yl D hD => ?_⟩
    obtain ⟨R0, S0⟩ := (rel_wipe R1 vs).newH (o := .lst []) hD
    have n0 : ¬ Ow (wipe σ vs) (wipeL x.2 vs) D := fun w => R1.owH (ow_wipe w) hD
    refine ⟨fun i m H' => ∃ G' ρ'' oV oD, Rel K G' H' (wipe σ vs) ρ'' ∧ Stp (wipe σ vs) (wipeL x.2 vs) G1 H1 (wipe σ vs) ρ'' G' H' ∧ ¬ Ow (wipe σ vs) ρ'' D ∧ H' D = some (.lst oV) ∧ DpAll K G' oV oD ∧ G' D = none ∧
      lcF vs t test (fF elt) (x.1.drop i) oD ρ'' = some y ∧ m = x.1.length - i ∧ oD.length ≤ i, ⟨_, G1, wipeL x.2 vs, [], [], R0, S0, n0, upd_same, .nil, R1.gfree hD, e2, rfl, Nat.le_refl _⟩, ?_⟩
    rintro i m H2 ⟨G2, ρ2, oV, oD, R2, S2, n2, hD2, al2, gD2, q2, rfl, hlo⟩
    have g12 : Same G1 G2 := S2.gg
    have hlV : oV.length = oD.length := dpsLen al2
    cases hd : x.1[i]? with
    | none =>
      have hl : x.1.length ≤ i := List.getElem?_eq_none_iff.mp hd
      rw [List.drop_eq_nil_of_le hl] at q2
      cases q2
      refine .inl ⟨yl.st i H2 (g12.trans R2.sub) hl, ?_⟩
      obtain ⟨R3, S3⟩ := rest_ok R1 R2 S2
      refine k _ G2 H2 ⟨R3, S1.trans S3, ⟨D, oV, rfl, gD2, hD2, al2, fun w => ?_⟩, fun p hp => ?_⟩
      · rcases ow_rest (by rw [R2.len, wipe_length, R1.len]) w with w | w
        · exact R1.owH w hD
        · exact n2 w
      · cases hp
        cases z : H D with
        | none => rfl
        | some o => exact absurd hD (S1.dom D (by rw [z]; simp))
    | some d =>
      have hl : i < x.1.length := (List.getElem?_eq_some_iff.mp hd).1
      have ed : x.1.drop i = d :: x.1.drop (i + 1) := by
        rw [List.drop_eq_getElem_cons hl]
        congr 1
        exact (List.getElem?_eq_some_iff.mp hd).2
      rw [ed] at q2
      obtain ⟨ρ3, e3, q2⟩ := bindS q2
      obtain ⟨b, e4, q2⟩ := bindS q2
      refine .inr ⟨yl.go i d H2 (g12.trans R2.sub) hd, fun H' => ∃ G' ρ'' oV oD, Rel K G' H' (wipe σ vs) ρ'' ∧ Stp (wipe σ vs) (wipeL x.2 vs) G1 H1 (wipe σ vs) ρ'' G' H' ∧ ¬ Ow (wipe σ vs) ρ'' D ∧ H' D = some (.lst oV) ∧ DpAll K G' oV oD ∧ G' D = none ∧
        lcF vs t test (fF elt) (x.1.drop (i + 1)) oD ρ'' = some y ∧ oD.length ≤ i + 1, fun H' ⟨G', ρ'', oV, oD, a1, a2, a0, a3, a4, a5, a6, a7⟩ => ⟨_, by omega, G', ρ'', oV, oD, a1, a2, a0, a3, a4, a5, a6, rfl, a7⟩, fun v H3 hy => ?_⟩
      obtain ⟨G3, md⟩ := yl.yl i d G2 H2 v H3 g12 R2.sub hd hy
      have P := md.pst R2
      have dn2 : H2 D ≠ none := by rw [hD2]; simp
      refine ⟨G3, ρ2, d, ρ3, P.rel, P.res, e3, fun σ4 R4 S4 n4 l4 => ⟨wipe_same hw n4 l4, ?_⟩⟩
      have ws4 : wipe σ4 vs = wipe σ vs := wipe_same hw n4 l4
      have T4 : Stp (wipe σ vs) ρ2 G2 H2 σ4 ρ3 G3 H3 := P.stp.trans S4
      refine ⟨G3, ρ3, b.1, b.2, R4, e4, fun G5 H5 R5 S5 => ?_⟩
      have T5 := T4.trans S5
      -- the new list is nobody's slot, and stays as it is
      have noD : ∀ {σx : St} {ρx : Lo} {Gx Hx : Hp}, Stp (wipe σ vs) ρ2 G2 H2 σx ρx Gx Hx → ¬ Ow σx ρx D := fun S w => (S.ow w).elim n2 dn2
      cases hb : b.1 with
      | true =>
        rw [hb, if_pos rfl] at q2
        show if true = true then _ else _
        rw [if_pos rfl]
        obtain ⟨z, e6, q2⟩ := bindS q2
        refine ⟨G5, b.2, z.1, z.2, R5, e6, fun u G6 H6 R6 S6 d6 => ?_⟩
        have T6 := T5.trans S6
        have hD6 : H6 D = some (.lst oV) := T6.keep D _ hD2 n2
        have gD6 : G6 D = none := (T6.gnew D dn2 n2).trans gD2
        have al6 : DpAll K G6 (oV ++ [u]) (oD ++ [z.1]) := dpsApp (dpsMono T6.gg al2) (.cons d6 .nil)
        refine ⟨oV, hD6, lim_lt (by omega), ?_⟩
        have R7 := rel_wipe R6 vs
        have S7 := stp_wipe (S2.trans T6) vs
        have nD7 := noD (stp_wipe T6 vs)
        rw [ws4] at R7 S7 nD7
        refine ⟨G6, wipeL z.2 vs, oV ++ [u], oD ++ [z.1], ⟨fun a o e => ?_, fun j s e => ?_, R7.apart, R7.len⟩, ⟨S7.gg, fun a o e n => ?_, S7.gnew, S7.ols, S7.obg, fun a e => ?_⟩, nD7, upd_same, al6, gD6, q2, by rw [List.length_append, List.length_singleton]; omega⟩
        · rw [upd_ne (ne_of_none e gD6)]
          exact R7.sub a o e
        · have qs := R7.sl j s e
          have own : ∀ es, isOwn s = true → Mine K G6 H6 (wipe σ vs)[j]? es → Mine K G6 (upd H6 D (.lst (oV ++ [u]))) (wipe σ vs)[j]? es := fun es o ⟨a, xs, e7, g7, e8, al8⟩ =>
            ⟨a, xs, e7, g7, by rw [upd_ne (fun w => nD7 (Ow.of ⟨s, e, o⟩ (by rw [w] at e7; exact e7)))]; exact e8, al8⟩
          cases s with
          | no => trivial
          | va d => exact qs
          | ls es => exact own es rfl qs
          | dc m =>
            obtain ⟨a, u7, e7, g7, e8, al8⟩ := qs
            exact ⟨a, u7, e7, g7, by rw [upd_ne (fun w => nD7 (Ow.of ⟨_, e, rfl⟩ (by rw [w] at e7; exact e7)))]; exact e8, al8⟩
          | bd m =>
            obtain ⟨a, u7, e7, g7, e8, al8⟩ := qs
            exact ⟨a, u7, e7, g7, by rw [upd_ne (fun w => nD7 (Ow.of ⟨_, e, rfl⟩ (by rw [w] at e7; exact e7)))]; exact e8, al8⟩
          | hd _ => exact qs
          | bg es => exact own es rfl qs
        · rw [upd_ne (ne_of_none e hD)]
          exact S7.keep a o e n
        · by_cases ha : a = D
          · rw [ha, upd_same]
            simp
          · rw [upd_ne ha]
            exact S7.dom a e
      | false =>
        rw [hb, if_neg (by simp)] at q2
        show if false = true then _ else _
        rw [if_neg (by simp)]
        have R7 := rel_wipe R5 vs
        have S7 := stp_wipe (S2.trans T5) vs
        have nD7 := noD (stp_wipe T5 vs)
        rw [ws4] at R7 S7 nD7
        exact ⟨G5, wipeL b.2 vs, oV, oD, R7, S7, nD7, T5.keep D _ hD2 n2, dpsMono T5.gg al2, (T5.gnew D dn2 n2).trans gD2, q2, by omega⟩
  · rw [if_neg hlen] at q
    cases q
end
end Den


set_option autoImplicit false
namespace Den
open PySem PySem.Spec L2

section
variable {X : Cx} {elt tg iter : Expr} {pos : Pos}
theorem e_lc {ifs : List Expr} {scope : Scope} {own : List (Str × Nat)} {it : Fn (List D)} {t : D → Lo → Option Lo} {test : FT} {f : Fn RR} {ws : List Nat} (hc : X.calm = true) (hN : X.N.Nodup) (hi : PI X tg iter (tItr X.K it)) (ok : BlkOk X.N X.env.scope scope own)
    (hw : ∀ j ∈ ws, j ∈ own.map (·.2))
    (hg : ∀ (s : Shared) (H : Hp) (C : Addr) (cl : List (Str × Addr)) (fp : List Addr), PG (X.blk s H scope (compEnvC scope cl C X.env) fp) tg (tTg X.K t ws))
    (ht : ∀ (s : Shared) (H : Hp) (C : Addr) (cl : List (Str × Addr)) (fp : List Addr), PTs (X.blk s H scope (compEnvC scope cl C X.env) fp) ifs (tT X.K test))
    (he : ∀ (s : Shared) (H : Hp) (C : Addr) (cl : List (Str × Addr)) (fp : List Addr), PE (X.blk s H scope (compEnvC scope cl C X.env) fp) elt (tD X.K f)) (hs : ∀ x, foldedSetIterable iter X.env x = pure x) :
    PE X (.ListComp elt [⟨tg, iter, ifs, 0⟩] scope pos) (tD X.K (fLc (own.map (·.2)) it t test f)) :=
  weakE (pe_lc hc hN hi ok hg ht (fun s H C cl fp => to_F (he s H C cl fp)) hs) fun σ H Q h => lc_ok hw h
theorem fO_lc {vs : List Nat} {it : Fn (List D)} {t : D → Lo → Option Lo} {test : FT} {f : Fn RR} {ρ : Lo} {x : RR × Lo} (h : fO (fLc vs it t test f) ρ = some x) : fLc vs it t test f ρ = some x := by
  obtain ⟨y, e1, q⟩ := bindS h
  obtain ⟨z, e2, q2⟩ := bindS e1
  by_cases hl : z.1.length ≤ lim
  · rw [if_pos hl] at q2
    obtain ⟨u, e3, rfl⟩ := mapS q2
    cases q
    exact e1
  · rw [if_neg hl] at q2
    cases q2
theorem s_setLc {i : Nat} {y : Str} {py : Pos} {ifs : List Expr} {scope : Scope} {own : List (Str × Nat)} {spos : Pos} {it : Fn (List D)} {t : D → Lo → Option Lo} {test : FT} {f : Fn RR} {ws : List Nat} (hc : X.calm = true) (hN : X.N.Nodup) (hy : X.N[i]? = some y) (hyl : X.env.scope.names.lookup y = some .local)
    (hsw : swapsWith (.ListComp elt [⟨tg, iter, ifs, 0⟩] scope pos) (some (.Name y py)) spos.line X.env = pure true) (hi : PI X tg iter (tItr X.K it)) (ok : BlkOk X.N X.env.scope scope own)
    (hw : ∀ j ∈ ws, j ∈ own.map (·.2))
    (hg : ∀ (s : Shared) (H : Hp) (C : Addr) (cl : List (Str × Addr)) (fp : List Addr), PG (X.blk s H scope (compEnvC scope cl C X.env) fp) tg (tTg X.K t ws))
    (ht : ∀ (s : Shared) (H : Hp) (C : Addr) (cl : List (Str × Addr)) (fp : List Addr), PTs (X.blk s H scope (compEnvC scope cl C X.env) fp) ifs (tT X.K test))
    (he : ∀ (s : Shared) (H : Hp) (C : Addr) (cl : List (Str × Addr)) (fp : List Addr), PE (X.blk s H scope (compEnvC scope cl C X.env) fp) elt (tD X.K f)) (hs : ∀ x, foldedSetIterable iter X.env x = pure x) :
    PS X (.Assign [.Name y py] (.ListComp elt [⟨tg, iter, ifs, 0⟩] scope pos) spos) (tS X.K (fSet i (fLc (own.map (·.2)) it t test f))) :=
  weakS (ps_setLc hc hN hy hyl hsw hi ok hg ht (fun s H C cl fp => to_F (he s H C cl fp)) hs) fun D σ H h => by
    have q := set_ok h
    obtain ⟨G, ρ, r, ρ', R, e, k⟩ := q
    exact lc_ok hw ⟨G, ρ, r, ρ', R, fO_lc e, k⟩
end

structure FD where
  mt : Bool
  np : Nat
  run : List D → List D → Option (RR × List D)
def parL (mt : Bool) (β ds : List D) : Lo := if mt then .bg β :: ds.map .va else ds.map .va
def spD (K : PySem.W.Frag) (fd : FD) : Sp := fun vs H Q _ => vs.length = fd.np ∧ ∃ G β ds r β', Rel K G H (vs.map some) (parL fd.mt β ds) ∧ fd.run β ds = some (r, β') ∧
  ∀ v G' H', Rel K G' H' (vs.map some) (parL fd.mt β' ds) → Stp (vs.map some) (parL fd.mt β ds) G H (vs.map some) (parL fd.mt β' ds) G' H' → RetR K (vs.map some) (parL fd.mt β ds) H G' H' v r → Q v H'
structure FnG (P : Program) (w : World) (K : PySem.W.Frag) (mg : Str → Option Value) (base : Heap) (k : Nat) (f : Addr) (fd : FuncData) (ps : List Str) (sp : Sp) : Prop where
  len : ∀ vs H Q E, sp vs H Q E → vs.length = ps.length
  run : ∀ (A : Around) (outer : List Env) (s : Shared) (H : Hp) (args : Args) (us : List Value) (vs : List V) (Q : VK), Room k A → A.guards = some [] → Env0 P w K mg base A outer s H → BindsTo s fd args (ps.zip us) → Vals vs us → sp vs H Q E0 →
    codeAny (model P w) A (.call (.ref f) args) (CR CX0 outer P w H s Q E0) s
theorem FnG.mono {P : Program} {w : World} {K : PySem.W.Frag} {mg : Str → Option Value} {base : Heap} {j k : Nat} {f : Addr} {fd : FuncData} {ps : List Str} {sp : Sp} (F : FnG P w K mg base j f fd ps sp) (h : j ≤ k) : FnG P w K mg base k f fd ps sp :=
  ⟨F.len, fun A outer s H args us vs Q hr => F.run A outer s H args us vs Q (hr.mono h)⟩
theorem ls_parL {σ : St} {mt : Bool} {β ds : List D} {a : Addr} : ¬ Ls σ (parL mt β ds) a := fun ⟨i, es, ⟨e, o⟩, _⟩ => by
  unfold parL at e
  cases mt with
  | false =>
    rw [if_neg (by simp), List.getElem?_map] at e
    obtain ⟨d, _, q⟩ := mapS e
    cases q
    cases o
  | true =>
    rw [if_pos rfl] at e
    cases i with
    | zero => cases e; cases o
    | succ j =>
      rw [List.getElem?_cons_succ, List.getElem?_map] at e
      obtain ⟨d, _, q⟩ := mapS e
      cases q
      cases o
theorem bg_parL {σ : St} {mt : Bool} {β ds : List D} {a : Addr} (h : Bg σ (parL mt β ds) a) : mt = true ∧ σ[0]? = some (some (.ref a)) := by
  obtain ⟨i, es, ⟨e, eb⟩, e2⟩ := h
  unfold parL at e
  cases mt with
  | false =>
    rw [if_neg (by simp), List.getElem?_map] at e
    obtain ⟨d, _, q⟩ := mapS e
    cases q
    cases eb
  | true =>
    rw [if_pos rfl] at e
    cases i with
    | zero => exact ⟨rfl, e2⟩
    | succ j =>
      rw [List.getElem?_cons_succ, List.getElem?_map] at e
      obtain ⟨d, _, q⟩ := mapS e
      cases q
      cases eb
theorem ow_parL {σ : St} {mt : Bool} {β ds : List D} {a : Addr} (h : Ow σ (parL mt β ds) a) : mt = true ∧ σ[0]? = some (some (.ref a)) := by
  rcases h with h | h
  · exact (ls_parL h).elim
  · exact bg_parL h

section
variable {X : Cx} {k : Nat} {f : Addr} {fd : FuncData} {ps : List Str} {d : FD} {e : Expr} {es : List Expr} {x : Str} {p pos : Pos}
theorem run_fnG {sp : Sp} {pins : List (Addr × Obj)} {σ : St} {H : Hp} {s : Shared} {Q : VK} {us : List Value} {vs : List V} (F : FnG X.prog X.w X.K X.mg X.base k f fd ps sp) (hr : Room k X.A) (hgd : X.A.guards = some []) (hb : Binds X.K fd ps [])
    (I : Inv X pins σ H s) (r : Vals vs us) (h : sp vs H Q E0) : wpAny (model X.prog X.w) X.A (call (.ref f) us) (EP X pins σ Q) X.xe s := by
  have hl : us.length = ps.length := by rw [← r.length]; exact F.len _ _ _ _ h
  have hb2 := hb s us I.kIn (by rw [List.append_nil]; exact hl)
  rw [List.append_nil] at hb2
  refine wpAny_call (codeAny_mono (F.run X.A X.stack s H ⟨us, []⟩ us vs Q hr hgd I.env0 hb2 r h) fun res s2 hq => ?_)
  cases res with
  | error er => exact False.elim hq
  | ok fl =>
    cases fl with
    | ret u => exact I.after hq
    | next => exact False.elim hq
    | brk => exact False.elim hq
    | cont => exact False.elim hq
def tCl (sp : Sp) (t : TA) : TE := fun σ H Q => t σ H fun vs H1 => sp vs H1 Q E0
theorem e_call0 {sp : Sp} {t : TA} (F : FnG X.prog X.w X.K X.mg X.base k f fd ps sp) (hr : Room k X.A) (hgd : X.A.guards = some []) (hg : Gl X x) (hm : X.mg x = some (.ref f)) (hk : PySem.W.keepIn X.K (.ref f) = true) (hb : Binds X.K fd ps [])
    (ha : PA X (e :: es) t) (hdb : (x == ("__debug__" : Str)) = false) (he : starEach (e :: es) X.env = (false, eval e X.env) :: starEach es X.env) (hpl : (backTo pos (starEach es X.env)).any (·.1) = false) :
    PE X (.Call (.Name x p) (e :: es) [] pos) (tCl sp t) := by
  refine ⟨fun pins s σ H Q I h => wpAny_Call_Name_kw (ld_glob I hg hm ?_ hdb)⟩
  refine PySem.W.callWith_K (h₀ := X.base) I.ok.mod.kin hk (thn (ha.run pos pins s σ H _ I h) fun us s1 hq => ?_) he hpl
  obtain ⟨vs, H1, I1, r, q⟩ := hq
  exact ⟨I1.kIn, run_fnG F hr hgd hb I1 r q⟩
def fCall (d : FD) (fs : Fn (List D)) : Fn RR := fun ρ => (fs ρ).bind fun y => if d.mt = false ∧ y.1.length = d.np then (d.run [] y.1).bind fun z => some (z.1, y.2) else none
def fCallM (d : FD) (i : Nat) (fs : Fn (List D)) : Fn RR := fun ρ => if (items ρ i).isSome = true then (fs ρ).bind fun y => if d.mt = true ∧ y.1.length + 1 = d.np then (items y.2 i).bind fun β => (d.run β y.1).map fun z => (z.1, putItems y.2 i z.2) else none else none
theorem rel_par {K : PySem.W.Frag} {G H : Hp} {vs : List V} {ds : List D} (s : Same G H) (al : DpAll K G vs ds) : Rel K G H (vs.map some) (parL false [] ds) := by
  refine ⟨s, fun i t e => ?_, fun i j a ⟨t, e, o⟩ => ?_, ?_⟩
  · unfold parL at e
    rw [if_neg (by simp), List.getElem?_map] at e
    obtain ⟨d, e1, rfl⟩ := mapS e
    obtain ⟨v, h1, h2⟩ := dpsGet al e1
    exact ⟨v, by rw [List.getElem?_map, h1]; rfl, h2⟩
  · unfold parL at e
    rw [if_neg (by simp), List.getElem?_map] at e
    obtain ⟨d, e1, rfl⟩ := mapS e
    cases o
  · unfold parL
    rw [if_neg (by simp), List.length_map, List.length_map, dpsLen al]
theorem rel_parM {K : PySem.W.Frag} {G H : Hp} {q : Addr} {xs vs : List V} {β ds : List D} (s : Same G H) (g : G q = none) (hq : H q = some (.lst xs)) (bl : DpAll K G xs β) (al : DpAll K G vs ds) : Rel K G H ((.ref q :: vs).map some) (parL true β ds) := by
  have own : ∀ {i : Nat}, Own (parL true β ds) i → i = 0 := fun {i} ⟨t, e, o⟩ => by
    unfold parL at e
    rw [if_pos rfl] at e
    cases i with
    | zero => rfl
    | succ j =>
      rw [List.getElem?_cons_succ, List.getElem?_map] at e
      obtain ⟨d, e1, rfl⟩ := mapS e
      cases o
  refine ⟨s, fun i t e => ?_, fun i j a hi hj _ _ => (own hi).trans (own hj).symm, ?_⟩
  · unfold parL at e
    rw [if_pos rfl] at e
    cases i with
    | zero =>
      cases e
      exact ⟨q, xs, rfl, g, hq, bl⟩
    | succ j =>
      rw [List.getElem?_cons_succ, List.getElem?_map] at e
      obtain ⟨d, e1, rfl⟩ := mapS e
      obtain ⟨v, h1, h2⟩ := dpsGet al e1
      exact ⟨v, by rw [List.map_cons, List.getElem?_cons_succ, List.getElem?_map, h1]; rfl, h2⟩
  · unfold parL
    rw [if_pos rfl, List.length_map, List.length_cons, List.length_cons, List.length_map, dpsLen al]
theorem parL_mt {mt : Bool} {β ds : List D} (h : mt = false) : parL mt β ds = parL false [] ds := by
  subst h
  rfl
theorem call_ok {fs : Fn (List D)} {σ : St} {H : Hp} {Q : VK} (h : tD X.K (fCall d fs) σ H Q) : tCl (spD X.K d) (tFs X.K fs) σ H Q := by
  obtain ⟨G, ρ, r, ρ', R, q, kk⟩ := h
  obtain ⟨y, e1, q⟩ := bindS q
  by_cases hc : d.mt = false ∧ y.1.length = d.np
  · rw [if_pos hc] at q
    obtain ⟨z, e2, q⟩ := bindS q
    cases q
    refine ⟨G, ρ, y.1, y.2, R, e1, fun vs G1 H1 R1 S1 al => ⟨by rw [dpsLen al]; exact hc.2, G1, [], y.1, z.1, z.2, ?_, e2, fun v G' H' R2 S2 hv => ?_⟩⟩
    · rw [parL_mt hc.1]
      exact rel_par R1.sub al
    · rw [parL_mt hc.1] at S2 hv
      have no : ∀ a, ¬ Ow (vs.map some) (parL false [] y.1) a := fun a w => by
        have := (ow_parL w).1
        cases this
      have hh : Same H1 H' := fun a o e => S2.keep a o e (no a)
      have m : Made X.K G1 H1 v z.1 G' H' := by
        refine ⟨S2.gg, hh, R2.sub, fun a e => S2.gnew a e (no a), ?_⟩
        cases hz : z.1 with
        | va d' =>
          rw [hz] at hv
          exact hv
        | br j =>
          rw [hz] at hv
          exact hv.elim
        | ls ds' =>
          rw [hz] at hv
          obtain ⟨q', xs, rfl, g, e3, al3, n⟩ := hv
          refine ⟨q', xs, rfl, g, e3, al3, ?_⟩
          rcases n with n | n
          · exact n
          · exact (ls_parL n).elim
      exact kk v G' H' (pst_trans S1 (m.pst R1))
  · rw [if_neg hc] at q
    cases q
theorem callM_ok {i : Nat} {fs : Fn (List D)} {σ : St} {H : Hp} {Q : VK} (h : tD X.K (fCallM d i fs) σ H Q) : tCl (spD X.K d) (tCons (tVar i) (tFs X.K fs)) σ H Q := by
  obtain ⟨G, ρ, r, ρ', R, q, kk⟩ := h
  unfold fCallM at q
  by_cases hi : (items ρ i).isSome = true
  · rw [if_pos hi] at q
    obtain ⟨y, e1, q⟩ := bindS q
    by_cases hc : d.mt = true ∧ y.1.length + 1 = d.np
    · rw [if_pos hc] at q
      obtain ⟨β, e2, q⟩ := bindS q
      obtain ⟨z, e3, q⟩ := mapS q
      cases q
      obtain ⟨β0, e0⟩ := Option.isSome_iff_exists.mp hi
      obtain ⟨a, xs, e4, g4, e5, al, ow, o⟩ := items_ok R e0
      refine ⟨.ref a, e4, G, ρ, y.1, y.2, R, e1, fun vs G1 H1 R1 S1 al1 => ⟨by rw [List.length_cons, dpsLen al1]; exact hc.2, G1, β, y.1, z.1, z.2, ?_, e3, fun v G' H' R2 S2 hv => ?_⟩⟩
      · obtain ⟨a', xs1, e6, g6, e7, al7, ow7, o7⟩ := items_ok R1 e2
        rw [e4] at e6
        cases e6
        rw [hc.1]
        exact rel_parM R1.sub g6 e7 al7 al1
      · obtain ⟨a', xs1, e6, g6, e7, al7, ow7, o7⟩ := items_ok R1 e2
        rw [e4] at e6
        cases e6
        rw [hc.1] at R2 S2 hv
        have no : ∀ b, b ≠ a → ¬ Ow ((V.ref a :: vs).map some) (parL true β y.1) b := fun b hb w => by
          have := (ow_parL w).2
          cases this
          exact hb rfl
        obtain ⟨a2, xs2, e8, g8, e9, al9⟩ := R2.sl 0 (.bg z.2) rfl
        cases e8
        obtain ⟨s, hs, ho⟩ := id o7
        have hlt : i < y.2.length := (List.getElem?_eq_some_iff.mp hs).1
        have ep : putItems y.2 i z.2 = y.2.set i (sameKind s z.2) := by unfold putItems; rw [hs]
        have back : ∀ {j : Nat} {t : Sl}, (y.2.set i (sameKind s z.2))[j]? = some t → isOwn t = true → Own y.2 j := fun {j t} h h2 => by
          by_cases hj : i = j
          · subst hj
            exact o7.own
          · rw [List.getElem?_set_ne hj] at h
            exact ⟨t, h, h2⟩
        have R3 : Rel X.K G' H' σ (putItems y.2 i z.2) := by
          rw [ep]
          refine ⟨R2.sub, fun j t h => ?_, fun j l b ⟨t1, h1, o1⟩ ⟨t2, h2, o2⟩ => R1.apart j l b (back h1 o1) (back h2 o2), by rw [List.length_set]; exact R1.len⟩
          by_cases hj : i = j
          · subst hj
            rw [List.getElem?_set_self hlt] at h
            cases h
            cases s with
            | no => cases ho
            | va d => cases ho
            | ls es => exact ⟨a, xs2, e4, g8, e9, al9⟩
            | hd _ => cases ho
            | dc _ => cases ho
            | bd _ => cases ho
            | bg es => exact ⟨a, xs2, e4, g8, e9, al9⟩
          · rw [List.getElem?_set_ne hj] at h
            have qs := R1.sl j t h
            have own : ∀ es, isOwn t = true → Mine X.K G1 H1 σ[j]? es → Mine X.K G' H' σ[j]? es := fun es o2 ⟨b, ys, e10, g10, e11, al11⟩ => by
              have hb : b ≠ a := fun w => hj (R1.apart i j a o7.own ⟨t, h, o2⟩ e4 (by rw [w] at e10; exact e10))
              exact ⟨b, ys, e10, (S2.gnew b (by rw [e11]; simp) (no b hb)).trans g10, S2.keep b _ e11 (no b hb), dpsMono S2.gg al11⟩
            cases t with
            | no => trivial
            | va d => obtain ⟨u, e10, dp⟩ := qs; exact ⟨u, e10, dpMono S2.gg dp⟩
            | ls es => exact own es rfl qs
            | dc m =>
              obtain ⟨b, u, e10, g10, e11, al11⟩ := qs
              have hb : b ≠ a := fun w => hj (R1.apart i j a o7.own ⟨_, h, rfl⟩ e4 (by rw [w] at e10; exact e10))
              exact ⟨b, u, e10, (S2.gnew b (by rw [e11]; simp) (no b hb)).trans g10, S2.keep b _ e11 (no b hb), dmMono S2.gg al11⟩
            | bd m =>
              obtain ⟨b, u, e10, g10, e11, al11⟩ := qs
              have hb : b ≠ a := fun w => hj (R1.apart i j a o7.own ⟨_, h, rfl⟩ e4 (by rw [w] at e10; exact e10))
              exact ⟨b, u, e10, (S2.gnew b (by rw [e11]; simp) (no b hb)).trans g10, S2.keep b _ e11 (no b hb), dmMono S2.gg al11⟩
            | hd _ => exact qs
            | bg es => exact own es rfl qs
        have S3 : Stp σ y.2 G1 H1 σ (putItems y.2 i z.2) G' H' := by
          rw [ep]
          refine ⟨S2.gg, fun b o2 e n => S2.keep b o2 e (no b fun w => n (by rw [w]; exact ow7)), fun b e n => S2.gnew b e (no b fun w => n (by rw [w]; exact ow7)), fun b ⟨j, es, h1, h2⟩ => ?_, fun j es h hbg => ?_, S2.dom⟩
          · by_cases hj : i = j
            · subst hj
              rw [List.getElem?_set_self hlt] at h1
              cases s with
              | no => cases ho
              | va d => cases ho
              | hd _ => cases ho
              | dc _ => cases ho
              | bd _ => cases ho
              | bg es => cases h1.1; cases h1.2
              | ls es2 => exact .inl ⟨i, _, ⟨hs, rfl⟩, h2⟩
            · rw [List.getElem?_set_ne hj] at h1
              exact .inl ⟨j, es, h1, h2⟩
          · by_cases hj : i = j
            · subst hj
              rw [List.getElem?_set_self hlt] at h
              cases s with
              | no => cases ho
              | va d => cases ho
              | ls es => cases h; cases hbg
              | hd _ => cases ho
              | dc _ => cases ho
              | bd _ => cases ho
              | bg es2 => exact ⟨_, ⟨hs, rfl⟩, rfl⟩
            · rw [List.getElem?_set_ne hj] at h
              exact ⟨es, ⟨h, hbg⟩, rfl⟩
        have owD : ∀ {b : Addr}, Ow σ (putItems y.2 i z.2) b → H1 b ≠ none := fun {b} w => by
          rw [ep] at w
          obtain ⟨j, ⟨t, h1, h2⟩, h3⟩ := w.own
          exact R1.owH (Ow.of (back h1 h2) h3)
        refine kk v G' H' ⟨R3, S1.trans S3, ?_, ?_⟩
        · cases hz : z.1 with
          | va d' => rw [hz] at hv; exact hv
          | br j => rw [hz] at hv; exact hv.elim
          | ls ds' =>
            rw [hz] at hv
            obtain ⟨b, ys, rfl, g, e10, al10, n⟩ := hv
            rcases n with n | n
            · exact ⟨b, ys, rfl, g, e10, al10, fun w => owD w n⟩
            · exact (ls_parL n).elim
        · cases hz : z.1 with
          | va d' => trivial
          | br j => trivial
          | ls ds' =>
            rw [hz] at hv
            obtain ⟨b, ys, rfl, g, e10, al10, n⟩ := hv
            rcases n with n | n
            · intro c hcq
              cases hcq
              cases w : H b with
              | none => rfl
              | some o2 => exact absurd n (S1.dom b (by rw [w]; simp))
            · exact (ls_parL n).elim
    · rw [if_neg hc] at q
      cases q
  · rw [if_neg hi] at q
    cases q
theorem e_call {fs : Fn (List D)} (F : FnG X.prog X.w X.K X.mg X.base k f fd ps (spD X.K d)) (hr : Room k X.A) (hgd : X.A.guards = some []) (hg : Gl X x) (hm : X.mg x = some (.ref f)) (hk : PySem.W.keepIn X.K (.ref f) = true) (hb : Binds X.K fd ps [])
    (ha : PA X (e :: es) (tFs X.K fs)) (hdb : (x == ("__debug__" : Str)) = false) (he : starEach (e :: es) X.env = (false, eval e X.env) :: starEach es X.env) (hpl : (backTo pos (starEach es X.env)).any (·.1) = false) :
    PE X (.Call (.Name x p) (e :: es) [] pos) (tD X.K (fCall d fs)) :=
  weakE (e_call0 F hr hgd hg hm hk hb ha hdb he hpl) fun σ H Q h => call_ok h
theorem e_callM {i : Nat} {y : Str} {yp : Pos} {fs : Fn (List D)} (F : FnG X.prog X.w X.K X.mg X.base k f fd ps (spD X.K d)) (hr : Room k X.A) (hgd : X.A.guards = some []) (hg : Gl X x) (hm : X.mg x = some (.ref f)) (hk : PySem.W.keepIn X.K (.ref f) = true) (hb : Binds X.K fd ps [])
    (hN : X.N[i]? = some y) (hv : Vis X.env.scope y) (hd : (y == ("__debug__" : Str)) = false) (hcd : (y == ("__classdict__" : Str)) = false)
    (ha : PA X es (tFs X.K fs)) (hdb : (x == ("__debug__" : Str)) = false) (hpl : (backTo pos (starEach es X.env)).any (·.1) = false) :
    PE X (.Call (.Name x p) (.Name y yp :: es) [] pos) (tD X.K (fCallM d i fs)) :=
  weakE (e_call0 F hr hgd hg hm hk hb (pa_cons (pe_var hN hv hd hcd) ha rfl) hdb rfl hpl) fun σ H Q h => callM_ok h
end
end Den


set_option autoImplicit false
namespace Den
open PySem PySem.Spec L2

section
variable {P : Program} {w : World} {K : PySem.W.Frag} {mg : Str → Option Value} {base : Heap} {k : Nat} {f : Addr} {name qual : Str} {params : Arguments} {body : List Stmt} {scope : Scope} {dV kV doc pm cdv ct oc : Value} {an od : Option Addr} {osl : Array (Option Value)} {N ps : List Str}
theorem enter {A : Around} {outer : List Env} {s : Shared} {H : Hp} {args : Args} {us : List Value} {vs : List V} {Q : VK} {t : TS}
    (found : K.lookup f = some ⟨oc, od, .func (PySem.W.fnOf name qual params body scope dV kV doc pm an cdv ct), osl⟩) (coded : PySem.W.codeIn K cdv qual = true) (S : FnScope N ps scope)
    (room : Room (k + 1) A) (e0 : Env0 P w K mg base A outer s H) (bound : BindsTo s (PySem.W.fnOf name qual params body scope dV kV doc pm an cdv ct) args (ps.zip us)) (rel : Vals vs us) (many : vs.length = ps.length)
    (runs : PSs (cxOf CX0 P w K mg base N qual scope f cdv A outer s H E0) body t) (wish : t { nx := fun _ H' => Q .non H', rt := Q } (L2.start N vs) H) :
    codeAny (model P w) A (.call (.ref f) args) (CR CX0 outer P w H s Q E0) s := by
  have inK : K.In s.heap := e0.mod.kin.keeps fun b o z => (e0.bs b o z).1
  have free : s.heap.NoLimit := e0.mod.nolimit.keeps fun b o z => (e0.bs b o z).1
  have kinds : ∀ y ∈ ps.zip us, scope.names.lookup y.1 = some .local ∨ (scope.names.lookup y.1 = some .cell ∧ ((cellsFrom (s.heap.objs.size + 1) scope.names []).lookup y.1).isSome = true) := by
    rintro ⟨n, v⟩ hy
    exact (S.par n (List.of_mem_zip hy).1).imp id fun q => ⟨q, PySem.W.cellsFrom_some _ _ _ (.inl q)⟩
  refine codeAny_call_function room.depth (inK _ _ found) rfl S.co S.gen rfl (PySem.W.codeRec_of inK coded) (bound _ _ _ _ (wpAny_newFunctionEnv_cells S.kind kinds fun env he s1 x => ?_))
  subst he
  refine ⟨free.keeps x.toInCall.keep, codeAny_func (wpAny_mono (runs.run [] s1 (L2.start N vs) H _ (inv_start S room.hd e0 many rel x) wish) (fun fl s2 done => ?_) fun _ _ done => done)⟩
  cases fl with
  | ret u => exact let ⟨v, σ', H', J, rv, q⟩ := done; ⟨v, H', J.os, J.bare, J.base, J.hok, rv, q⟩
  | next => exact let ⟨σ', H', J, q⟩ := done; ⟨.non, H', J.os, J.bare, J.base, J.hok, rfl, q⟩
  | brk => exact let ⟨_, _, _, q⟩ := done; False.elim q
  | cont => exact let ⟨_, _, _, q⟩ := done; False.elim q
end
def bodyRun (mt : Bool) (more : Nat) (fb : FS) (β ds : List D) : Option (RR × List D) := (fb (parL mt β ds ++ List.replicate more .no)).bind fun y => (match y.1 with
    | .rt r => some r
    | .nx => some (.va .none)
    | _ => none).bind fun r => if mt then (match (y.2[0]? : Option Sl) with
      | some (Sl.bg β') => some (r, β')
      | _ => none) else some (r, [])
section
variable {K : PySem.W.Frag} {G G' H H' : Hp} {vs : List V} {mt : Bool} {β β' ds : List D} {m : Nat}
theorem get_more {ρ : Lo} {i : Nat} {s : Sl} (h : (ρ ++ List.replicate m .no)[i]? = some s) : ρ[i]? = some s ∨ s = .no := by
  by_cases hi : i < ρ.length
  · rw [List.getElem?_append_left hi] at h
    exact .inl h
  · rw [List.getElem?_append_right (by omega), List.getElem?_replicate] at h
    split at h
    · cases h
      exact .inr rfl
    · cases h
theorem own_more {ρ : Lo} {i : Nat} (h : Own (ρ ++ List.replicate m .no) i) : Own ρ i := by
  obtain ⟨s, e, o⟩ := h
  rcases get_more e with e | e
  · exact ⟨s, e, o⟩
  · rw [e] at o
    cases o
theorem st_more {ρ : Lo} {i : Nat} (R : ρ.length = vs.length) (hi : i < ρ.length) (n : Nat) : (vs.map some ++ List.replicate n (none : Option V))[i]? = (vs.map some)[i]? :=
  List.getElem?_append_left (by rw [List.length_map, ← R]; exact hi)
theorem rel_more {ρ : Lo} (R : Rel K G H (vs.map some) ρ) (m : Nat) : Rel K G H (vs.map some ++ List.replicate m none) (ρ ++ List.replicate m .no) := by
  have hl : ρ.length = vs.length := by rw [R.len, List.length_map]
  refine ⟨R.sub, fun i s e => ?_, fun i j a hi hj ei ej => ?_, by simp [R.len]⟩
  · rcases get_more e with e | e
    · have hi := (List.getElem?_eq_some_iff.mp e).1
      rw [st_more hl hi]
      exact R.sl i s e
    · rw [e]
      trivial
  · have oi := own_more hi
    have oj := own_more hj
    have li : i < ρ.length := let ⟨_, e, _⟩ := oi; (List.getElem?_eq_some_iff.mp e).1
    have lj : j < ρ.length := let ⟨_, e, _⟩ := oj; (List.getElem?_eq_some_iff.mp e).1
    rw [st_more hl li] at ei
    rw [st_more hl lj] at ej
    exact R.apart i j a oi oj ei ej
theorem parL_len : (parL mt β ds).length = ds.length + (if mt = true then 1 else 0) := by
  cases mt <;> simp [parL]
theorem no_ls {σ : St} {a : Addr} : ¬ Ls σ (parL mt β ds ++ List.replicate m .no) a := fun ⟨i, es, ⟨e, o⟩, e2⟩ => by
  rcases get_more e with e | e
  · exact ls_parL ⟨i, es, ⟨e, o⟩, e2⟩
  · cases e
    cases o
theorem own_par {i : Nat} (h : Own (parL mt β ds) i) : mt = true ∧ i = 0 := by
  obtain ⟨s, e, o⟩ := h
  unfold parL at e
  cases mt with
  | false =>
    rw [if_neg (by simp), List.getElem?_map] at e
    obtain ⟨d, _, rfl⟩ := mapS e
    cases o
  | true =>
    rw [if_pos rfl] at e
    cases i with
    | zero => exact ⟨rfl, rfl⟩
    | succ j =>
      rw [List.getElem?_cons_succ, List.getElem?_map] at e
      obtain ⟨d, _, rfl⟩ := mapS e
      cases o
theorem back_par {σ' : St} {ρ' : Lo} (R : Rel K G H (vs.map some) (parL mt β ds)) (R' : Rel K G' H' σ' ρ') (S : Stp (vs.map some ++ List.replicate m none) (parL mt β ds ++ List.replicate m .no) G H σ' ρ' G' H')
    (hb : mt = true → ρ'[0]? = some (.bg β')) : Rel K G' H' (vs.map some) (parL mt β' ds) ∧ Stp (vs.map some) (parL mt β ds) G H (vs.map some) (parL mt β' ds) G' H' := by
  have hl : (parL mt β ds).length = vs.length := by rw [R.len, List.length_map]
  have hl2 : (parL mt β' ds).length = vs.length := by rw [← hl, parL_len, parL_len]
  have ow2 : ∀ {a : Addr}, Ow (vs.map some ++ List.replicate m none) (parL mt β ds ++ List.replicate m .no) a → Ow (vs.map some) (parL mt β ds) a := fun {a} h => by
    obtain ⟨i, o, e⟩ := h.own
    have o2 := own_more o
    have li : i < (parL mt β ds).length := let ⟨_, e, _⟩ := o2; (List.getElem?_eq_some_iff.mp e).1
    rw [st_more hl li] at e
    exact Ow.of o2 e
  have slot0 : mt = true → Mine K G' H' (vs.map some)[0]? β' := fun h => by
    have e := hb h
    obtain ⟨d0, h1, h2⟩ := S.obg 0 _ e rfl
    have q := R'.sl 0 _ e
    rw [h2] at q
    have li : 0 < (parL mt β ds).length := by
      rw [parL_len, if_pos h]
      omega
    rw [st_more hl li] at q
    exact q
  refine ⟨⟨R'.sub, fun i s e => ?_, fun i j a hi hj _ _ => (own_par hi).2.trans (own_par hj).2.symm, by rw [hl2, List.length_map]⟩,
    ⟨S.gg, fun a o e n => S.keep a o e fun h => n (ow2 h), fun a e n => S.gnew a e fun h => n (ow2 h), fun a h => (ls_parL h).elim, fun i es e hbg => ?_, S.dom⟩⟩
  · cases mt with
    | false =>
      have q := R.sl i s e
      have e2 := e
      unfold parL at e2
      rw [if_neg (by simp), List.getElem?_map] at e2
      obtain ⟨d, _, rfl⟩ := mapS e2
      obtain ⟨v, e1, dp⟩ := q
      exact ⟨v, e1, dpMono S.gg dp⟩
    | true =>
      cases i with
      | zero =>
        cases e
        exact slot0 rfl
      | succ j =>
        have q := R.sl (j + 1) s e
        have e2 : (ds.map Sl.va)[j]? = some s := e
        rw [List.getElem?_map] at e2
        obtain ⟨d, _, rfl⟩ := mapS e2
        obtain ⟨v, e1, dp⟩ := q
        exact ⟨v, e1, dpMono S.gg dp⟩
  · have hi := own_par (i := i) ⟨_, e, by cases es <;> first | rfl | (cases hbg; done)⟩
    obtain ⟨h1, rfl⟩ := hi
    subst h1
    exact ⟨.bg β, ⟨rfl, rfl⟩, rfl⟩
end
section
variable {P : Program} {w : World} {K : PySem.W.Frag} {mg : Str → Option Value} {base : Heap} {k : Nat}
theorem fnG_of {x qual : Str} {st : Stmt} {f : Addr} {fd : FuncData} {N ps : List Str} {d : FD} {fb : FS} (F : Fun K x qual st f fd) (S : FnScope N ps (defScope st)) (hnp : d.np = ps.length)
    (hbody : ∀ (cdv : Value) (A : Around) (outer : List Env) (s : Shared) (H : Hp), Room k (A.deeper (PyProof.Rows.envOfC qual (defScope st) s.heap.objs.size f cdv)) → A.guards = some [] →
      PSs (cxOf CX0 P w K mg base N qual (defScope st) f cdv A outer s H E0).nox (defBody st) (tS K fb))
    (hrun : ∀ β ds z, d.run β ds = some z → bodyRun d.mt (N.length - ps.length) fb β ds = some z) : FnG P w K mg base (k + 1) f fd ps (spD K d) := by
  obtain ⟨oc, od, kV, doc, pm, an, cdv, ct, osl, rfl, lk, hcd⟩ := F.ex
  refine ⟨fun vs H Q E h => h.1.trans hnp, fun A outer s H args us vs Q hr hgd e0 hb r h => ?_⟩
  obtain ⟨hlen, G, β, ds, rr, β', R, e1, kk⟩ := h
  refine enter lk hcd S hr e0 hb r (hlen.trans hnp) (hbody cdv A outer s H (hr.deeper _) hgd).nox ?_
  have e2 := hrun β ds _ e1
  obtain ⟨y, e3, e2⟩ := bindS e2
  obtain ⟨r2, e4, e2⟩ := bindS e2
  have hst : L2.start N vs = vs.map some ++ List.replicate (N.length - ps.length) none := by
    unfold L2.start
    rw [hlen, hnp]
  rw [hst]
  refine ⟨G, _, y.1, y.2, rel_more R _, e3, fun σ' G' H' R' S' => ?_⟩
  have hbg : r2 = rr ∧ (d.mt = true → y.2[0]? = some (.bg β')) := by
    by_cases hm : d.mt = true
    · rw [if_pos hm] at e2
      split at e2
      · rename_i b hb2
        cases e2
        exact ⟨rfl, fun _ => hb2⟩
      · cases e2
    · rw [if_neg hm] at e2
      cases e2
      exact ⟨rfl, fun z => absurd z hm⟩
  obtain ⟨rfl, hbg⟩ := hbg
  obtain ⟨R2, S2⟩ := back_par R R' S' hbg
  cases hy : y.1 with
  | bk => rw [hy] at e4; cases e4
  | ct => rw [hy] at e4; cases e4
  | nx =>
    rw [hy] at e4
    cases e4
    exact kk _ G' H' R2 S2 Dp.non
  | rt q =>
    rw [hy] at e4
    cases e4
    intro v hv
    refine kk v G' H' R2 S2 ?_
    cases r2 with
    | va d' => exact hv
    | br j => exact hv
    | ls es =>
      obtain ⟨p, xs, a1, a2, a3, a4, a5⟩ := hv
      rcases a5 with a5 | a5
      · exact ⟨p, xs, a1, a2, a3, a4, .inl a5⟩
      · exact (no_ls a5).elim
end
end Den


set_option autoImplicit false
namespace Den
open PySem PySem.Spec L2

def entryH (K : PySem.W.Frag) (a : Addr) (o : Obj) (xs : List V) : Hp := fun b => if b = a ∧ K.lookup a = none then some (.frz o (.lst xs)) else none
theorem dps_ints {K : PySem.W.Frag} {G : Hp} : ∀ ns : List Int, DpAll K G (ns.map V.int) (ns.map PyData.int)
  | [] => .nil
  | n :: ns => .cons (.int n) (dps_ints ns)
theorem law_run {P : Program} {w : World} {K : PySem.W.Frag} {mg mb : Str → Option Value} {k : Nat} {fa a : Addr} {fd : FuncData} {x : Str} {d : FD} {s : Shared} {vs : List Value} {ns : List Int}
    (inK : K.In s.heap) (glob : s.heap.Ns mainGlobals mg) (blt : s.heap.Ns builtinsNs mb) (same : ∀ x : Str, x ≠ "__name__" → mb x = bootBuiltins x) (free : s.heap.NoLimit) (bare : s.gens = #[])
    (ha : s.heap.get? a = some { cls := .type "list", data := .seq vs.toArray }) (hi : PyProof.Rows.IntsAre vs ns) (hl : ns.length ≤ sizeLine) (hr : Room k callerA)
    (F : ∀ base : Heap, K.In base → base.Ns mainGlobals mg → FnG P w K mg base k fa fd [x] (spD K d)) (hbind : ∀ (s : Shared) (u : Value), BindsTo s fd ⟨[u], []⟩ [(x, u)])
    (hmt : d.mt = false) (hnp : d.np = 1) (hrun : d.run [] [.list (ns.map PyData.int)] = some (.va (.bool true), [])) :
    codeAny (model P w) callerA (.call (.ref fa) ⟨[.ref a], []⟩) (fun r s' => r = .ok (.ret (.bool true)) ∧ OldK s.heap s'.heap ∧ s'.os = s.os ∧ PyProof.Rows.AllBare s'.gens) s := by
  have rv : Vals (ns.map V.int) vs := L2.vals_ints hi
  have many := hi.length
  generalize hobj : ({ cls := .type "list", data := .seq vs.toArray } : Obj) = ob at ha
  have lk : ∀ {b : Addr} {u : HO}, entryH K a ob (ns.map V.int) b = some u → b = a ∧ K.lookup a = none ∧ u = .frz ob (.lst (ns.map V.int)) := fun {b u} e => by
    unfold entryH at e
    split at e
    · rename_i h
      cases e
      exact ⟨h.1, h.2, rfl⟩
    · cases e
  have ok : HOk P w (entryH K a ob (ns.map V.int)) s.heap := fun b u e => by
    obtain ⟨rfl, _, rfl⟩ := lk e
    exact ⟨ha, by rw [List.length_map]; exact hl, vs, _, rv, by rw [ha, ← hobj]⟩
  have keepH : ∀ {b : Addr} {o : Obj}, s.heap.get? b = some o → entryH K a ob (ns.map V.int) b = none → (hidT s.heap (entryH K a ob (ns.map V.int))).get? b = some o := fun e n => hidT_get e n
  have nsH : ∀ {b : Addr} {m : Str → Option Value}, s.heap.Ns b m → (hidT s.heap (entryH K a ob (ns.map V.int))).Ns b m := fun {b m} ⟨o, es, ep, e, dd, r⟩ => by
    refine ⟨o, es, ep, keepH e ?_, dd, r⟩
    cases q : entryH K a ob (ns.map V.int) b with
    | none => rfl
    | some u =>
      obtain ⟨rfl, _, _⟩ := lk q
      rw [ha] at e
      cases e
      rw [← hobj] at dd
      cases dd
  have kH : K.In (hidT s.heap (entryH K a ob (ns.map V.int))) := fun b o e => keepH (inK b o e) (by
    cases q : entryH K a ob (ns.map V.int) b with
    | none => rfl
    | some u =>
      obtain ⟨rfl, n, _⟩ := lk q
      rw [n] at e
      cases e)
  have md : Mod K mg (hidT s.heap (entryH K a ob (ns.map V.int))) := ⟨kH, nsH glob, ⟨mb, nsH blt, same⟩, let ⟨mc, h1, h2⟩ := free; ⟨mc, nsH h1, h2⟩⟩
  have e0 : Env0 P w K mg (hidT s.heap (entryH K a ob (ns.map V.int))) callerA [] s (entryH K a ob (ns.map V.int)) :=
    ⟨rfl, md, fun b o e => of_hidT e, Nat.le_of_eq (hidT_size _ _), trivial, (fun b hb => by cases hb), ok, .of_eq bare⟩
  have sq : SqL K (entryH K a ob (ns.map V.int)) a (ns.map V.int) := by
    cases hk : K.lookup a with
    | none => exact .inl (.inr ⟨ob, if_pos ⟨rfl, hk⟩⟩)
    | some o =>
      have e := inK a o hk
      rw [ha] at e
      cases e
      rw [← hobj]
      exact .inr ⟨_, vs.toArray, _, hk.trans (by rw [← hobj]), rfl, rfl, rfl, by rw [List.size_toArray, many]; exact hl, rv⟩
  have wish : spD K d [.ref a] (entryH K a ob (ns.map V.int)) (fun v _ => v = .bl true) E0 := by
    refine ⟨hnp.symm, entryH K a ob (ns.map V.int), [], [.list (ns.map PyData.int)], _, _, ?_, hrun, fun v G' H' _ _ hv => ?_⟩
    · rw [hmt]
      exact rel_par (vs := [.ref a]) (Same.refl _) (.cons (.lst sq (dps_ints ns)) .nil)
    · have hv2 : Dp K G' v (.bool true) := hv
      cases hv2
      rfl
  refine codeAny_mono ((F _ kH (nsH glob)).run callerA [] s _ ⟨[.ref a], []⟩ [.ref a] [.ref a] _ hr rfl e0 (hbind s (.ref a)) (.cons rfl .nil) wish) fun r s' h => ?_
  cases r with
  | error er => exact False.elim h
  | ok fl =>
    cases fl with
    | next => exact False.elim h
    | brk => exact False.elim h
    | cont => exact False.elim h
    | ret u =>
      obtain ⟨v, H', os, bare', un, ok', rr, q⟩ := h
      have q2 : v = .bl true := q
      subst q2
      obtain rfl : u = Value.bool true := rr
      refine ⟨rfl, OldK.of_keep fun b o e => ?_, os, bare'⟩
      cases q3 : entryH K a ob (ns.map V.int) b with
      | none => exact un.keep b o e q3 (fun z => by cases z) (fun z => by cases z)
      | some u =>
        obtain ⟨rfl, n, rfl⟩ := lk q3
        obtain ⟨e1, _⟩ := ok' _ _ (un.frzs _ _ _ q3)
        rw [ha] at e
        cases e
        exact e1
theorem law_walk {l : PySem.W.OpenLaw} {n k : Nat} {q : Program} {loose : List Str} {XP : (Str → Option Value) → Heap → Prop} {YP : World → Heap → Prop} {d : DefRec} {K : Params → PySem.W.Frag} {x : Str} {fdn : FD}
    (hn : l.most = some n) (hn2 : n ≤ sizeLine) (hdf : d.params.defaults = []) (hr : Room k callerA)
    (hY : ∀ (w : World) (h : Heap), YP w h → (K w.params).In h)
    (F : ∀ (w : World) (mg : Str → Option Value) (fa : Addr) (h : Heap), (K w.params).In h → h.Ns mainGlobals mg → mg d.name = some (.ref fa) →
      ∃ fd : FuncData, (∀ (s : Shared) (u : Value), BindsTo s fd ⟨[u], []⟩ [(x, u)]) ∧
        ∀ base : Heap, (K w.params).In base → base.Ns mainGlobals mg → FnG l.prog w (K w.params) mg base k fa fd [x] (spD (K w.params) fdn))
    (hmt : fdn.mt = false) (hnp : fdn.np = 1) (hrun : ∀ ns : List Int, ns.length ≤ n → fdn.run [] [.list (ns.map PyData.int)] = some (.va (.bool true), [])) :
    PySem.W.WalkO q loose XP YP l.row.toRowW d [] (fun f vs => PySem.call f vs) := by
  refine Att.attach_call hn hdf fun w s₀ s₁ mg mb fa o pm cd doc a vs ns G Y ho hd hcd hmg hobj hints hlen hg => ?_
  have inK := hY w _ Y
  obtain ⟨fd, hb, hF⟩ := F w mg fa _ inK G.T.g hmg
  exact law_run inK G.T.g G.T.b G.T.builtins G.T.nolimit hg hobj hints (Nat.le_trans hlen hn2) hr hF hb hmt hnp (hrun ns hlen)
end Den


set_option autoImplicit false
namespace Den
open PySem PySem.Spec L2
section
variable {prog : Program} {w : World} {A : Around} {E : Value → Shared → Prop} {s : Shared} {β : Type} {vs : List Value} {bs : List β} {enc : β → PyData} {R : Value → β → Prop}
theorem tup_sorted {t : Addr} {o : Obj} {n : Nat} {Q : Value → Shared → Prop} (ho : s.heap.get? t = some o) (hc : o.cls = .type "tuple") (hd : o.data = .seq vs.toArray n) (e : PySem.W.EachIs R vs bs)
    (er : PySem.W.EachIs (fun v b => ∃ as, Reads s.heap v (enc b) as) vs bs) (hal : PySem.W.AllAlike (bs.map enc)) (hk : PySem.W.Sortable (bs.map enc)) (hL : bs.length ≤ sizeLine) (hu : ∀ b, b ∈ bs → A.units + 2 + (enc b).depth < cLine)
    (h : ∀ (h1 : Heap) (out : List Value), (∀ a u, s.heap.get? a = some u → h1.get? a = some u) → out.length = bs.length → PySem.W.EachIs R out (bs.mergeSort (PySem.W.dataLe false enc)) →
      Q (.ref h1.objs.size) { s with heap := PyProof.Rows.sortedHeap (h1.push (PyProof.Rows.seqObj "list" vs.toArray 0)) h1.objs.size vs out.toArray }) :
    wpAny (model prog w) A (call (.builtin "sorted") [.ref t]) Q E s := by
  have hv : vs.length ≤ sizeLine := by rw [e.length]; exact hL
  refine PyProof.Rows.call_function_entry_kw PyProof.Rows.kind_sorted PyProof.Rows.plain_sorted PyProof.Rows.entry_sorted (PyProof.Rows.args_sorted1 (.ref t)) ?_
  show wpAny _ _ (checkCount "sorted" 1 1 _ >>= _) _ _ _
  refine wpAny_bind (wpAny_pure (wpAny_bind (wpAny_collect_seq t (T := "tuple") (.inr rfl) ho hc hd (fun h1 k1 => ?_) (by simpa using hv))))
  have el : vs.toArray.toList = vs := by simp
  rw [el]
  refine wpAny_bind (wpAny_newList ?_)
  have hn : (h1.push (PyProof.Rows.seqObj "list" vs.toArray 0)).get? h1.objs.size = some (PyProof.Rows.seqObj "list" vs.toArray 0) := Heap.get?_push_size _ rfl
  refine wpAny_bind (wpAny_holding (PyProof.Rows.wpAny_call_entry_kw PyProof.Rows.slot_list_sort ⟨_, hn, rfl⟩ PyProof.Rows.entry_list_sort ?body (PyProof.Rows.args_list_sort _)))
  case body =>
    have kept : ∀ a u, s.heap.get? a = some u → (PySem.W.sortingHeap (h1.push (PyProof.Rows.seqObj "list" vs.toArray 0)) h1.objs.size vs).get? a = some u := fun a u z =>
      PySem.W.sortingHeap_old (Nat.ne_of_lt (Heap.lt_size (k1 a u z))) (Heap.get?_push_of_some _ (k1 a u z))
    have er2 : PySem.W.EachIs (fun v b => ∃ as, Reads (PySem.W.sortingHeap (h1.push (PyProof.Rows.seqObj "list" vs.toArray 0)) h1.objs.size vs) v (enc b) as) vs bs := er.mono fun _ _ ⟨as, r⟩ => ⟨as, PyProof.Rows.Reads.keeps kept r⟩
    refine wpAny_mono (PySem.W.list_sort_vals (κ := PySem.W.dataKind (PySem.W.sortingHeap (h1.push (PyProof.Rows.seqObj "list" vs.toArray 0)) h1.objs.size vs) (bs.map enc)) (s := { s with heap := h1.push (PyProof.Rows.seqObj "list" vs.toArray 0) }) (n := 0) hn
      (PySem.W.SortsAt.data (s := { s with heap := PySem.W.sortingHeap (h1.push (PyProof.Rows.seqObj "list" vs.toArray 0)) h1.objs.size vs }) (PySem.W.each_map (R := fun v d => ∃ as, Reads _ v d as) enc er2) hal hk (PySem.W.bound_map hu)) hv
      (P := fun f s2 => f = .done (.ret .none) ∧ Q (.ref h1.objs.size) s2) ⟨rfl, h h1 _ k1 (by rw [PySem.W.sortVals_length false rfl]; exact e.length) (PySem.W.sortVals_data false e er2 hal)⟩) (fun f s2 q => ?_) fun _ _ z => z
    obtain ⟨rfl, q⟩ := q
    exact ⟨_, rfl, wpAny_pure ⟨_, rfl, q⟩⟩
end
end Den


set_option autoImplicit false
namespace Den
open PySem PySem.Spec L2

section
variable {X : Cx} {a e : Expr} {pos p2 : Pos} {f : Fn RR}
def cutD {α : Type} (xs : List α) (lo hi : Option Int) : List α := (xs.drop (HT.sIx xs.length 0 lo)).take (HT.sIx xs.length xs.length hi - HT.sIx xs.length 0 lo)
theorem cut_dps {K : PySem.W.Frag} {G : Hp} {xs : List V} {ds : List D} (al : DpAll K G xs ds) (lo hi : Option Int) : DpAll K G (cutV xs lo hi) (cutD ds lo hi) := by
  unfold cutV cutD
  rw [dpsLen al]
  exact dpsTake _ (dpsDrop _ al)
def φSl : D → Option Int → Option Int → Option RR
  | .list ds, lo, hi => some (.ls (cutD ds lo hi))
  | .tuple ds, lo, hi => some (.va (.tuple (cutD ds lo hi)))
  | .str z, lo, hi => if z.length ≤ lim then some (.va (.str (cutS z lo hi))) else none
  | _, _, _ => none
def rSlD (K : PySem.W.Frag) : V → Option Int → Option Int → Hp → VK → Prop := fun x lo hi H Q => ∃ (G : Hp) (d : D) (r : RR), Same G H ∧ ViewR K G H x d ∧ φSl d lo hi = some r ∧ ∀ v G' H', Made K G H v r G' H' → Q v H'
theorem cut_whole {α : Type} {xs : List α} {lo hi : Option Int} (h : HT.sIx xs.length 0 lo = 0 ∧ HT.sIx xs.length xs.length hi = xs.length) : cutD xs lo hi = xs := by
  unfold cutD
  rw [h.1, h.2]
  simp
theorem o_sl : L2.SlR X (rSlD X.K) := by
  intro pins s σ H x v vl vu lo hi sl Q I rx hs pl pu h
  obtain ⟨G, d, r, sg, hx, hφ, k⟩ := h
  unfold φSl at hφ
  split at hφ
  · cases hφ
    obtain ⟨b, xs, rfl, ha, al⟩ := view_list sg hx
    exact sl_list pins s σ H _ v vl vu lo hi sl Q I rx hs pl pu ⟨b, xs, rfl, ha, fun p hp => k _ _ _ (.ls sg hp (cut_dps al lo hi))⟩
  · cases hφ
    have hg := view_tupG hx
    obtain ⟨b, xs, rfl, ha, al⟩ := view_tup sg hx
    refine sl_tupA pins s σ H _ v vl vu lo hi sl Q I rx hs pl pu ⟨b, xs, rfl, ha, fun hw => ?_, fun _ p hp => k _ _ _ (.tup sg hp (cut_dps al lo hi))⟩
    rw [dpsLen al] at hw
    rw [cut_whole hw] at k
    exact k _ G H (.va sg hg)
  · obtain ⟨hc, rfl⟩ := iteS hφ
    exact sl_str pins s σ H _ v vl vu lo hi sl Q I rx hs pl pu ⟨_, view_str hx, lim_le hc, k _ G H (made_str sg _)⟩
  · cases hφ
def asInt : RR → Lo → Option Int := fun r ρ => match vw r ρ with
  | some (.int i) => some i
  | _ => none
def fPt (o : Option (Fn RR)) : Fn (Option Int) := fun ρ => match o with
  | none => some (none, ρ)
  | some f => (fV f ρ).bind fun x => (asInt x.1 x.2).map fun i => (some i, x.2)
def tPt (K : PySem.W.Frag) (f : Fn (Option Int)) : TO := fun σ H Q => ∃ G ρ o ρ', Rel K G H σ ρ ∧ f ρ = some (o, ρ') ∧ ∀ G' H', Rel K G' H' σ ρ' → Stp σ ρ G H σ ρ' G' H' → Q o H'
theorem weakO {o : Option Expr} {t t' : TO} (h : PO X o t) (w : ∀ σ H Q, t' σ H Q → t σ H Q) : PO X o t' := ⟨fun pins s σ H Q I q => h.run pins s σ H Q I (w σ H Q q)⟩
theorem p_none : PO X none (tPt X.K (fPt none)) := weakO po_none fun σ H Q ⟨G, ρ, o, ρ', R, q, k⟩ => by
  cases q
  exact k G H R .refl
theorem asInt_ok {K : PySem.W.Frag} {G H : Hp} {σ : St} {ρ : Lo} {v : V} {r : RR} {i : Int} (R : Rel K G H σ ρ) (h : ResV K G σ v r) (e : asInt r ρ = some i) : v = .int i := by
  unfold asInt at e
  cases z : vw r ρ with
  | none => rw [z] at e; cases e
  | some d =>
    rw [z] at e
    cases d with
    | int j =>
      cases e
      exact view_int (vw_view R h z)
    | _ => cases e
theorem p_some (h : PE X a (tD X.K f)) : PO X (some a) (tPt X.K (fPt (some f))) := weakO (po_some (to_V h)) fun σ H Q ⟨G, ρ, o, ρ', R, q, k⟩ => by
  obtain ⟨x, e1, q⟩ := bindS q
  obtain ⟨i, e2, q⟩ := mapS q
  cases q
  exact ⟨G, ρ, x.1, x.2, R, e1, fun v G1 H1 R1 S1 d1 => ⟨i, asInt_ok R1 d1 e2, k G1 H1 R1 S1⟩⟩
def fSl (f : Fn RR) (lo hi : Option (Fn RR)) : Fn RR := fun ρ => (fV f ρ).bind fun x => (fPt lo x.2).bind fun l => (fPt hi l.2).bind fun u => (vw x.1 u.2).bind fun d => (φSl d l.1 u.1).map fun r => (r, u.2)
theorem e_sl {lo hi : Option Expr} {fl fh : Option (Fn RR)} (he : PE X e (tD X.K f)) (hl : PO X lo (tPt X.K (fPt fl))) (hu : PO X hi (tPt X.K (fPt fh))) : PE X (.Subscript e (.Slice lo hi none p2) pos) (tD X.K (fSl f fl fh)) :=
  weakE (pe_slice o_sl (to_V he) hl hu) fun σ H Q ⟨G, ρ, r, ρ', R, q, k⟩ => by
    obtain ⟨x, e1, q⟩ := bindS q
    obtain ⟨l, e2, q⟩ := bindS q
    obtain ⟨u, e3, q⟩ := bindS q
    obtain ⟨d, e4, q⟩ := bindS q
    obtain ⟨r', e5, q⟩ := mapS q
    cases q
    exact ⟨G, ρ, x.1, x.2, R, e1, fun v G1 H1 R1 S1 d1 => ⟨G1, x.2, l.1, l.2, R1, e2, fun G2 H2 R2 S2 => ⟨G2, l.2, u.1, u.2, R2, e3, fun G3 H3 R3 S3 =>
      ⟨G3, d, r, R3.sub, vw_view R3 (resV_mono (S2.gg.trans S3.gg) d1) e4, e5, fun v' G' H' m => k v' G' H' (pst_trans ((S1.trans S2).trans S3) (m.pst R3))⟩⟩⟩⟩

def fSetIx (i : Nat) (fi fe : Fn RR) : FS := fun ρ => (fF fe ρ).bind fun y => if (items y.2 i).isSome = true then (fV fi y.2).bind fun x => (asInt x.1 x.2).bind fun j => (items x.2 i).bind fun ds => (ixN ds.length j).map fun n => (.nx, putItems x.2 i (ds.set n y.1)) else none
theorem s_setIx {i : Nat} {x : Str} {xp sp : Pos} {fi fe : Fn RR} (hN : X.N[i]? = some x) (hv : Vis X.env.scope x) (hd : (x == ("__debug__" : Str)) = false) (hcd : (x == ("__classdict__" : Str)) = false) (hi : PE X a (tD X.K fi)) (he : PE X e (tD X.K fe))
    (ha : ∀ v, assign (.Subscript (.Name x xp) a sp) X.env v = (do
      let ov ← holding [v] (eval (.Name x xp) X.env)
      let iv ← holding [v, ov] (eval a X.env)
      standAt sp
      holding [v, ov, iv] (setItem ov iv v)
      release [v, ov, iv] []))
    (hs : swapsWithSole [.Subscript (.Name x xp) a sp] e pos.line X.env = pure false) (hw : swappedStores [.Subscript (.Name x xp) a sp] e X.env = pure none)
    (h1 : (assignEach [.Subscript (.Name x xp) a sp] X.env).map (·.2) = [assign (.Subscript (.Name x xp) a sp) X.env]) : PS X (.Assign [.Subscript (.Name x xp) a sp] e pos) (tS X.K (fSetIx i fi fe)) :=
  weakS (ps_asg (to_F he) (pg_sub (pe_var hN hv hd hcd) (to_V hi) set_list ha) hs hw h1) fun D σ H ⟨G, ρ, o, ρ', R, q, k⟩ => by
    obtain ⟨y, e1, q⟩ := bindS q
    by_cases hsome : (items y.2 i).isSome = true
    · rw [if_pos hsome] at q
      obtain ⟨z, e2, q⟩ := bindS q
      obtain ⟨j, e3, q⟩ := bindS q
      obtain ⟨ds, e4, q⟩ := bindS q
      obtain ⟨n, e5, q⟩ := mapS q
      cases q
      refine ⟨G, ρ, y.1, y.2, R, e1, fun v G1 H1 R1 S1 dv => ?_⟩
      obtain ⟨ds0, e0⟩ := Option.isSome_iff_exists.mp hsome
      obtain ⟨p, xs, e6, g6, e7, al7, ow7, o7⟩ := items_ok R1 e0
      refine ⟨.ref p, e6, G1, y.2, z.1, z.2, R1, e2, fun w G2 H2 R2 S2 dw => ?_⟩
      obtain ⟨p', xs2, ep, e8, al8, o8⟩ := own_stays (v := .ref p) R2 e6 e4
      cases ep
      refine ⟨p, xs2, j, n, rfl, asInt_ok R2 dw e3, e8, by rw [dpsLen al8]; exact e5, ?_⟩
      obtain ⟨R3, S3⟩ := put_ok R2 o8 e6 (dpsSet n al8 (dpMono S2.gg dv))
      exact k σ G2 _ R3 ((S1.trans S2).trans S3)
    · rw [if_neg hsome] at q
      cases q
def rGetL : V → V → Hp → VK → Prop := fun o i H Q => ∃ p xs k v, o = .ref p ∧ i = .int k ∧ H p = some (.lst xs) ∧ 0 ≤ k ∧ xs[k.toNat]? = some v ∧ Q v H
theorem get_list : PGet X rGetL := by
  intro pins s σ H o i ov iv Q I ro ri h
  obtain ⟨p, xs, k, v, rfl, rfl, hp, h0, hv, q⟩ := h
  cases ro
  obtain ⟨t, rfl⟩ := ri
  obtain ⟨its, n, r, ho, hz⟩ := I.lst hp
  obtain ⟨u, hu, ru⟩ := r.get hv
  have hl := r.length
  have hn := line63
  have hk : k.toNat < xs.length := (List.getElem?_eq_some_iff.mp hv).1
  exact wpAny_getItem_list ⟨_, ho, rfl, n, rfl⟩ h0 (by omega) (by rw [List.getElem?_toArray]; exact hu) ⟨v, H, I, ru, q⟩
def fAugIx (i : Nat) (fi fe : Fn RR) : FS := fun ρ => if (items ρ i).isSome = true then (fV fi ρ).bind fun x => (asInt x.1 x.2).bind fun j => (items x.2 i).bind fun ds => (fV fe x.2).bind fun y => (asInt y.1 y.2).bind fun m => (items y.2 i).bind fun es =>
  match ds[j.toNat]? with
  | some (.int n) => if 0 ≤ j then (ixN es.length j).map fun q => (.nx, putItems y.2 i (es.set q (.int (n + m)))) else none
  | _ => none else none
theorem s_augIx {i : Nat} {x : Str} {xp sp : Pos} {fi fe : Fn RR} (hN : X.N[i]? = some x) (hv : Vis X.env.scope x) (hd : (x == ("__debug__" : Str)) = false) (hcd : (x == ("__classdict__" : Str)) = false) (hi : PE X a (tD X.K fi)) (he : PE X e (tD X.K fe))
    (ha : ∀ ov iv new, augStore a ov iv new = (do holding [new, ov, iv] (setItem ov iv new); release [new, ov, iv] []; pure .next)) : PS X (.AugAssign (.Subscript (.Name x xp) a sp) .Add e pos) (tS X.K (fAugIx i fi fe)) :=
  weakS (ps_augS (pe_var hN hv hd hcd) (to_V hi) get_list (to_V he) ip_add set_list ha) fun D σ H ⟨G, ρ, o, ρ', R, q, k⟩ => by
    unfold fAugIx at q
    by_cases hsome : (items ρ i).isSome = true
    · rw [if_pos hsome] at q
      obtain ⟨z, e2, q⟩ := bindS q
      obtain ⟨j, e3, q⟩ := bindS q
      obtain ⟨ds, e4, q⟩ := bindS q
      obtain ⟨y, e5, q⟩ := bindS q
      obtain ⟨m, e6, q⟩ := bindS q
      obtain ⟨es, e7, q⟩ := bindS q
      split at q
      · rename_i n hn
        by_cases h0 : 0 ≤ j
        · rw [if_pos h0] at q
          obtain ⟨qq, e8, q⟩ := mapS q
          cases q
          obtain ⟨ds0, e0⟩ := Option.isSome_iff_exists.mp hsome
          obtain ⟨p, xs, e9, g9, e10, al10, ow10, o10⟩ := items_ok R e0
          refine ⟨.ref p, e9, G, ρ, z.1, z.2, R, e2, fun w G2 H2 R2 S2 dw => ?_⟩
          obtain ⟨p', xs2, ep, e11, al11, o11⟩ := own_stays (v := .ref p) R2 e9 e4
          cases ep
          obtain ⟨v, hv1, hv2⟩ := dpsGet al11 hn
          cases hv2
          refine ⟨p, xs2, j, _, rfl, asInt_ok R2 dw e3, e11, h0, hv1, G2, z.2, y.1, y.2, R2, e5, fun u G3 H3 R3 S3 du => ?_⟩
          obtain ⟨p', xs3, ep, e12, al12, o12⟩ := own_stays (v := .ref p) R3 e9 e7
          cases ep
          refine ⟨n, m, rfl, asInt_ok R3 du e6, p, xs3, j, qq, rfl, asInt_ok R2 dw e3, e12, by rw [dpsLen al12]; exact e8, ?_⟩
          obtain ⟨R4, S4⟩ := put_ok R3 o12 e9 (dpsSet qq al12 (.int (n + m)))
          exact k σ G3 _ R4 ((S2.trans S3).trans S4)
        · rw [if_neg h0] at q
          cases q
      · cases q
    · rw [if_neg hsome] at q
      cases q
def fAug (i : Nat) (g : Int → Int → Int) (fe : Fn RR) : FS := fun ρ => match ρ[i]? with
  | some (.va (.int n)) => (fV fe ρ).bind fun y => (asInt y.1 y.2).bind fun m => if notBg y.2 i = true then some (.nx, y.2.set i (.va (.int (g n m)))) else none
  | _ => none
theorem s_aug {i : Nat} {x : Str} {xp : Pos} {op : Operator} {g : Int → Int → Int} {fe : Fn RR} (hN : X.N.Nodup) (hi : X.N[i]? = some x) (hx : Loc X.env.scope x) (he : PE X e (tD X.K fe)) (ho : PIp X op (ipI g)) (hf : X.fn x = true ∨ X.env.scope.names.lookup x = some .local) :
    PS X (.AugAssign (.Name x xp) op e pos) (tS X.K (fAug i g fe)) :=
  weakS (ps_aug hN hi hx (to_V he) ho hf) fun D σ H ⟨G, ρ, o, ρ', R, q, k⟩ => by
    unfold fAug at q
    split at q
    · rename_i n hn
      obtain ⟨y, e5, q⟩ := bindS q
      obtain ⟨m, e6, q⟩ := bindS q
      obtain ⟨hb, q⟩ := iteS q
      cases q
      obtain ⟨v, e1, dv⟩ := R.sl i _ hn
      cases dv
      refine ⟨_, e1, G, ρ, y.1, y.2, R, e5, fun u G3 H3 R3 S3 du => ⟨n, m, rfl, asInt_ok R3 du e6, ?_⟩⟩
      exact k _ G3 H3 (rel_set (r := .va (.int (g n m))) R3 (.int _) (by intro j; simp)) (stp_set (r := .va (.int (g n m))) S3 hb trivial)
    · cases q

def alikes (ds : List D) : Bool := ds.all fun d => ds.all fun e => PySem.W.alike d e
def netup : D → Bool
  | .tuple (_ :: _) => true
  | _ => false
def plainKey : D → Bool
  | .tuple _ => false
  | .none => false
  | _ => true
def sortD (ds : List D) : List D := ds.mergeSort (PySem.W.dataLe false fun d => d)
def φSorted : List D → Option RR
  | [.list ds] => if alikes ds = true ∧ (ds.all netup = true ∨ ds.all plainKey = true) ∧ ds.length ≤ lim ∧ (ds.all fun d => decide (d.depth ≤ 50)) = true then some (.ls (sortD ds)) else none
  | [.tuple ds] => if alikes ds = true ∧ (ds.all netup = true ∨ ds.all plainKey = true) ∧ ds.length ≤ lim ∧ (ds.all fun d => decide (d.depth ≤ 50)) = true then some (.ls (sortD ds)) else none
  | _ => none
theorem each_of {K : PySem.W.Frag} {G : Hp} : ∀ {xs : List V} {us : List Value} {ds : List D}, Vals xs us → DpAll K G xs ds → PySem.W.EachIs (fun u d => ∃ x : V, RelV x u ∧ Dp K G x d) us ds
  | _, _, _, .nil, .nil => .nil
  | _, _, _, .cons r t, .cons h a => .cons ⟨_, r, h⟩ (each_of t a)
theorem of_each {K : PySem.W.Frag} {G : Hp} : ∀ {us : List Value} {ds : List D}, PySem.W.EachIs (fun u d => ∃ x : V, RelV x u ∧ Dp K G x d) us ds → ∃ xs : List V, Vals xs us ∧ DpAll K G xs ds
  | _, _, .nil => ⟨[], .nil, .nil⟩
  | _, _, .cons ⟨x, r, h⟩ t => by
    obtain ⟨xs, a, b⟩ := of_each t
    exact ⟨x :: xs, .cons r a, .cons h b⟩
theorem keys_ok {ds : List D} (h1 : alikes ds = true) (h2 : ds.all netup = true ∨ ds.all plainKey = true) : PySem.W.AllAlike (ds.map fun d => d) ∧ PySem.W.Sortable (ds.map fun d => d) := by
  rw [List.map_id']
  constructor
  · intro d hd e he
    unfold alikes at h1
    rw [List.all_eq_true] at h1
    have q := h1 d hd
    rw [List.all_eq_true] at q
    exact q e he
  · rcases h2 with h2 | h2
    · refine .inl fun d hd => ?_
      have q := List.all_eq_true.mp h2 d hd
      unfold netup at q
      split at q
      · exact ⟨_, _, rfl⟩
      · cases q
    · refine .inr fun d hd => ?_
      have q := List.all_eq_true.mp h2 d hd
      constructor
      · rintro rfl
        cases q
      · rintro xs rfl
        cases q
mutual
theorem alike_nd : ∀ d : D, PySem.W.alike d d = true → d.hasDict = false
  | .none, _ => by simp [PyData.hasDict]
  | .bool _, _ => by simp [PyData.hasDict]
  | .int _, _ => by simp [PyData.hasDict]
  | .str _, _ => by simp [PyData.hasDict]
  | .list xs, h => by
    have q := alikeAll_nd xs (by simpa only [PySem.W.alike] using h)
    simpa only [PyData.hasDict] using q
  | .tuple xs, h => by
    have q := alikeAll_nd xs (by simpa only [PySem.W.alike] using h)
    simpa only [PyData.hasDict] using q
  | .dict _, h => by simp [PySem.W.alike] at h
theorem alikeAll_nd : ∀ xs : List D, PySem.W.alikeAll xs xs = true → PyData.hasDictAll xs = false
  | [], _ => by simp [PyData.hasDictAll]
  | x :: xs, h => by
    simp only [PySem.W.alikeAll, Bool.and_eq_true] at h
    simp only [PyData.hasDictAll, alike_nd x h.1, alikeAll_nd xs h.2, Bool.or_self]
end
theorem alikes_nd {ds : List D} (h : alikes ds = true) : ∀ d ∈ ds, d.hasDict = false := fun d hd => alike_nd d (by
  unfold alikes at h
  exact List.all_eq_true.mp (List.all_eq_true.mp h d hd) d hd)
theorem each_reads {X : Cx} {pins : List (Addr × Obj)} {σ : St} {G H : Hp} {s : Shared} (I : Inv X pins σ H s) (sg : Same G H) : ∀ {us : List Value} {ds : List D}, (∀ d ∈ ds, d.hasDict = false) → PySem.W.EachIs (fun u d => ∃ x : V, RelV x u ∧ Dp X.K G x d) us ds → PySem.W.EachIs (fun v d => ∃ as, Reads s.heap v d as) us ds
  | _, _, _, .nil => .nil
  | _, _, n, .cons ⟨x, r, h⟩ t => .cons (L2.Dp.reads I _ x _ ((dpMono sg h).toH (n _ List.mem_cons_self)) r) (each_reads I sg (fun d hd => n d (List.mem_cons_of_mem _ hd)) t)
theorem c_sorted (hu : X.A.units + 66 < cLine) : CallR X (.builtin "sorted") (rL X.K φSorted) := by
  intro pins s σ H vs us Q I rs h
  obtain ⟨G, ds, r, sg, hv, hφ, k⟩ := h
  unfold φSorted at hφ
  split at hφ
  · rename_i _ es
    obtain ⟨⟨h1, h2, h3, h4⟩, rfl⟩ := iteS hφ
    obtain ⟨hal, hso⟩ := keys_ok h1 h2
    obtain ⟨v, rfl, hx⟩ := views1 hv
    obtain ⟨b, xs, rfl, ha, al⟩ := view_list sg hx
    obtain ⟨u, rfl, ru⟩ := vals1 rs
    cases ru
    obtain ⟨its, rv, pl, hz⟩ := I.list ha
    have e1 := each_of rv al
    have e2 : PySem.W.EachIs (fun v d => ∃ as, Reads s.heap v d as) its es := each_reads I sg (alikes_nd h1) e1
    refine PySem.W.sorted_data (R := fun u d => ∃ x : V, RelV x u ∧ Dp X.K G x d) (enc := fun d => d) pl.isList e1 e2 hal hso (lim_le h3) (fun d hd => ?_) fun out ho eo => ?_
    · have q := of_decide_eq_true (List.all_eq_true.mp h4 d hd)
      omega
    · obtain ⟨ys, ry, ay⟩ := of_each eo
      obtain ⟨ep, hat⟩ := PyProof.Rows.sortedAll_at s.heap its out.toArray
      have hnew : s.heap.objs.size ≤ s.heap.objs.size + 1 := Nat.le_succ _
      have hp : H (s.heap.objs.size + 1) = none := I.hok.fresh hnew
      have I2 := I.laid (a := s.heap.objs.size + 1) (o := .lst ys) (t' := s.toks) (h' := PyProof.Rows.sortedAll s.heap its out.toArray) (fun b o e => PyProof.Rows.sortedAll_old e) hnew
        ⟨by rw [ry.length, ho]; exact lim_le h3, out, ep, ry, hat⟩
      exact ⟨.ref _, _, I2, rfl, k _ _ _ (.ls sg hp ay)⟩
  · rename_i _ es
    obtain ⟨⟨h1, h2, h3, h4⟩, rfl⟩ := iteS hφ
    obtain ⟨hal, hso⟩ := keys_ok h1 h2
    obtain ⟨v, rfl, hx⟩ := views1 hv
    obtain ⟨b, xs, rfl, ha, al⟩ := view_tup sg hx
    obtain ⟨u, rfl, ru⟩ := vals1 rs
    cases ru
    obtain ⟨its, rv, ⟨ob, hob, hcl, n, hda⟩, hz⟩ := I.tuple ha
    have e1 := each_of rv al
    have e2 : PySem.W.EachIs (fun v d => ∃ as, Reads s.heap v d as) its es := each_reads I sg (alikes_nd h1) e1
    refine tup_sorted (R := fun u d => ∃ x : V, RelV x u ∧ Dp X.K G x d) (enc := fun d => d) hob hcl hda e1 e2 hal hso (lim_le h3) (fun d hd => ?_) fun h1 out k1 ho eo => ?_
    · have q := of_decide_eq_true (List.all_eq_true.mp h4 d hd)
      omega
    · obtain ⟨ys, ry, ay⟩ := of_each eo
      have hn : (h1.push (PyProof.Rows.seqObj "list" its.toArray 0)).get? h1.objs.size = some (PyProof.Rows.seqObj "list" its.toArray 0) := Heap.get?_push_size _ rfl
      obtain ⟨ep, hat⟩ := PyProof.Rows.sortedHeap_at (out := out.toArray) hn
      have I2 : Inv X pins σ H { s with heap := h1 } := I.kept (t' := s.toks) k1
      have hp : H h1.objs.size = none := I2.hok.fresh (Nat.le_refl _)
      have I3 := I2.laid (a := h1.objs.size) (o := .lst ys) (t' := s.toks) (h' := PyProof.Rows.sortedHeap (h1.push (PyProof.Rows.seqObj "list" its.toArray 0)) h1.objs.size its out.toArray) (fun b o e => by
        have hlt : b < h1.objs.size := Heap.lt_size e
        have e3 : (h1.push (PyProof.Rows.seqObj "list" its.toArray 0)).get? b = some o := Heap.get?_push_of_some _ e
        rw [PyProof.Rows.sortedHeap_old (Nat.ne_of_lt hlt) (Heap.lt_size e3)]
        exact e3) (Nat.le_refl _) ⟨by rw [ry.length, ho]; exact lim_le h3, out, ep, ry, hat⟩
      exact ⟨.ref _, _, I3, rfl, k _ _ _ (.ls sg hp ay)⟩
  · cases hφ

def fLr (fs : Fn (List RR)) : Fn RR := fun ρ => (fR1 fs ρ).map fun x => (.ls x.1, x.2)
theorem rg_dps {K : PySem.W.Frag} {G : Hp} (a b : Int) : DpAll K G (rgV a b) (rng a b) := by
  unfold rgV rng
  generalize List.range (b - a).toNat = l
  induction l with
  | nil => exact .nil
  | cons x l ih => exact .cons (.int _) ih
theorem e_lr1 {p rp rpos : Pos} {fa : Fn RR} (hc : X.calm = true) (hg : Gl X "list") (hm : X.mg "list" = none) (hg2 : Gl X "range") (hm2 : X.mg "range" = none) (ha : PE X a (tD X.K fa)) (na : starEach [a] X.env = (false, eval a X.env) :: starEach [] X.env) :
    PE X (.Call (.Name "list" p) [.Call (.Name "range" rp) [a] [] rpos] [] pos) (tD X.K (fLr (fsCons (fV fa) fsNil))) :=
  weakE (pe_listRg hc hg hm (prg_1 hg2 hm2 (to_V ha) na) rfl) fun σ H Q ⟨G, ρ, r, ρ', R, q, k⟩ => by
    obtain ⟨x, e1, q⟩ := mapS q
    cases q
    obtain ⟨y, e2, q⟩ := bindS e1
    obtain ⟨ds, e3, q⟩ := bindS q
    obtain ⟨z, e4, q4⟩ := bindS e2
    obtain ⟨w, e5, rfl⟩ := mapS q4
    cases e5
    obtain ⟨d, e6, e3⟩ := bindS e3
    obtain ⟨ds', e7, rfl⟩ := mapS e3
    cases e7
    refine ⟨G, ρ, z.1, z.2, R, e4, fun v G1 H1 R1 S1 dv => ?_⟩
    have hv := vw_view R1 dv e6
    split at q
    · rename_i j hj
      cases hj
      obtain ⟨hcc, q⟩ := iteS q
      cases q
      exact ⟨j, view_int hv, ⟨by omega, by omega, by omega, by omega, by omega⟩, fun p hp => k _ _ _ (pst_trans S1 ((Made.ls R1.sub hp (rg_dps 0 j)).pst R1))⟩
    · rename_i hj
      cases hj
    · cases q
end
end Den


set_option autoImplicit false
namespace Den
open PySem PySem.Spec L2
section
variable {X : Cx} {a b c e l : Expr} {es : List Expr} {f g h : Fn RR} {fs : Fn (List D)} {pos p p2 : Pos}
def fsStar (f : Fn D) (fs : Fn (List D)) : Fn (List D) := fun ρ => (f ρ).bind fun x => (its x.1).bind fun ds => (fs x.2).map fun y => (ds ++ y.1, y.2)
theorem fs_star {f : Fn D} (he : PE X e (tF X.K f)) (hr : PA X es (tFs X.K fs)) (hs : starEach (.Starred e p :: es) X.env = (true, eval e X.env) :: starEach es X.env) : PA X (.Starred e p :: es) (tFs X.K (fsStar f fs)) :=
  weakA (StX.pa_star he hr hs) fun σ H Q ⟨G, ρ, ds, ρ', R, q, k⟩ => by
    obtain ⟨x, e1, q⟩ := bindS q
    obtain ⟨es1, e2, q⟩ := bindS q
    obtain ⟨y, e3, q⟩ := mapS q
    cases q
    refine ⟨G, ρ, x.1, x.2, R, e1, fun v G1 H1 R1 S1 dp => ?_⟩
    cases hx : x.1 with
    | list ds1 =>
      rw [hx] at e2 dp
      cases e2
      cases dp with
      | lst hs al => exact ⟨_, _, rfl, .inr (R1.sub.seq hs), G1, x.2, y.1, y.2, R1, e3, fun vs G2 H2 R2 S2 al2 => k _ G2 H2 R2 (S1.trans S2) (dpsApp (dpsMono S2.gg al) al2)⟩
    | tuple ds1 =>
      rw [hx] at e2 dp
      cases e2
      cases dp with
      | tup hs al => exact ⟨_, _, rfl, .inl (same_tup R1.sub hs), G1, x.2, y.1, y.2, R1, e3, fun vs G2 H2 R2 S2 al2 => k _ G2 H2 R2 (S1.trans S2) (dpsApp (dpsMono S2.gg al) al2)⟩
    | _ => rw [hx] at e2; cases e2
inductive Ty where
  | int | bool | str | tuple | list | dict
def tyn : Ty → String
  | .int => "int" | .bool => "bool" | .str => "str" | .tuple => "tuple" | .list => "list" | .dict => "dict"
def tyS : Ty → Str
  | .int => "int" | .bool => "bool" | .str => "str" | .tuple => "tuple" | .list => "list" | .dict => "dict"
def tyOf : D → String
  | .none => "NoneType" | .bool _ => "bool" | .int _ => "int" | .str _ => "str" | .tuple _ => "tuple" | .list _ => "list" | .dict _ => "dict"
def isTy : Ty → D → Bool
  | .int, .int _ => true
  | .int, .bool _ => true
  | .bool, .bool _ => true
  | .str, .str _ => true
  | .tuple, .tuple _ => true
  | .list, .list _ => true
  | .dict, .dict _ => true
  | _, _ => false
def φIsi (t : Ty) (d : D) : Option RR := some (.va (.bool (isTy t d)))
theorem kit_is (t : Ty) (d : D) : kitB (tyOf d) (tyn t) = some (isTy t d) := by
  cases d <;> (cases t <;> (simp only [tyOf, tyn, isTy]; decide +kernel))
theorem tyx_of {K : PySem.W.Frag} {G H : Hp} {v : V} {d : D} (s : Same G H) (hv : ViewR K G H v d) : TyX K H v (.type (tyOf d)) := by
  rcases hv with hv | ⟨p, xs, ds, rfl, e, rfl, al⟩
  · have hv := dpMono s hv
    cases hv with
    | non => exact .base .non
    | bl b => exact .base (.bl b)
    | int i => exact .base (.int i)
    | str x => exact .base (.str x)
    | lst hs al =>
      rcases hs with (h | ⟨o, h⟩) | ⟨o, it, n, h, hc, _⟩
      · exact .base (.lst h)
      · exact .base (.frz h)
      · exact .kList h hc
    | tup hs al =>
      rcases hs with (h | ⟨o, h⟩) | ⟨o, it, n, h, hc, _⟩
      · exact .base (.tup h)
      · exact .fTuple h
      · exact .kTuple h hc
    | dct h al => exact .base (.dK h)
  · exact .base (.lst e)
theorem c_isi (t : Ty) : CallR X (.builtin "isinstance") (fun vs H Q => ∃ (x : V) (G : Hp) (d : D) (r : RR), vs = [x, .ty (tyn t)] ∧ Same G H ∧ ViewR X.K G H x d ∧ φIsi t d = some r ∧ ∀ v G' H', Made X.K G H v r G' H' → Q v H') := by
  intro pins s σ H xs us Q I r h
  obtain ⟨x, G, d, r', rfl, sg, hv, hφ, k⟩ := h
  cases hφ
  exact call_isi pins s σ H _ us Q I r ⟨x, .ty (tyn t), _, _, _, rfl, .ty _, tyx_of sg hv, kit_ty (kit_is t d), k _ G H (made_bool sg _)⟩
theorem e_isi {t : Ty} {x y : Str} {f : Fn RR} (hx : x = ("isinstance" : Str)) (hg : Gl X x) (hm : X.mg x = none) (hg2 : Gl X y) (hm2 : X.mg y = none) (hy : tyS t = y) (ha : PE X a (tD X.K f))
    (he : starEach [a, .Name y p2] X.env = (false, eval a X.env) :: starEach [.Name y p2] X.env) : PE X (.Call (.Name x p) [a, .Name y p2] [] pos) (tD X.K (f1 (φIsi t) f)) := by
  subst hx hy
  have hb : PE X (.Name (tyS t) p2) (tC (.ty (tyn t))) := by
    cases t <;> exact pe_bltn hg2 hm2 (by decide +kernel) rfl
  refine weakE (pe_callB (c_isi t) hg hm (by decide +kernel) (pa_cons (to_V ha) (pa_cons hb pa_nil rfl) he) (by decide) (by decide) he rfl) fun σ H Q h => ?_
  obtain ⟨G, ρ, r, ρ', R, e1, k⟩ := w1 h
  exact ⟨G, ρ, r, ρ', R, e1, fun v G1 H1 R1 S1 d1 => let ⟨G2, d, r2, s, hv, hφ, kk⟩ := k v G1 H1 R1 S1 d1; ⟨v, G2, d, r2, rfl, s, hv, hφ, kk⟩⟩
def fCh (φ ψ : D → D → Option RR) (f g h : Fn RR) : Fn RR := fun ρ => (fV f ρ).bind fun x => (fV g x.2).bind fun y => (vw x.1 y.2).bind fun d => (vw y.1 y.2).bind fun e => (φ d e).bind fun r => match r with
  | .va (.bool true) => (fV h y.2).bind fun z => (vw y.1 z.2).bind fun e' => (vw z.1 z.2).bind fun w => (ψ e' w).map fun r => (r, z.2)
  | .va (.bool false) => some (.va (.bool false), y.2)
  | _ => none
theorem ch_ok {φ ψ : D → D → Option RR} {σ : St} {H : Hp} {Q : VK} (hh : tD X.K (fCh φ ψ f g h) σ H Q) : tChain (rD X.K φ) (rD X.K ψ) (tV X.K (fV f)) (tV X.K (fV g)) (tV X.K (fV h)) σ H Q := by
  obtain ⟨G, ρ, r, ρ', R, q, k⟩ := hh
  obtain ⟨x, e1, q⟩ := bindS q
  obtain ⟨y, e2, q⟩ := bindS q
  obtain ⟨d, e3, q⟩ := bindS q
  obtain ⟨e0, e4, q⟩ := bindS q
  obtain ⟨r1, e5, q⟩ := bindS q
  refine ⟨G, ρ, x.1, x.2, R, e1, fun v G1 H1 R1 S1 d1 => ⟨G1, x.2, y.1, y.2, R1, e2, fun u G2 H2 R2 S2 d2 => ⟨G2, d, e0, r1, R2.sub, vw_view R2 (resV_mono S2.gg d1) e3, vw_view R2 d2 e4, e5, fun z G3 H3 m => ?_⟩⟩⟩
  have P := m.pst R2
  split at q
  · have hz : Dp X.K G3 z (.bool true) := P.res
    cases hz
    refine ⟨true, rfl, ?_⟩
    rw [if_pos rfl]
    obtain ⟨z1, e6, q⟩ := bindS q
    obtain ⟨e', e7, q⟩ := bindS q
    obtain ⟨w, e8, q⟩ := bindS q
    obtain ⟨r2, e9, q⟩ := mapS q
    cases q
    exact ⟨G3, y.2, z1.1, z1.2, P.rel, e6, fun w' G4 H4 R4 S4 d4 => ⟨G4, e', w, r, R4.sub, vw_view R4 (resV_mono (P.stp.trans S4).gg d2) e7, vw_view R4 d4 e8, e9, fun v' G' H' m' => k v' G' H' (pst_trans (((S1.trans S2).trans P.stp).trans S4) (m'.pst R4))⟩⟩
  · have hz : Dp X.K G3 z (.bool false) := P.res
    cases hz
    cases q
    refine ⟨false, rfl, ?_⟩
    rw [if_neg (by simp)]
    exact k _ G3 H3 (pst_trans ((S1.trans S2).trans P.stp) (.same P.rel (.bl false)))
  · cases q
theorem e_chn {op op' : CmpOp} {φ ψ : D → D → Option RR} (ho : OpR X (compareOp op) (rD X.K φ)) (ho' : OpR X (compareOp op') (rD X.K ψ)) (ha : PE X a (tD X.K f)) (hb : PE X b (tD X.K g)) (hc : PE X c (tD X.K h)) (hm : lastMarks [op, op'] [b, c] = false) :
    PE X (.Compare a [op, op'] [b, c] pos) (tD X.K (fCh φ ψ f g h)) :=
  weakE (pe_chain ho ho' (to_V ha) (to_V hb) (to_V hc) hm) fun σ H Q hh => ch_ok hh
theorem bool_test {f : Fn RR} (hb : ∀ ρ r ρ', f ρ = some (r, ρ') → ∃ b, r = .va (.bool b)) {K : PySem.W.Frag} {σ : St} {H : Hp} {Q : Bool → Hp → Prop} (hh : tT K (fT f) σ H Q) : tD K f σ H fun x H' => ∃ k, x = .bl k ∧ Q k H' := by
  obtain ⟨G, ρ, c, ρ', R, q, k⟩ := hh
  obtain ⟨x, e1, q⟩ := bindS q
  obtain ⟨y, e0, ey⟩ := mapS e1
  obtain ⟨d, e2, q⟩ := bindS q
  obtain ⟨b', e3, q⟩ := mapS q
  obtain ⟨y1, y2⟩ := y
  obtain ⟨bb, hbb⟩ := hb ρ y1 y2 e0
  subst hbb ey
  refine ⟨G, ρ, _, y2, R, e0, fun v G' H' P => ?_⟩
  have res : Dp K G' v (.bool bb) := P.res
  cases res
  cases e2
  cases e3
  cases q
  exact ⟨_, rfl, k G' H' P.rel P.stp⟩
theorem ch_bool {φ ψ : D → D → Option RR} (hψ : ∀ d e r, ψ d e = some r → ∃ b, r = .va (.bool b)) : ∀ ρ r ρ', fCh φ ψ f g h ρ = some (r, ρ') → ∃ b, r = .va (.bool b) := fun ρ r ρ' q => by
  obtain ⟨x, e1, q⟩ := bindS q
  obtain ⟨y, e2, q⟩ := bindS q
  obtain ⟨d, e3, q⟩ := bindS q
  obtain ⟨e0, e4, q⟩ := bindS q
  obtain ⟨r1, e5, q⟩ := bindS q
  split at q
  · obtain ⟨z1, e6, q⟩ := bindS q
    obtain ⟨e', e7, q⟩ := bindS q
    obtain ⟨w, e8, q⟩ := bindS q
    obtain ⟨r2, e9, q⟩ := mapS q
    cases q
    exact hψ _ _ _ e9
  · cases q
    exact ⟨_, rfl⟩
  · cases q
theorem t_chn {op op' : CmpOp} {φ ψ : D → D → Option RR} (ho : OpR X (compareOp op) (rD X.K φ)) (ho' : OpR X (compareOp op') (rD X.K ψ)) (ha : PE X a (tD X.K f)) (hb : PE X b (tD X.K g)) (hc : PE X c (tD X.K h)) (hm : lastMarks [op, op'] [b, c] = false)
    (hψ : ∀ d e r, ψ d e = some r → ∃ b, r = .va (.bool b)) : PT X (.Compare a [op, op'] [b, c] pos) (tT X.K (fT (fCh φ ψ f g h))) :=
  weakT (pt_chain ho ho' (to_V ha) (to_V hb) (to_V hc) hm) fun σ H Q hh => ch_ok (bool_test (ch_bool hψ) hh)
def zipD : List D → List D → List D
  | x :: xs, y :: ys => .tuple [x, y] :: zipD xs ys
  | _, _ => []
theorem zipD_len : ∀ (xs ys : List D), (zipD xs ys).length = min xs.length ys.length
  | [], _ => by simp [zipD]
  | _ :: _, [] => by simp [zipD]
  | x :: xs, y :: ys => by
    rw [zipD, List.length_cons, List.length_cons, List.length_cons, zipD_len xs ys]
    omega
theorem zipD_get : ∀ {xs ys : List D} {i : Nat} {d : D}, (zipD xs ys)[i]? = some d → ∃ a b, xs[i]? = some a ∧ ys[i]? = some b ∧ d = .tuple [a, b]
  | [], _, _, _, e => by simp [zipD] at e
  | _ :: _, [], _, _, e => by simp [zipD] at e
  | x :: xs, y :: ys, 0, d, e => by
    simp [zipD] at e
    exact ⟨x, y, rfl, rfl, e.symm⟩
  | x :: xs, y :: ys, i + 1, d, e => by
    obtain ⟨a, b, h1, h2, h3⟩ := zipD_get (xs := xs) (ys := ys) (i := i) (d := d) (by simpa [zipD] using e)
    exact ⟨a, b, by simpa using h1, by simpa using h2, h3⟩
theorem yl_zipL {K : PySem.W.Frag} {G : Hp} {a b : Addr} {xs ys : List V} {ds es : List D} (ha : SqL K G a xs) (al : DpAll K G xs ds) (hb : SqL K G b ys) (bl : DpAll K G ys es) : Yl K G (Itz K a b) (zipD ds es) where
  go := fun i d H s e => by
    obtain ⟨d1, d2, h1, h2, _⟩ := zipD_get e
    obtain ⟨v, e1, _⟩ := dpsGet al h1
    obtain ⟨u, e2, _⟩ := dpsGet bl h2
    exact ⟨xs, ys, v, u, s.seq ha, s.seq hb, e1, e2⟩
  yl := fun i d G' H x H2 s s2 e y => by
    obtain ⟨d1, d2, h1, h2, rfl⟩ := zipD_get e
    obtain ⟨v, e1, v1⟩ := dpsGet al h1
    obtain ⟨u, e2, u1⟩ := dpsGet bl h2
    obtain ⟨T, x', y', rfl, n, rfl, f1, f2⟩ := y
    have q1 := f1 xs ((s.trans s2).seq ha)
    have q2 := f2 ys ((s.trans s2).seq hb)
    rw [e1] at q1
    rw [e2] at q2
    cases q1
    cases q2
    exact ⟨_, .tup s2 n (.cons (dpMono s v1) (.cons (dpMono s u1) .nil))⟩
  st := fun i H s e => ⟨xs, ys, s.seq ha, s.seq hb, by
    rw [zipD_len, ← dpsLen al, ← dpsLen bl] at e
    omega⟩
theorem yl_zipT {K : PySem.W.Frag} {G : Hp} {a b : Addr} {xs ys : List V} {ds es : List D} (ha : SqT K G a xs) (al : DpAll K G xs ds) (hb : SqT K G b ys) (bl : DpAll K G ys es) : Yl K G (RZ.ItzT K a b) (zipD ds es) where
  go := fun i d H s e => by
    obtain ⟨d1, d2, h1, h2, _⟩ := zipD_get e
    obtain ⟨v, e1, _⟩ := dpsGet al h1
    obtain ⟨u, e2, _⟩ := dpsGet bl h2
    exact ⟨xs, ys, v, u, same_tup s ha, same_tup s hb, e1, e2⟩
  yl := fun i d G' H x H2 s s2 e y => by
    obtain ⟨d1, d2, h1, h2, rfl⟩ := zipD_get e
    obtain ⟨v, e1, v1⟩ := dpsGet al h1
    obtain ⟨u, e2, u1⟩ := dpsGet bl h2
    obtain ⟨T, x', y', rfl, n, rfl, f1, f2⟩ := y
    have q1 := f1 xs (same_tup (s.trans s2) ha)
    have q2 := f2 ys (same_tup (s.trans s2) hb)
    rw [e1] at q1
    rw [e2] at q2
    cases q1
    cases q2
    exact ⟨_, .tup s2 n (.cons (dpMono s v1) (.cons (dpMono s u1) .nil))⟩
  st := fun i H s e => ⟨xs, ys, same_tup s ha, same_tup s hb, by
    rw [zipD_len, ← dpsLen al, ← dpsLen bl] at e
    omega⟩
def rngD (lo hi : Int) : List D := (List.range (lo - hi).toNat).map fun (i : Nat) => .int (lo + (i : Int) * (-1))
def rngN (lo c : Int) (n : Nat) : List D := (List.range n).map fun (i : Nat) => .int (lo + (i : Int) * c)
theorem rngN_len {lo c : Int} {n : Nat} : (rngN lo c n).length = n := by unfold rngN; rw [List.length_map, List.length_range]
theorem yl_rngN {K : PySem.W.Frag} {G : Hp} {lo c : Int} {n : Nat} : Yl K G (Itc lo c n) (rngN lo c n) where
  go := fun i d H s e => by
    have := (List.getElem?_eq_some_iff.mp e).1
    rw [rngN_len] at this
    exact this
  yl := fun i d G' H x H2 s s2 e y => by
    obtain ⟨rfl, rfl⟩ := y
    refine ⟨G', ?_⟩
    unfold rngN at e
    rw [List.getElem?_map] at e
    obtain ⟨j, e1, rfl⟩ := mapS e
    obtain ⟨h1, h2⟩ := List.getElem?_eq_some_iff.mp e1
    rw [List.getElem_range] at h2
    subst h2
    exact .va s2 (.int _)
  st := fun i H s e => by rw [rngN_len] at e; exact e
def stepsUp (lo hi c : Int) : Nat := if lo < hi then ((hi - lo - 1) / c + 1).toNat else 0
theorem RgC.up {i j c : Int} (h0 : 0 < c) (h1 : c ≤ 1000000) (hi : -1000000 ≤ i ∧ i ≤ 1000000) (hj : -1000000 ≤ j ∧ j ≤ 1000000) : RgC i j c (stepsUp i j c) := by
  refine ⟨by omega, by omega, ?_, ?_⟩
  · have hs : 0 ≤ Builtin.Range.rangeSize i j c ∧ Builtin.Range.rangeSize i j c ≤ 2000001 := by
      unfold Builtin.Range.rangeSize
      rw [if_pos (show c > 0 from h0)]
      by_cases h : i < j
      · rw [if_pos h]
        have h1 := Int.ediv_nonneg (show 0 ≤ j - i - 1 by omega) (show 0 ≤ c by omega)
        have h2 := Int.ediv_le_self (a := j - i - 1) c (by omega)
        omega
      · rw [if_neg h]
        omega
    unfold Builtin.Range.small
    simp only [Builtin.Range.rangeFitsLong, Bool.and_eq_true, Bool.or_eq_true, decide_eq_true_eq, beq_iff_eq, if_pos (show c > 0 from h0)]
    omega
  · unfold Builtin.Range.rangeSize stepsUp
    rw [if_pos (show c > 0 from h0)]
    by_cases h : i < j
    · rw [if_pos h, if_pos h]
      have := Int.ediv_nonneg (show 0 ≤ j - i - 1 by omega) (show 0 ≤ c by omega)
      omega
    · rw [if_neg h, if_neg h]
      rfl
def fR3 (fs : Fn (List RR)) : Fn (List D) := fun ρ => (fs ρ).bind fun x => (vws x.1 x.2).bind fun ds => match ds with
  | [.int i, .int j, .int c] => if c = -1 ∧ -1000000 ≤ i ∧ i ≤ 1000000 ∧ -1000000 ≤ j ∧ j ≤ 1000000 then some (rngD i j, x.2) else if (0 < c ∧ c ≤ 1000000) ∧ -1000000 ≤ i ∧ i ≤ 1000000 ∧ -1000000 ≤ j ∧ j ≤ 1000000 then some (rngN i c (stepsUp i j c), x.2) else none
  | _ => none
theorem i_rngD {tg : Expr} {fs : Fn (List RR)} (hg : Gl X "range") (hm : X.mg "range" = none) (ha : PA X [a, b, c] (tVs X.K fs)) (hs : starEach [a, b, c] X.env = (false, eval a X.env) :: starEach [b, c] X.env) (hpl : (backTo pos (starEach [b, c] X.env)).any (·.1) = false) :
    PI X tg (.Call (.Name "range" p) [a, b, c] [] pos) (tItr X.K (fR3 fs)) :=
  weakI (pi_range3 hg hm ha hs hpl) fun σ H R ⟨G, ρ, ds, ρ', Rl, q, k⟩ => by
    obtain ⟨x, e1, q⟩ := bindS q
    obtain ⟨es, e2, q⟩ := bindS q
    refine ⟨G, ρ, x.1, x.2, Rl, e1, fun vs G1 H1 R1 S1 dv => ?_⟩
    have dv2 := views_of R1 dv e2
    split at q
    · rename_i i j c
      by_cases hc : c = -1 ∧ -1000000 ≤ i ∧ i ≤ 1000000 ∧ -1000000 ≤ j ∧ j ≤ 1000000
      · rw [if_pos hc] at q
        cases q
        obtain ⟨hm1, hc⟩ := hc
        subst hm1
        obtain ⟨v, u, w, rfl, hv, hu, hw⟩ := views3 dv2
        cases view_int hv
        cases view_int hu
        cases view_int hw
        exact ⟨_, _, -1, _, rfl, RgC.neg (by omega) (by omega) (by omega) (by omega), k G1 H1 _ R1 S1 yl_rngN⟩
      · rw [if_neg hc] at q
        obtain ⟨hcc, q3⟩ := iteS q
        cases q3
        obtain ⟨v, u, w, rfl, hv, hu, hw⟩ := views3 dv2
        cases view_int hv
        cases view_int hu
        cases view_int hw
        exact ⟨_, _, c, _, rfl, RgC.up hcc.1.1 hcc.1.2 ⟨hcc.2.1, hcc.2.2.1⟩ ⟨hcc.2.2.2.1, hcc.2.2.2.2⟩, k G1 H1 _ R1 S1 yl_rngN⟩
    · cases q
theorem list_extend_any (l : Addr) (items : Array Value) (n : Nat) (b : Addr) (items2 : Array Value) (n2 : Nat) (sl : Array (Option Value)) (hc0 : ¬(!items.isEmpty && Builtin.List.listTooLong (items.size + items2.size)) = true) (hc1 : items.size ≤ sizeLine) (hs2 : items.size + items2.size ≤ sizeLine + 1) :
    Meets (Builtin.«list.extend» ⟨[.ref l, .ref b], []⟩) (fun _ R s => s.heap.get? l = some { cls := .type "list", dict := none, data := .seq items n, slots := #[] } ∧ s.heap.get? b = some { cls := .type "list", dict := none, data := .seq items2 n2, slots := sl } ∧ R (.ok (.ret Value.none)) { s with heap := s.heap.update l (Obj.mapSeq fun x => x ++ items2), toks := s.toks }) :=
  .of_wp fun prog w A R s h => by
    obtain ⟨hp, g, d, tk, os⟩ := s; obtain ⟨hl, hb, h⟩ := h
    have f1 := AutoSeq1.idx_int; have f2 := AutoSeq1.sub_tuple_tuple; have f3 := AutoSeq1.sub_list_list; have f4 := AutoSeq1.sub_tuple_list; have f5 := AutoSeq1.sub_list_tuple
    have hz' : (items ++ items2).size ≤ sizeLine + 1 := by rw [Array.size_append]; exact hs2
    wp_walk using (wpAny_updateSeq hl rfl (hz := hc1) (_hz' := hz')), wpAny_loadPart' hl, wpAny_loadPart' hb
    exact ⟨_, rfl, h⟩
def rExtendV (K : PySem.W.Frag) : V → List V → Hp → VK → Prop := fun x vs H Q => ∃ l b xs zs, x = .ref l ∧ vs = [.ref b] ∧ H l = some (.lst xs) ∧ SqL K H b zs ∧ xs.length + zs.length ≤ sizeLine ∧ Q .non (upd H l (.lst (xs ++ zs)))
theorem mt_extendV : MtM X "list.extend" (rExtendV X.K) := by
  intro pins s σ H x vs v us Q I rx rv h
  obtain ⟨l, b, xs, zs, rfl, rfl, hH, hB, hz, q⟩ := h
  cases rx
  obtain ⟨u, rfl, ru⟩ := rv.one
  cases ru
  obtain ⟨z, its, n, r, hl, e⟩ := I.lstM hH
  obtain ⟨its2, r2, p2, z2⟩ := I.list hB
  obtain ⟨o, n2, e2, c2, d2, a2⟩ := p2
  obtain ⟨oc, od, oa, os⟩ := o
  simp only at c2 d2 a2
  subst c2
  subst d2
  subst a2
  have hl2 := r2.length
  have hsz : its.toArray.size + its2.toArray.size ≤ sizeLine := by rw [List.size_toArray, List.size_toArray]; omega
  have hlong : ¬ (!its.toArray.isEmpty && Builtin.List.listTooLong (its.toArray.size + its2.toArray.size)) = true := by
    rw [notLongL hsz, Bool.and_false]
    exact Bool.false_ne_true
  refine call_meets PySem.F.slot_list_extend ⟨_, e, rfl⟩ PySem.F.entry_list_extend (PySem.F.args_list_extend_2 _ _)
    (list_extend_any l its.toArray n b its2.toArray n2 os hlong (by rw [List.size_toArray]; omega) (by omega)) ⟨e, e2, ?_⟩
  refine ⟨.non, _, I.lset (its' := its ++ its2) hH e (by simp) (r.append r2) ?_, rfl, q⟩
  rw [List.length_append]
  omega
def asLst : RR → Lo → Option (List D)
  | .ls es, _ => some es
  | r, ρ => match vw r ρ with
    | some (.list es) => some es
    | _ => none
def fExt (i : Nat) (f : Fn RR) : Fn RR := fun ρ => if (items ρ i).isSome = true then (f ρ).bind fun x => (asLst x.1 x.2).bind fun es => (items x.2 i).bind fun ds => if ds.length + es.length ≤ lim then some (.va .none, putItems x.2 i (ds ++ es)) else none else none
theorem asLst_ok {G H : Hp} {σ : St} {ρ0 ρ : Lo} {G0 H0 : Hp} {v : V} {r : RR} {es : List D} (P : Pst X.K σ ρ0 G0 H0 r ρ v G H) (e : asLst r ρ = some es) : ∃ (b : Addr) (zs : List V), v = .ref b ∧ SqL X.K H b zs ∧ DpAll X.K G zs es := by
  have vie : ∀ {r : RR}, ResV X.K G σ v r → (match vw r ρ with | some (.list es) => some es | _ => none) = some es → ∃ (b : Addr) (zs : List V), v = .ref b ∧ SqL X.K H b zs ∧ DpAll X.K G zs es := fun {r} h e => by
    split at e
    · rename_i es' he
      cases e
      rcases vw_view P.rel h he with d | ⟨p, xs, ds, rfl, hp, hd, al⟩
      · cases d with
        | lst sq al => exact ⟨_, _, rfl, P.rel.sub.seq sq, al⟩
      · cases hd
        exact ⟨p, xs, rfl, SqL.of hp, al⟩
    · cases e
  have res := P.res
  cases r with
  | ls es' =>
    cases e
    obtain ⟨b, zs, rfl, gb, hb, alb, nb⟩ := res
    exact ⟨b, zs, rfl, SqL.of hb, alb⟩
  | va d => exact vie (r := .va d) res e
  | br j => exact vie (r := .br j) res e
theorem ext_ok {i : Nat} {σ : St} {H : Hp} {Q : VK} (hh : tD X.K (fExt i f) σ H Q) : tBM X.K "list" (rExtendV X.K) (tVar i) (tCons (tD X.K f) tNil) σ H Q := by
  obtain ⟨G, ρ, r, ρ', R, q, k⟩ := hh
  unfold fExt at q
  by_cases hi : (items ρ i).isSome = true
  · rw [if_pos hi] at q
    obtain ⟨x, e1, q⟩ := bindS q
    obtain ⟨x1, x2⟩ := x
    obtain ⟨es, e3, q⟩ := bindS q
    obtain ⟨ds, e2, q⟩ := bindS q
    obtain ⟨hl, q⟩ := iteS q
    cases q
    obtain ⟨ds0, e0⟩ := Option.isSome_iff_exists.mp hi
    obtain ⟨p, xs, e4, g4, e5, al, ow, o⟩ := items_ok R e0
    refine ⟨.ref p, e4, .inl ⟨rfl, xs, SqL.of e5⟩, G, ρ, _, x2, R, e1, fun v G1 H1 P => ?_⟩
    obtain ⟨b, zs, rfl, hb, alb⟩ := asLst_ok P e3
    obtain ⟨p', xs1, ep, e6, al1, o1⟩ := own_stays (v := .ref p) P.rel e4 e2
    cases ep
    refine ⟨p, b, xs1, zs, rfl, rfl, e6, hb, by rw [dpsLen al1, dpsLen alb]; exact lim_le hl, ?_⟩
    obtain ⟨R2, S2⟩ := put_ok P.rel o1 e4 (dpsApp al1 alb)
    exact k .non G1 _ ⟨R2, P.stp.trans S2, .non, trivial⟩
  · rw [if_neg hi] at q
    cases q
theorem e_ext {i : Nat} {x : Str} {npos apos : Pos} (hN : X.N[i]? = some x) (hv : Vis X.env.scope x) (hd : (x == ("__debug__" : Str)) = false) (hcd : (x == ("__classdict__" : Str)) = false) (ha : PE X a (tD X.K f)) (hs : starEach [a] X.env = (false, eval a X.env) :: starEach [] X.env)
    (hfew : ((backTo pos (starEach [a] X.env)).all (fun x => !x.1) && (backToKw pos (keywordEach [] X.env)).all (fun x => x.1.isSome)
      && decide (([a] : List Expr).length + ([] : List Keyword).length + (if ([] : List Keyword).isEmpty then 0 else 1) < 30)) = true) (hline : (apos.endLine == pos.line) = true) :
    PE X (.Call (.Attribute (.Name x npos) "extend" apos) [a] [] pos) (tD X.K (fExt i f)) :=
  weakE (pe_bm PySem.F.plainAttrs_list PySem.F.slot_list_extend PySem.F.type_list_extend mt_extendV (pe_var hN hv hd hcd) (pa_cons ha pa_nil hs) rfl hfew hline hs rfl) fun σ H Q hh => ext_ok hh
def fTr (fs : Fn (List RR)) : Fn RR := fun ρ => (fR1 fs ρ).map fun x => (.va (.tuple x.1), x.2)
theorem e_tr1 {rp rpos : Pos} {fa : Fn RR} (hc : X.calm = true) (hg : Gl X "tuple") (hm : X.mg "tuple" = none) (hg2 : Gl X "range") (hm2 : X.mg "range" = none) (ha : PE X a (tD X.K fa)) (na : starEach [a] X.env = (false, eval a X.env) :: starEach [] X.env) :
    PE X (.Call (.Name "tuple" p) [.Call (.Name "range" rp) [a] [] rpos] [] pos) (tD X.K (fTr (fsCons (fV fa) fsNil))) :=
  weakE (pe_tupRg hc hg hm (prg_1 hg2 hm2 (to_V ha) na) rfl) fun σ H Q ⟨G, ρ, r, ρ', R, q, k⟩ => by
    obtain ⟨x, e1, q⟩ := mapS q
    cases q
    obtain ⟨y, e2, q⟩ := bindS e1
    obtain ⟨ds, e3, q⟩ := bindS q
    obtain ⟨z, e4, q4⟩ := bindS e2
    obtain ⟨w, e5, rfl⟩ := mapS q4
    cases e5
    obtain ⟨d, e6, e3⟩ := bindS e3
    obtain ⟨ds', e7, rfl⟩ := mapS e3
    cases e7
    refine ⟨G, ρ, z.1, z.2, R, e4, fun v G1 H1 R1 S1 dv => ?_⟩
    have hv := vw_view R1 dv e6
    split at q
    · rename_i j hj
      cases hj
      obtain ⟨hcc, q⟩ := iteS q
      cases q
      exact ⟨j, view_int hv, ⟨by omega, by omega, by omega, by omega, by omega⟩, fun p hp => k _ _ _ (pst_trans S1 ((Made.tup R1.sub hp (rg_dps 0 j)).pst R1))⟩
    · rename_i hj
      cases hj
    · cases q
theorem rep_dps {K : PySem.W.Frag} {G : Hp} {xs : List V} {ds : List D} (h : DpAll K G xs ds) : ∀ n : Nat, DpAll K G (List.replicate n xs).flatten (List.replicate n ds).flatten
  | 0 => .nil
  | n + 1 => by
    rw [List.replicate_succ, List.replicate_succ, List.flatten_cons, List.flatten_cons]
    exact dpsApp h (rep_dps h n)
def fRep (f g : Fn RR) : Fn RR := fun ρ => (f ρ).bind fun x => match x.1 with
  | .ls ds => (fV g x.2).bind fun y => (asInt y.1 y.2).bind fun m => if -1000000 ≤ m ∧ m ≤ 1000000 ∧ ds.length * m.toNat ≤ lim then some (.ls (List.replicate m.toNat ds).flatten, y.2) else none
  | _ => none
theorem e_rep (ha : PE X a (tD X.K f)) (hb : PE X b (tD X.K g)) : PE X (.BinOp a .Mult b pos) (tD X.K (fRep f g)) :=
  weakE (pe_op op_rep ha (to_V hb)) fun σ H Q ⟨G, ρ, r, ρ', R, q, k⟩ => by
    obtain ⟨x, e1, q⟩ := bindS q
    obtain ⟨x1, x2⟩ := x
    cases x1 with
    | va d => cases q
    | br j => cases q
    | ls ds =>
      obtain ⟨y, e2, q⟩ := bindS q
      obtain ⟨m, e3, q⟩ := bindS q
      obtain ⟨hc, q⟩ := iteS q
      cases q
      refine ⟨G, ρ, _, x2, R, e1, fun v G1 H1 P => ⟨G1, x2, y.1, y.2, P.rel, e2, fun u G2 H2 R2 S2 d2 => ?_⟩⟩
      obtain ⟨p, xs, rfl, gp, hp, al, nb⟩ := P.res
      have hp2 := S2.keep p _ hp nb
      refine ⟨p, m, xs, rfl, asInt_ok R2 d2 e3, hp2, by omega, by omega, by rw [dpsLen al]; exact lim_le hc.2.2, fun q hq => k _ _ _ (pst_trans (P.stp.trans S2) ((Made.ls R2.sub hq (rep_dps (dpsMono S2.gg al) _)).pst R2))⟩
end
end Den


set_option autoImplicit false
namespace Den
open PySem PySem.Spec L2
def lcG (vs : List Nat) (t : D → Lo → Option Lo) (test : FT) (elt : Fn D) : List D → List D → Lo → Option (List D × Lo)
  | [], acc, ρ => some (acc, ρ)
  | d :: ds, acc, ρ => (t d ρ).bind fun ρ1 => (test ρ1).bind fun b => if b.1 then (elt b.2).bind fun y => if acc.length < lim then lcG vs t test elt ds (acc ++ [y.1]) (wipeL y.2 vs) else none else lcG vs t test elt ds acc (wipeL b.2 vs)
def lcH (vs vs1 : List Nat) (t : D → Lo → Option Lo) (test : FT) (it1 : Fn (List D)) (t1 : D → Lo → Option Lo) (test1 : FT) (elt : Fn D) : List D → List D → Lo → Option (List D × Lo)
  | [], acc, ρ => some (acc, ρ)
  | d :: ds, acc, ρ => (t d ρ).bind fun ρ1 => (test ρ1).bind fun b => if b.1 then (it1 b.2).bind fun x => (lcG vs1 t1 test1 elt x.1 acc (wipeL x.2 vs1)).bind fun y => lcH vs vs1 t test it1 t1 test1 elt ds y.1 (wipeL y.2 vs) else lcH vs vs1 t test it1 t1 test1 elt ds acc (wipeL b.2 vs)
def fLc2 (vs vs1 : List Nat) (it : Fn (List D)) (t : D → Lo → Option Lo) (test : FT) (it1 : Fn (List D)) (t1 : D → Lo → Option Lo) (test1 : FT) (elt : Fn RR) : Fn RR := fun ρ => (it ρ).bind fun x =>
  (lcH vs vs1 t test it1 t1 test1 (fF elt) x.1 [] (wipeL x.2 vs)).map fun y => (.ls y.1, restL x.2 y.2 vs)
section
variable {X : Cx}
theorem wipe_sub {vs ws : List Nat} {σ : St} (h : ∀ j ∈ ws, j ∈ vs) : wipe (wipe σ ws) vs = wipe σ vs := by
  refine wipe_same (ws := vs) (fun _ z => z) (fun j hj => ?_) (by rw [wipe_length, wipe_length])
  rw [wipe_out hj, wipe_out fun z => hj (h j z)]
theorem lc2_ok {K : PySem.W.Frag} {vs vs1 ws : List Nat} {it it1 : Fn (List D)} {t t1 : D → Lo → Option Lo} {test test1 : FT} {elt : Fn RR} (hw : ∀ j ∈ ws, j ∈ vs) (hv1 : ∀ j ∈ vs1, j ∈ vs) {σ : St} {H : Hp} {Q : VK} (h : tD K (fLc2 vs vs1 it t test it1 t1 test1 elt) σ H Q) :
    tLc2 (tItr K it) (tTg K t ws) (tT K test) (tItr K it1) (tTg K t1 vs1) (tT K test1) (tF K (fF elt)) vs vs1 σ H Q := by
  obtain ⟨G, ρ, r, ρ', R, q, k⟩ := h
  obtain ⟨x, e1, q⟩ := bindS q
  obtain ⟨y, e2, q⟩ := mapS q
  cases q
  refine ⟨G, ρ, x.1, x.2, R, e1, fun G1 H1 J R1 S1 yl D hD => ?_⟩
  obtain ⟨R0, S0⟩ := (rel_wipe R1 vs).newH (o := .lst []) hD
  have n0 : ¬ Ow (wipe σ vs) (wipeL x.2 vs) D := fun w => R1.owH (ow_wipe w) hD
  refine ⟨fun i m H' => ∃ G' ρ'' oV oD, Rel K G' H' (wipe σ vs) ρ'' ∧ Stp (wipe σ vs) (wipeL x.2 vs) G1 H1 (wipe σ vs) ρ'' G' H' ∧ ¬ Ow (wipe σ vs) ρ'' D ∧ H' D = some (.lst oV) ∧ DpAll K G' oV oD ∧ G' D = none ∧
    lcH vs vs1 t test it1 t1 test1 (fF elt) (x.1.drop i) oD ρ'' = some y ∧ m = x.1.length - i, ⟨_, G1, wipeL x.2 vs, [], [], R0, S0, n0, upd_same, .nil, R1.gfree hD, e2, rfl⟩, ?_⟩
  rintro i m H2 ⟨G2, ρ2, oV, oD, R2, S2, n2, hD2, al2, gD2, q2, rfl⟩
  have g12 : Same G1 G2 := S2.gg
  cases hd : x.1[i]? with
  | none =>
    have hl : x.1.length ≤ i := List.getElem?_eq_none_iff.mp hd
    rw [List.drop_eq_nil_of_le hl] at q2
    cases q2
    refine .inl ⟨yl.st i H2 (g12.trans R2.sub) hl, ?_⟩
    obtain ⟨R3, S3⟩ := rest_ok R1 R2 S2
    refine k _ G2 H2 ⟨R3, S1.trans S3, ⟨D, oV, rfl, gD2, hD2, al2, fun w => ?_⟩, fun p hp => ?_⟩
    · rcases ow_rest (by rw [R2.len, wipe_length, R1.len]) w with w | w
      · exact R1.owH w hD
      · exact n2 w
    · cases hp
      cases z : H D with
      | none => rfl
      | some o => exact absurd hD (S1.dom D (by rw [z]; simp))
  | some d =>
    have hl : i < x.1.length := (List.getElem?_eq_some_iff.mp hd).1
    have ed : x.1.drop i = d :: x.1.drop (i + 1) := by
      rw [List.drop_eq_getElem_cons hl]
      congr 1
      exact (List.getElem?_eq_some_iff.mp hd).2
    rw [ed] at q2
    obtain ⟨ρ3, e3, q2⟩ := bindS q2
    obtain ⟨b, e4, q2⟩ := bindS q2
    refine .inr ⟨yl.go i d H2 (g12.trans R2.sub) hd, fun H' => ∃ G' ρ'' oV oD, Rel K G' H' (wipe σ vs) ρ'' ∧ Stp (wipe σ vs) (wipeL x.2 vs) G1 H1 (wipe σ vs) ρ'' G' H' ∧ ¬ Ow (wipe σ vs) ρ'' D ∧ H' D = some (.lst oV) ∧ DpAll K G' oV oD ∧ G' D = none ∧
      lcH vs vs1 t test it1 t1 test1 (fF elt) (x.1.drop (i + 1)) oD ρ'' = some y, fun H' ⟨G', ρ'', oV, oD, a1, a2, a0, a3, a4, a5, a6⟩ => ⟨_, by omega, G', ρ'', oV, oD, a1, a2, a0, a3, a4, a5, a6, rfl⟩, fun v H3 hy => ?_⟩
    obtain ⟨G3, md⟩ := yl.yl i d G2 H2 v H3 g12 R2.sub hd hy
    have P := md.pst R2
    have dn2 : H2 D ≠ none := by rw [hD2]; simp
    refine ⟨G3, ρ2, d, ρ3, P.rel, P.res, e3, fun σ4 R4 S4 n4 l4 => ⟨wipe_same hw n4 l4, ?_⟩⟩
    have ws4 : wipe σ4 vs = wipe σ vs := wipe_same hw n4 l4
    have T4 : Stp (wipe σ vs) ρ2 G2 H2 σ4 ρ3 G3 H3 := P.stp.trans S4
    refine ⟨G3, ρ3, b.1, b.2, R4, e4, fun G5 H5 R5 S5 => ?_⟩
    have T5 := T4.trans S5
    -- the new list is nobody's slot, and stays as it is
    have noD : ∀ {σx : St} {ρx : Lo} {Gx Hx : Hp}, Stp (wipe σ vs) ρ2 G2 H2 σx ρx Gx Hx → ¬ Ow σx ρx D := fun S w => (S.ow w).elim n2 dn2
    cases hb : b.1 with
    | false =>
      rw [hb, if_neg (by simp)] at q2
      show if false = true then _ else _
      rw [if_neg (by simp)]
      have R7 := rel_wipe R5 vs
      have S7 := stp_wipe (S2.trans T5) vs
      have nD7 := noD (stp_wipe T5 vs)
      rw [ws4] at R7 S7 nD7
      exact ⟨G5, wipeL b.2 vs, oV, oD, R7, S7, nD7, T5.keep D _ hD2 n2, dpsMono T5.gg al2, (T5.gnew D dn2 n2).trans gD2, q2⟩
    | true =>
      rw [hb, if_pos rfl] at q2
      show if true = true then _ else _
      rw [if_pos rfl]
      obtain ⟨x1, e5, q2⟩ := bindS q2
      obtain ⟨y1, e6, q2⟩ := bindS q2
      refine ⟨G5, b.2, x1.1, x1.2, R5, e5, fun G6 H6 J1 R6 S6 yl1 => ?_⟩
      have T6 := T5.trans S6
      have hwv : wipe (wipe σ4 vs1) vs = wipe σ vs := (wipe_sub hv1).trans ws4
      refine ⟨fun j m H' => ∃ G' ρ'' oV oD, Rel K G' H' (wipe σ4 vs1) ρ'' ∧ Stp (wipe σ vs) (wipeL x.2 vs) G1 H1 (wipe σ4 vs1) ρ'' G' H' ∧ ¬ Ow (wipe σ4 vs1) ρ'' D ∧ H' D = some (.lst oV) ∧ DpAll K G' oV oD ∧ G' D = none ∧
        lcG vs1 t1 test1 (fF elt) (x1.1.drop j) oD ρ'' = some y1 ∧ Same G6 G' ∧ m = x1.1.length - j, ⟨_, G6, wipeL x1.2 vs1, oV, oD, rel_wipe R6 vs1, stp_wipe (S2.trans T6) vs1, noD (stp_wipe T6 vs1), T6.keep D _ hD2 n2, dpsMono T6.gg al2, (T6.gnew D dn2 n2).trans gD2, e6, Same.refl _, rfl⟩, ?_⟩
      rintro j m1 H7 ⟨G7, ρ7, pV, pD, R7, S7, n7, hD7, al7, gD7, q7, g67, rfl⟩
      have hlV : pV.length = pD.length := dpsLen al7
      cases hd1 : x1.1[j]? with
      | none =>
        have hl1 : x1.1.length ≤ j := List.getElem?_eq_none_iff.mp hd1
        rw [List.drop_eq_nil_of_le hl1] at q7
        cases q7
        refine .inl ⟨yl1.st j H7 (g67.trans R7.sub) hl1, ?_⟩
        have R8 := rel_wipe R7 vs
        have S8 := stp_wipe S7 vs
        have n8 : ¬ Ow (wipe (wipe σ4 vs1) vs) (wipeL ρ7 vs) D := fun w => n7 (ow_wipe w)
        rw [hwv] at R8 S8 n8
        exact ⟨G7, wipeL ρ7 vs, pV, pD, R8, S8, n8, hD7, al7, gD7, q2⟩
      | some d1 =>
        have hl1 : j < x1.1.length := (List.getElem?_eq_some_iff.mp hd1).1
        have ed1 : x1.1.drop j = d1 :: x1.1.drop (j + 1) := by
          rw [List.drop_eq_getElem_cons hl1]
          congr 1
          exact (List.getElem?_eq_some_iff.mp hd1).2
        rw [ed1] at q7
        obtain ⟨ρ8, e8, q7⟩ := bindS q7
        obtain ⟨b1, e9, q7⟩ := bindS q7
        refine .inr ⟨yl1.go j d1 H7 (g67.trans R7.sub) hd1, fun H' => ∃ G' ρ'' oV oD, Rel K G' H' (wipe σ4 vs1) ρ'' ∧ Stp (wipe σ vs) (wipeL x.2 vs) G1 H1 (wipe σ4 vs1) ρ'' G' H' ∧ ¬ Ow (wipe σ4 vs1) ρ'' D ∧ H' D = some (.lst oV) ∧ DpAll K G' oV oD ∧ G' D = none ∧
          lcG vs1 t1 test1 (fF elt) (x1.1.drop (j + 1)) oD ρ'' = some y1 ∧ Same G6 G', fun H' ⟨G', ρ'', oV, oD, a1, a2, a0, a3, a4, a5, a6, a7⟩ => ⟨_, by omega, G', ρ'', oV, oD, a1, a2, a0, a3, a4, a5, a6, a7, rfl⟩, fun v1 H8 hy1 => ?_⟩
        obtain ⟨G8, md1⟩ := yl1.yl j d1 G7 H7 v1 H8 g67 R7.sub hd1 hy1
        have P1 := md1.pst R7
        have dn7 : H7 D ≠ none := by rw [hD7]; simp
        refine ⟨G8, ρ7, d1, ρ8, P1.rel, P1.res, e8, fun σ9 R9 S9 n9 l9 => ?_⟩
        have ws9 : wipe σ9 vs1 = wipe σ4 vs1 := wipe_same (fun _ z => z) n9 l9
        refine ⟨ws9, ?_⟩
        have T9 : Stp (wipe σ4 vs1) ρ7 G7 H7 σ9 ρ8 G8 H8 := P1.stp.trans S9
        refine ⟨G8, ρ8, b1.1, b1.2, R9, e9, fun Ga Ha Ra Sa => ?_⟩
        have Ta := T9.trans Sa
        have noD1 : ∀ {σx : St} {ρx : Lo} {Gx Hx : Hp}, Stp (wipe σ4 vs1) ρ7 G7 H7 σx ρx Gx Hx → ¬ Ow σx ρx D := fun S w => (S.ow w).elim n7 dn7
        cases hb1 : b1.1 with
        | true =>
          rw [hb1, if_pos rfl] at q7
          show if true = true then _ else _
          rw [if_pos rfl]
          obtain ⟨z, ea, q7⟩ := bindS q7
          by_cases hlen : pD.length < lim
          · rw [if_pos hlen] at q7
            refine ⟨Ga, b1.2, z.1, z.2, Ra, ea, fun u Gb Hb Rb Sb db => ?_⟩
            have Tb := Ta.trans Sb
            have hDb : Hb D = some (.lst pV) := Tb.keep D _ hD7 n7
            have gDb : Gb D = none := (Tb.gnew D dn7 n7).trans gD7
            have alb : DpAll K Gb (pV ++ [u]) (pD ++ [z.1]) := dpsApp (dpsMono Tb.gg al7) (.cons db .nil)
            refine ⟨pV, hDb, lim_lt (by omega), ?_⟩
            have Rc := rel_wipe Rb vs1
            have Sc := stp_wipe (S7.trans Tb) vs1
            have nDc := noD1 (stp_wipe Tb vs1)
            rw [ws9] at Rc Sc nDc
            refine ⟨Gb, wipeL z.2 vs1, pV ++ [u], pD ++ [z.1], ⟨fun a o e => ?_, fun j s e => ?_, Rc.apart, Rc.len⟩, ⟨Sc.gg, fun a o e n => ?_, Sc.gnew, Sc.ols, Sc.obg, fun a e => ?_⟩, nDc, upd_same, alb, gDb, q7, g67.trans Tb.gg⟩
            · rw [upd_ne (ne_of_none e gDb)]
              exact Rc.sub a o e
            · have qs := Rc.sl j s e
              have own : ∀ es, isOwn s = true → Mine K Gb Hb (wipe σ4 vs1)[j]? es → Mine K Gb (upd Hb D (.lst (pV ++ [u]))) (wipe σ4 vs1)[j]? es := fun es o ⟨a, xs, e7, g7, e8, al8⟩ =>
                ⟨a, xs, e7, g7, by rw [upd_ne (fun w => nDc (Ow.of ⟨s, e, o⟩ (by rw [w] at e7; exact e7)))]; exact e8, al8⟩
              cases s with
              | no => trivial
              | va d => exact qs
              | ls es => exact own es rfl qs
              | dc m =>
                obtain ⟨a, u7, e7, g7, e8, al8⟩ := qs
                exact ⟨a, u7, e7, g7, by rw [upd_ne (fun w => nDc (Ow.of ⟨_, e, rfl⟩ (by rw [w] at e7; exact e7)))]; exact e8, al8⟩
              | bd m =>
                obtain ⟨a, u7, e7, g7, e8, al8⟩ := qs
                exact ⟨a, u7, e7, g7, by rw [upd_ne (fun w => nDc (Ow.of ⟨_, e, rfl⟩ (by rw [w] at e7; exact e7)))]; exact e8, al8⟩
              | hd _ => exact qs
              | bg es => exact own es rfl qs
            · rw [upd_ne (ne_of_none e hD)]
              exact Sc.keep a o e n
            · by_cases ha : a = D
              · rw [ha, upd_same]
                simp
              · rw [upd_ne ha]
                exact Sc.dom a e
          · rw [if_neg hlen] at q7
            cases q7
        | false =>
          rw [hb1, if_neg (by simp)] at q7
          show if false = true then _ else _
          rw [if_neg (by simp)]
          have Rc := rel_wipe Ra vs1
          have Sc := stp_wipe (S7.trans Ta) vs1
          have nDc := noD1 (stp_wipe Ta vs1)
          rw [ws9] at Rc Sc nDc
          exact ⟨Ga, wipeL b1.2 vs1, pV, pD, Rc, Sc, nDc, Ta.keep D _ hD7 n7, dpsMono Ta.gg al7, (Ta.gnew D dn7 n7).trans gD7, q7, g67.trans Ta.gg⟩
variable {tg iter tg1 iter1 el : Expr} {pos : Pos}
theorem e_lc2 {ifs ifs1 : List Expr} {scope : Scope} {own : List (Str × Nat)} {it it1 : Fn (List D)} {t t1 : D → Lo → Option Lo} {test test1 : FT} {f : Fn RR} {ws vs1 : List Nat} (hc : X.calm = true) (hN : X.N.Nodup) (hi : PI X tg iter (tItr X.K it)) (ok : BlkOk X.N X.env.scope scope own)
    (hw : ∀ j ∈ ws, j ∈ own.map (·.2)) (hv : ∀ j ∈ vs1, j ∈ own.map (·.2))
    (hg : ∀ (s : Shared) (H : Hp) (C : Addr) (cl : List (Str × Addr)) (fp : List Addr), PG (X.blk s H scope (compEnvC scope cl C X.env) fp) tg (tTg X.K t ws))
    (ht : ∀ (s : Shared) (H : Hp) (C : Addr) (cl : List (Str × Addr)) (fp : List Addr), PTs (X.blk s H scope (compEnvC scope cl C X.env) fp) ifs (tT X.K test))
    (hi1 : ∀ (s : Shared) (H : Hp) (C : Addr) (cl : List (Str × Addr)) (fp : List Addr), PI (X.blk s H scope (compEnvC scope cl C X.env) fp) tg1 iter1 (tItr X.K it1))
    (hg1 : ∀ (s : Shared) (H : Hp) (C : Addr) (cl : List (Str × Addr)) (fp : List Addr), PG (X.blk s H scope (compEnvC scope cl C X.env) fp) tg1 (tTg X.K t1 vs1))
    (ht1 : ∀ (s : Shared) (H : Hp) (C : Addr) (cl : List (Str × Addr)) (fp : List Addr), PTs (X.blk s H scope (compEnvC scope cl C X.env) fp) ifs1 (tT X.K test1))
    (he : ∀ (s : Shared) (H : Hp) (C : Addr) (cl : List (Str × Addr)) (fp : List Addr), PE (X.blk s H scope (compEnvC scope cl C X.env) fp) el (tD X.K f)) (hs : ∀ x, foldedSetIterable iter X.env x = pure x) (hs1 : ∀ env x, foldedSetIterable iter1 env x = pure x) :
    PE X (.ListComp el [⟨tg, iter, ifs, 0⟩, ⟨tg1, iter1, ifs1, 0⟩] scope pos) (tD X.K (fLc2 (own.map (·.2)) vs1 it t test it1 t1 test1 f)) :=
  weakE (pe_lc2 hc hN hi ok hv hg ht hi1 hg1 ht1 (fun s H C cl fp => to_F (he s H C cl fp)) hs hs1) fun σ H Q h => lc2_ok hw hv h
theorem fO_lc2 {vs vs1 : List Nat} {it it1 : Fn (List D)} {t t1 : D → Lo → Option Lo} {test test1 : FT} {f : Fn RR} {ρ : Lo} {x : RR × Lo} (h : fO (fLc2 vs vs1 it t test it1 t1 test1 f) ρ = some x) : fLc2 vs vs1 it t test it1 t1 test1 f ρ = some x := by
  obtain ⟨y, e1, q⟩ := bindS h
  obtain ⟨z, e2, q2⟩ := bindS e1
  obtain ⟨u, e3, rfl⟩ := mapS q2
  cases q
  exact e1
theorem s_setLc2 {i : Nat} {y : Str} {py spos : Pos} {ifs ifs1 : List Expr} {scope : Scope} {own : List (Str × Nat)} {it it1 : Fn (List D)} {t t1 : D → Lo → Option Lo} {test test1 : FT} {f : Fn RR} {ws vs1 : List Nat} (hc : X.calm = true) (hN : X.N.Nodup) (hy : X.N[i]? = some y) (hyl : X.env.scope.names.lookup y = some .local)
    (hsw : swapsWith (.ListComp el [⟨tg, iter, ifs, 0⟩, ⟨tg1, iter1, ifs1, 0⟩] scope pos) (some (.Name y py)) spos.line X.env = pure true) (hi : PI X tg iter (tItr X.K it)) (ok : BlkOk X.N X.env.scope scope own)
    (hw : ∀ j ∈ ws, j ∈ own.map (·.2)) (hv : ∀ j ∈ vs1, j ∈ own.map (·.2))
    (hg : ∀ (s : Shared) (H : Hp) (C : Addr) (cl : List (Str × Addr)) (fp : List Addr), PG (X.blk s H scope (compEnvC scope cl C X.env) fp) tg (tTg X.K t ws))
    (ht : ∀ (s : Shared) (H : Hp) (C : Addr) (cl : List (Str × Addr)) (fp : List Addr), PTs (X.blk s H scope (compEnvC scope cl C X.env) fp) ifs (tT X.K test))
    (hi1 : ∀ (s : Shared) (H : Hp) (C : Addr) (cl : List (Str × Addr)) (fp : List Addr), PI (X.blk s H scope (compEnvC scope cl C X.env) fp) tg1 iter1 (tItr X.K it1))
    (hg1 : ∀ (s : Shared) (H : Hp) (C : Addr) (cl : List (Str × Addr)) (fp : List Addr), PG (X.blk s H scope (compEnvC scope cl C X.env) fp) tg1 (tTg X.K t1 vs1))
    (ht1 : ∀ (s : Shared) (H : Hp) (C : Addr) (cl : List (Str × Addr)) (fp : List Addr), PTs (X.blk s H scope (compEnvC scope cl C X.env) fp) ifs1 (tT X.K test1))
    (he : ∀ (s : Shared) (H : Hp) (C : Addr) (cl : List (Str × Addr)) (fp : List Addr), PE (X.blk s H scope (compEnvC scope cl C X.env) fp) el (tD X.K f)) (hs : ∀ x, foldedSetIterable iter X.env x = pure x) (hs1 : ∀ env x, foldedSetIterable iter1 env x = pure x) :
    PS X (.Assign [.Name y py] (.ListComp el [⟨tg, iter, ifs, 0⟩, ⟨tg1, iter1, ifs1, 0⟩] scope pos) spos) (tS X.K (fSet i (fLc2 (own.map (·.2)) vs1 it t test it1 t1 test1 f))) :=
  weakS (ps_setLc2 hc hN hy hyl hsw hi ok hv hg ht hi1 hg1 ht1 (fun s H C cl fp => to_F (he s H C cl fp)) hs hs1) fun D σ H h => by
    have q := set_ok h
    obtain ⟨G, ρ, r, ρ', R, e, k⟩ := q
    exact lc2_ok hw hv ⟨G, ρ, r, ρ', R, fO_lc2 e, k⟩
def fPop (i : Nat) : Fn RR := fun ρ => (items ρ i).bind fun ds => ds[ds.length - 1]?.map fun d => (.va d, putItems ρ i ds.dropLast)
theorem dpsDropLast {K : PySem.W.Frag} {G : Hp} {xs : List V} {ds : List D} (h : DpAll K G xs ds) : DpAll K G xs.dropLast ds.dropLast := by
  rw [List.dropLast_eq_take, List.dropLast_eq_take, dpsLen h]
  exact dpsTake _ h
theorem pop_ok {i : Nat} {σ : St} {H : Hp} {Q : VK} (h : tD X.K (fPop i) σ H Q) : tBM0 X.K "list" rPop (tVar i) σ H Q := by
  obtain ⟨G, ρ, r, ρ', R, q, k⟩ := h
  obtain ⟨ds, e0, q⟩ := bindS q
  obtain ⟨d, e1, q⟩ := mapS q
  cases q
  obtain ⟨p, xs, e4, g4, e5, al, ow, o⟩ := items_ok R e0
  obtain ⟨v, hv, dv⟩ := dpsGet al e1
  refine ⟨.ref p, e4, .inl ⟨rfl, xs, SqL.of e5⟩, p, xs, v, rfl, rfl, e5, by rw [dpsLen al]; exact hv, ?_⟩
  obtain ⟨R2, S2⟩ := put_ok R o e4 (dpsDropLast al)
  exact k v G _ ⟨R2, S2, dv, trivial⟩
theorem e_pop {i : Nat} {x : Str} {npos apos : Pos} (hN : X.N[i]? = some x) (hv : Vis X.env.scope x) (hd : (x == ("__debug__" : Str)) = false) (hcd : (x == ("__classdict__" : Str)) = false) (hline : (apos.endLine == pos.line) = true) :
    PE X (.Call (.Attribute (.Name x npos) "pop" apos) [] [] pos) (tD X.K (fPop i)) :=
  weakE (pe_bm0 PySem.F.plainAttrs_list PySem.F.slot_list_pop PySem.F.type_list_pop mt_pop (pe_var hN hv hd hcd) rfl hline) fun σ H Q h => pop_ok h
def φBits : D → Option RR
  | .int i => some (.va (.int (Builtin.Int.intBits i : Nat)))
  | _ => none
theorem e_bits {o : Expr} {f : Fn RR} {apos : Pos} (ha : PE X o (tD X.K f)) (hbase : attributeBase o "bit_length" X.env (eval o X.env) = eval o X.env) (hline : (apos.endLine == pos.line) = true) :
    PE X (.Call (.Attribute o "bit_length" apos) [] [] pos) (tD X.K (f1 φBits f)) :=
  weakE (pe_bits (to_V ha) hbase hline) fun σ H Q h => by
    obtain ⟨G, ρ, r, ρ', R, q, k⟩ := h
    obtain ⟨x, e1, q⟩ := bindS q
    obtain ⟨d, e3, q⟩ := bindS q
    obtain ⟨r', e5, q⟩ := mapS q
    cases q
    refine ⟨G, ρ, x.1, x.2, R, e1, fun v G1 H1 R1 S1 d1 => ?_⟩
    have hv := vw_view R1 d1 e3
    unfold φBits at e5
    split at e5
    · cases e5
      cases view_int hv
      exact ⟨_, rfl, k _ G1 H1 (pst_trans S1 ((made_int R1.sub _).pst R1))⟩
    · cases e5
end
end Den


set_option autoImplicit false
namespace Den
open PySem PySem.Spec L2
section
variable {κ : Type} [DecidableEq κ]
def dGet (m : List (κ × D)) (k : κ) : Option D := (m.find? fun e => decide (e.1 = k)).map (·.2)
def dPut (m : List (κ × D)) (k : κ) (d : D) : List (κ × D) := if (dGet m k).isSome = true then m.map fun e => if e.1 = k then (e.1, d) else e else m ++ [(k, d)]
theorem dGet_cons {e : κ × D} {m : List (κ × D)} {k : κ} : dGet (e :: m) k = if e.1 = k then some e.2 else dGet m k := by
  unfold dGet
  rw [List.find?_cons]
  by_cases h : e.1 = k
  · simp [h]
  · simp [h]
theorem kdp_get {K : PySem.W.Frag} {G : Hp} {r : List (κ × V)} {m : List (κ × D)} (h : KDp K G r m) (k : κ) : (dGet m k = none ∧ valV r k = none) ∨ ∃ v d, dGet m k = some d ∧ valV r k = some v ∧ Dp K G v d := by
  induction h with
  | nil => exact .inl ⟨rfl, rfl⟩
  | @cons k0 v d r m hd t ih =>
    rw [dGet_cons]
    by_cases e : k0 = k
    · rw [if_pos e, valV_pos e]
      exact .inr ⟨v, d, rfl, rfl, hd⟩
    · rw [if_neg e, valV_neg e]
      exact ih
theorem kdp_some {K : PySem.W.Frag} {G : Hp} {r : List (κ × V)} {m : List (κ × D)} (h : KDp K G r m) (k : κ) : (valV r k).isSome = (dGet m k).isSome := by
  rcases kdp_get h k with ⟨a, b⟩ | ⟨v, d, a, b, _⟩ <;> rw [a, b] <;> rfl
theorem kdp_len {K : PySem.W.Frag} {G : Hp} {r : List (κ × V)} {m : List (κ × D)} (h : KDp K G r m) : r.length = m.length := by
  induction h with
  | nil => rfl
  | cons _ _ ih => rw [List.length_cons, List.length_cons, ih]
theorem kdp_app {K : PySem.W.Frag} {G : Hp} {r : List (κ × V)} {m : List (κ × D)} (h : KDp K G r m) {k : κ} {v : V} {d : D} (hd : Dp K G v d) : KDp K G (r ++ [(k, v)]) (m ++ [(k, d)]) := by
  induction h with
  | nil => exact .cons hd .nil
  | cons h _ ih => exact .cons h ih
theorem kdp_map {K : PySem.W.Frag} {G : Hp} {r : List (κ × V)} {m : List (κ × D)} (h : KDp K G r m) {k : κ} {v : V} {d : D} (hd : Dp K G v d) : KDp K G (r.map fun e => if e.1 = k then (e.1, v) else e) (m.map fun e => if e.1 = k then (e.1, d) else e) := by
  induction h with
  | nil => exact .nil
  | @cons k0 v0 d0 r m h0 t ih =>
    rw [List.map_cons, List.map_cons]
    by_cases e : k0 = k
    · rw [if_pos e, if_pos e]
      exact .cons hd ih
    · rw [if_neg e, if_neg e]
      exact .cons h0 ih
theorem kdp_put {K : PySem.W.Frag} {G : Hp} {r : List (κ × V)} {m : List (κ × D)} (h : KDp K G r m) {k : κ} {v : V} {d : D} (hd : Dp K G v d) : KDp K G (putK r k v) (dPut m k d) := by
  unfold putK dPut
  rw [valV_any, kdp_some h]
  by_cases c : (dGet m k).isSome = true
  · rw [if_pos c, if_pos c]
    exact kdp_map h hd
  · rw [if_neg c, if_neg c]
    exact kdp_app h hd
end
def keyK : D → Option Key
  | .int i => some (.inl i)
  | .str x => some (.inr x)
  | _ => none
section
variable {K : PySem.W.Frag} {G H : Hp} {σ : St} {ρ : Lo} {v : V} {d : D}
theorem key_view {k : Key} (h : ViewR K G H v d) (e : keyK d = some k) : v = kV k := by
  cases d with
  | int i => cases e; exact view_int h
  | str x => cases e; exact view_str h
  | none => cases e
  | bool b => cases e
  | list x => cases e
  | tuple x => cases e
  | dict x => cases e
def dcK (ρ : Lo) (i : Nat) : Option (List (Key × D)) := match ρ[i]? with
  | some (.dc (.k m)) => some m
  | _ => none
theorem dcK_at {i : Nat} {m : List (Key × D)} (e : dcK ρ i = some m) : ρ[i]? = some (.dc (.k m)) := by
  unfold dcK at e
  split at e
  · cases e
    assumption
  · cases e
theorem dcK_ok {i : Nat} {m : List (Key × D)} (R : Rel K G H σ ρ) (e : dcK ρ i = some m) : ∃ (p : Addr) (r : List (Key × V)), σ[i]? = some (some (.ref p)) ∧ G p = none ∧ H p = some (.dK r) ∧ KDp K G r m := by
  obtain ⟨p, o, e1, g, e2, r, eo, al⟩ := R.sl i _ (dcK_at e)
  subst eo
  exact ⟨p, r, e1, g, e2, al⟩
theorem put_dc {i : Nat} {p : Addr} {o : HO} {m m' : DM} (R : Rel K G H σ ρ) (z : ρ[i]? = some (.dc m)) (e : σ[i]? = some (some (.ref p))) (al : DmR K G p o m') :
    Rel K G (upd H p o) σ (ρ.set i (.dc m')) ∧ Stp σ ρ G H σ (ρ.set i (.dc m')) G (upd H p o) := by
  have hi : i < ρ.length := (List.getElem?_eq_some_iff.mp z).1
  have ho : Own ρ i := ⟨_, z, rfl⟩
  have ow : Ow σ ρ p := Ow.of ho e
  have gp : G p = none := R.noG ow
  have sub : Same G (upd H p o) := fun a u h => by
    rw [upd_ne (ne_of_none h gp)]
    exact R.sub _ _ h
  have back : ∀ {j : Nat} {t : Sl}, (ρ.set i (.dc m'))[j]? = some t → isOwn t = true → Own ρ j := fun {j t} h h2 => by
    by_cases hj : i = j
    · subst hj
      exact ho
    · rw [List.getElem?_set_ne hj] at h
      exact ⟨t, h, h2⟩
  refine ⟨⟨sub, fun j t h => ?_, fun j l a ⟨t1, h1, o1⟩ ⟨t2, h2, o2⟩ => R.apart j l a (back h1 o1) (back h2 o2), by rw [List.length_set]; exact R.len⟩,
    ⟨Same.refl _, fun a u h n => by rw [upd_ne (fun z => n (by rw [z]; exact ow))]; exact h, fun _ _ _ => rfl, fun a ⟨j, s, ⟨h1, h3⟩, h2⟩ => ?_, fun j es h hbg => ?_, fun a h => ?_⟩⟩
  · by_cases hj : i = j
    · subst hj
      rw [List.getElem?_set_self hi] at h
      cases h
      exact ⟨p, o, e, gp, upd_same, al⟩
    · rw [List.getElem?_set_ne hj] at h
      have q := R.sl j t h
      have off : isOwn t = true → ∀ a, σ[j]? = some (some (.ref a)) → a ≠ p := fun o2 a e3 w => hj (R.apart i j p ho ⟨t, h, o2⟩ e (by rw [w] at e3; exact e3))
      cases t with
      | no => trivial
      | va d => exact q
      | hd _ => exact q
      | ls es =>
        obtain ⟨a, ys, e3, g3, e4, al3⟩ := q
        exact ⟨a, ys, e3, g3, by rw [upd_ne (off rfl a e3)]; exact e4, al3⟩
      | bg es =>
        obtain ⟨a, ys, e3, g3, e4, al3⟩ := q
        exact ⟨a, ys, e3, g3, by rw [upd_ne (off rfl a e3)]; exact e4, al3⟩
      | dc es =>
        obtain ⟨a, ys, e3, g3, e4, al3⟩ := q
        exact ⟨a, ys, e3, g3, by rw [upd_ne (off rfl a e3)]; exact e4, al3⟩
      | bd es =>
        obtain ⟨a, ys, e3, g3, e4, al3⟩ := q
        exact ⟨a, ys, e3, g3, by rw [upd_ne (off rfl a e3)]; exact e4, al3⟩
  · by_cases hj : i = j
    · subst hj
      exact .inl ⟨i, _, ⟨z, rfl⟩, h2⟩
    · rw [List.getElem?_set_ne hj] at h1
      exact .inl ⟨j, s, ⟨h1, h3⟩, h2⟩
  · by_cases hj : i = j
    · subst hj
      rw [List.getElem?_set_self hi] at h
      cases h
      cases hbg
    · rw [List.getElem?_set_ne hj] at h
      exact ⟨es, ⟨h, hbg⟩, rfl⟩
  · by_cases ha : a = p
    · rw [ha, upd_same]
      simp
    · rw [upd_ne ha]
      exact h
theorem put_bd {i : Nat} {p : Addr} {o : HO} {m m' : DM} (R : Rel K G H σ ρ) (z : ρ[i]? = some (.bd m)) (e : σ[i]? = some (some (.ref p))) (al : DmR K G p o m') :
    Rel K G (upd H p o) σ (ρ.set i (.bd m')) ∧ Stp σ ρ G H σ (ρ.set i (.bd m')) G (upd H p o) := by
  have hi : i < ρ.length := (List.getElem?_eq_some_iff.mp z).1
  have ho : Own ρ i := ⟨_, z, rfl⟩
  have ow : Ow σ ρ p := Ow.of ho e
  have gp : G p = none := R.noG ow
  have sub : Same G (upd H p o) := fun a u h => by
    rw [upd_ne (ne_of_none h gp)]
    exact R.sub _ _ h
  have back : ∀ {j : Nat} {t : Sl}, (ρ.set i (.bd m'))[j]? = some t → isOwn t = true → Own ρ j := fun {j t} h h2 => by
    by_cases hj : i = j
    · subst hj
      exact ho
    · rw [List.getElem?_set_ne hj] at h
      exact ⟨t, h, h2⟩
  refine ⟨⟨sub, fun j t h => ?_, fun j l a ⟨t1, h1, o1⟩ ⟨t2, h2, o2⟩ => R.apart j l a (back h1 o1) (back h2 o2), by rw [List.length_set]; exact R.len⟩,
    ⟨Same.refl _, fun a u h n => by rw [upd_ne (fun z => n (by rw [z]; exact ow))]; exact h, fun _ _ _ => rfl, fun a ⟨j, s, ⟨h1, h3⟩, h2⟩ => ?_, fun j es h hbg => ?_, fun a h => ?_⟩⟩
  · by_cases hj : i = j
    · subst hj
      rw [List.getElem?_set_self hi] at h
      cases h
      exact ⟨p, o, e, gp, upd_same, al⟩
    · rw [List.getElem?_set_ne hj] at h
      have q := R.sl j t h
      have off : isOwn t = true → ∀ a, σ[j]? = some (some (.ref a)) → a ≠ p := fun o2 a e3 w => hj (R.apart i j p ho ⟨t, h, o2⟩ e (by rw [w] at e3; exact e3))
      cases t with
      | no => trivial
      | va d => exact q
      | hd _ => exact q
      | ls es =>
        obtain ⟨a, ys, e3, g3, e4, al3⟩ := q
        exact ⟨a, ys, e3, g3, by rw [upd_ne (off rfl a e3)]; exact e4, al3⟩
      | bg es =>
        obtain ⟨a, ys, e3, g3, e4, al3⟩ := q
        exact ⟨a, ys, e3, g3, by rw [upd_ne (off rfl a e3)]; exact e4, al3⟩
      | dc es =>
        obtain ⟨a, ys, e3, g3, e4, al3⟩ := q
        exact ⟨a, ys, e3, g3, by rw [upd_ne (off rfl a e3)]; exact e4, al3⟩
      | bd es =>
        obtain ⟨a, ys, e3, g3, e4, al3⟩ := q
        exact ⟨a, ys, e3, g3, by rw [upd_ne (off rfl a e3)]; exact e4, al3⟩
  · by_cases hj : i = j
    · subst hj
      rw [List.getElem?_set_self hi] at h1
      cases h1
      cases h3
    · rw [List.getElem?_set_ne hj] at h1
      exact .inl ⟨j, s, ⟨h1, h3⟩, h2⟩
  · by_cases hj : i = j
    · subst hj
      exact ⟨_, ⟨z, rfl⟩, rfl⟩
    · rw [List.getElem?_set_ne hj] at h
      exact ⟨es, ⟨h, hbg⟩, rfl⟩
  · by_cases ha : a = p
    · rw [ha, upd_same]
      simp
    · rw [upd_ne ha]
      exact h
theorem rel_dc {i : Nat} {p : Addr} {o : HO} {m : DM} (R : Rel K G H σ ρ) (hg : G p = none) (ho : H p = some o) (al : DmR K G p o m) (no : ¬ Ow σ ρ p) : Rel K G H (σ.set i (some (.ref p))) (ρ.set i (.dc m)) := by
  have len := R.len
  refine ⟨R.sub, fun j s e => ?_, fun j k a hj hk ej ek => ?_, by rw [List.length_set, List.length_set]; exact R.len⟩
  · by_cases hj : i = j
    · subst hj
      have hi : i < ρ.length := by
        have := (List.getElem?_eq_some_iff.mp e).1
        simpa using this
      rw [List.getElem?_set_self hi] at e
      rw [List.getElem?_set_self (by omega)]
      cases e
      exact ⟨p, o, rfl, hg, ho, al⟩
    · rw [List.getElem?_set_ne hj] at e ⊢
      exact R.sl j s e
  · have one : ∀ {j : Nat}, Own (ρ.set i (.dc m)) j → (σ.set i (some (.ref p)))[j]? = some (some (.ref a)) → (i ≠ j ∧ Own ρ j ∧ σ[j]? = some (some (.ref a))) ∨ (i = j ∧ ¬ Ow σ ρ a) := fun {j} ⟨t, e1, o⟩ e2 => by
      by_cases hj : i = j
      · subst hj
        refine .inr ⟨rfl, ?_⟩
        have hi : i < ρ.length := by
          have := (List.getElem?_eq_some_iff.mp e1).1
          simpa using this
        rw [List.getElem?_set_self (by omega)] at e2
        cases e2
        exact no
      · rw [List.getElem?_set_ne hj] at e1 e2
        exact .inl ⟨hj, ⟨t, e1, o⟩, e2⟩
    rcases one hj ej with ⟨a1, a2, a3⟩ | ⟨a1, a2⟩
    · rcases one hk ek with ⟨b1, b2, b3⟩ | ⟨b1, b2⟩
      · exact R.apart j k a a2 b2 a3 b3
      · exact absurd (Ow.of a2 a3) b2
    · rcases one hk ek with ⟨b1, b2, b3⟩ | ⟨b1, b2⟩
      · exact absurd (Ow.of b2 b3) a2
      · exact a1.symm.trans b1
theorem stp_dc {σ₀ : St} {ρ₀ : Lo} {G₀ H₀ : Hp} {i : Nat} {p : Addr} {m : DM} (S : Stp σ₀ ρ₀ G₀ H₀ σ ρ G H) (hb : notBg ρ i = true) (hn : H₀ p = none) : Stp σ₀ ρ₀ G₀ H₀ (σ.set i (some (.ref p))) (ρ.set i (.dc m)) G H := by
  have hi : i < ρ.length := notBg_lt hb
  refine ⟨S.gg, S.keep, S.gnew, fun a ⟨j, s, ⟨e1, e3⟩, e2⟩ => ?_, fun j ds h hbg => ?_, S.dom⟩
  · by_cases hj : i = j
    · subst hj
      by_cases hi2 : i < σ.length
      · rw [List.getElem?_set_self hi2] at e2
        cases e2
        exact .inr hn
      · rw [List.getElem?_eq_none (by simpa using hi2)] at e2
        cases e2
    · rw [List.getElem?_set_ne hj] at e1 e2
      exact S.ols a ⟨j, s, ⟨e1, e3⟩, e2⟩
  · have hj : i ≠ j := by
      rintro rfl
      rw [List.getElem?_set_self hi] at h
      cases h
      cases hbg
    rw [List.getElem?_set_ne hj] at h
    obtain ⟨ds₀, h1, h2⟩ := S.obg j ds h hbg
    exact ⟨ds₀, h1, by rw [List.getElem?_set_ne hj]; exact h2⟩
end
section
variable {X : Cx} {e : Expr} {pos : Pos} {fk fe : Fn RR}
def fDin (neg : Bool) (fk : Fn RR) (i : Nat) : Fn RR := fun ρ => (fV fk ρ).bind fun x => (vw x.1 x.2).bind fun d => (keyK d).bind fun k => (dcK x.2 i).map fun m => (.va (.bool (neg != (dGet m k).isSome)), x.2)
theorem din_ok {neg : Bool} {i : Nat} {σ : St} {H : Hp} {Q : VK} (h : tD X.K (fDin neg fk i) σ H Q) : tV X.K (fV fk) σ H fun y H1 => tVar i σ H1 fun x H2 => ∃ a o, x = .ref a ∧ DGet H2 a y o ∧ Q (.bl (neg != o.isSome)) H2 := by
  obtain ⟨G, ρ, r, ρ', R, q, k⟩ := h
  obtain ⟨x, e1, q⟩ := bindS q
  obtain ⟨d, e2, q⟩ := bindS q
  obtain ⟨ky, e3, q⟩ := bindS q
  obtain ⟨m, e4, q⟩ := mapS q
  cases q
  refine ⟨G, ρ, x.1, x.2, R, e1, fun v G1 H1 R1 S1 dv => ?_⟩
  have hv := key_view (vw_view R1 dv e2) e3
  subst hv
  obtain ⟨p, r, e5, g, e6, al⟩ := dcK_ok R1 e4
  refine ⟨.ref p, e5, p, _, rfl, DGet.k e6, ?_⟩
  rw [kdp_some al]
  exact k _ G1 H1 ⟨R1, S1, .bl _, trivial⟩
theorem e_din {i : Nat} {x : Str} {a : Expr} {npos : Pos} (hu : X.A.units + 1 < cLine) (hN : X.N[i]? = some x) (hv : Vis X.env.scope x) (hd : (x == ("__debug__" : Str)) = false) (hcd : (x == ("__classdict__" : Str)) = false) (hk : PE X a (tD X.K fk)) (hm : behindInMarks .In (.Name x npos) = false) :
    PE X (.Compare a [.In] [.Name x npos] pos) (tD X.K (fDin false fk i)) :=
  weakE (pe_cmp (pc_din hu (to_V hk) (pe_var hN hv hd hcd)) hm) fun σ H Q h => by
    have q := din_ok h
    simp only [Bool.false_bne] at q
    exact q
theorem e_dnin {i : Nat} {x : Str} {a : Expr} {npos : Pos} (hu : X.A.units + 1 < cLine) (hN : X.N[i]? = some x) (hv : Vis X.env.scope x) (hd : (x == ("__debug__" : Str)) = false) (hcd : (x == ("__classdict__" : Str)) = false) (hk : PE X a (tD X.K fk)) (hm : behindInMarks .NotIn (.Name x npos) = false) :
    PE X (.Compare a [.NotIn] [.Name x npos] pos) (tD X.K (fDin true fk i)) :=
  weakE (pe_cmp (pc_dnotin hu (to_V hk) (pe_var hN hv hd hcd)) hm) fun σ H Q h => by
    have q := din_ok h
    simp only [Bool.true_bne] at q
    exact q
theorem fDin_test {neg : Bool} {i : Nat} {σ : St} {H : Hp} {Q : Bool → Hp → Prop} (h : tT X.K (fT (fDin neg fk i)) σ H Q) : tD X.K (fDin neg fk i) σ H fun x H' => ∃ k, x = .bl k ∧ Q k H' := by
  obtain ⟨G, ρ, b, ρ', R, q, k⟩ := h
  obtain ⟨x, e1, q⟩ := bindS q
  obtain ⟨y, e0, ey⟩ := mapS e1
  obtain ⟨d, e2, q⟩ := bindS q
  obtain ⟨b', e3, q⟩ := mapS q
  cases q
  obtain ⟨z, f1, q⟩ := bindS e0
  obtain ⟨d2, f2, q⟩ := bindS q
  obtain ⟨ky, f3, q⟩ := bindS q
  obtain ⟨m, f4, q⟩ := mapS q
  cases q
  cases ey
  cases e2
  cases e3
  refine ⟨G, ρ, _, _, R, (by unfold fDin; rw [f1, Option.bind_some, f2, Option.bind_some, f3, Option.bind_some, f4]; rfl), fun v G' H' P => ?_⟩
  have hv := P.res
  cases hv
  exact ⟨_, rfl, k G' H' P.rel P.stp⟩
theorem t_din {i : Nat} {x : Str} {a : Expr} {npos : Pos} (hu : X.A.units + 1 < cLine) (hN : X.N[i]? = some x) (hv : Vis X.env.scope x) (hd : (x == ("__debug__" : Str)) = false) (hcd : (x == ("__classdict__" : Str)) = false) (hk : PE X a (tD X.K fk)) (hm : behindInMarks .In (.Name x npos) = false) :
    PT X (.Compare a [.In] [.Name x npos] pos) (tT X.K (fT (fDin false fk i))) :=
  weakT (pt_cmp (pc_din hu (to_V hk) (pe_var hN hv hd hcd)) hm) fun σ H Q h => by
    have q := din_ok (fDin_test h)
    simp only [Bool.false_bne] at q
    exact q
theorem t_dnin {i : Nat} {x : Str} {a : Expr} {npos : Pos} (hu : X.A.units + 1 < cLine) (hN : X.N[i]? = some x) (hv : Vis X.env.scope x) (hd : (x == ("__debug__" : Str)) = false) (hcd : (x == ("__classdict__" : Str)) = false) (hk : PE X a (tD X.K fk)) (hm : behindInMarks .NotIn (.Name x npos) = false) :
    PT X (.Compare a [.NotIn] [.Name x npos] pos) (tT X.K (fT (fDin true fk i))) :=
  weakT (pt_cmp (pc_dnotin hu (to_V hk) (pe_var hN hv hd hcd)) hm) fun σ H Q h => by
    have q := din_ok (fDin_test h)
    simp only [Bool.true_bne] at q
    exact q
def fDput (i : Nat) (fk fe : Fn RR) : FS := fun ρ => (fF fe ρ).bind fun y => (dcK y.2 i).bind fun _ => (fV fk y.2).bind fun x => (vw x.1 x.2).bind fun d => (keyK d).bind fun k => (dcK x.2 i).bind fun m => if m.length < lim then some (.nx, x.2.set i (.dc (.k (dPut m k y.1)))) else none
theorem s_dput {i : Nat} {x : Str} {a : Expr} {npos sp : Pos} (hu : X.A.units + 1 < cLine) (hN : X.N[i]? = some x) (hv : Vis X.env.scope x) (hd : (x == ("__debug__" : Str)) = false) (hcd : (x == ("__classdict__" : Str)) = false) (hk : PE X a (tD X.K fk)) (he : PE X e (tD X.K fe))
    (hs : swapsWith e (some (.Subscript (.Name x npos) a sp)) pos.line X.env = pure false) : PS X (.Assign [.Subscript (.Name x npos) a sp] e pos) (tS X.K (fDput i fk fe)) :=
  weakS (ps_dput hu (pe_var hN hv hd hcd) (to_V hk) (to_F he) hs) fun D σ H ⟨G, ρ, o, ρ', R, q, k⟩ => by
    obtain ⟨y, e1, q⟩ := bindS q
    obtain ⟨m0, e0, q⟩ := bindS q
    obtain ⟨x, e2, q⟩ := bindS q
    obtain ⟨d, e3, q⟩ := bindS q
    obtain ⟨ky, e4, q⟩ := bindS q
    obtain ⟨m, e5, q⟩ := bindS q
    obtain ⟨hl, q⟩ := iteS q
    cases q
    refine ⟨G, ρ, y.1, y.2, R, e1, fun v G1 H1 R1 S1 dv => ?_⟩
    obtain ⟨p, r0, f1, g1, f2, al0⟩ := dcK_ok R1 e0
    refine ⟨.ref p, f1, G1, y.2, x.1, x.2, R1, e2, fun w G2 H2 R2 S2 dw => ?_⟩
    have hw := key_view (vw_view R2 dw e3) e4
    subst hw
    obtain ⟨p', r, f3, g2, f4, al⟩ := dcK_ok R2 e5
    rw [f1] at f3
    cases f3
    refine ⟨p, _, rfl, DPut.k f4 (by rw [kdp_len al]; exact lim_lt (Nat.le_of_lt hl)), ?_⟩
    obtain ⟨R3, S3⟩ := put_dc (o := .dK (putK r ky v)) (m' := .k (dPut m ky y.1)) R2 (dcK_at e5) f1 ⟨_, rfl, kdp_put al (dpMono S2.gg dv)⟩
    exact k σ G2 _ R3 ((S1.trans S2).trans S3)
def fDnew1 (i : Nat) (fk fe : Fn RR) : FS := fun ρ => (fV fk ρ).bind fun x => (vw x.1 x.2).bind fun d => (keyK d).bind fun k => (fF fe x.2).bind fun y => if notBg y.2 i = true then some (.nx, y.2.set i (.dc (.k [(k, y.1)]))) else none
theorem s_dnew1 {i : Nat} {x : Str} {a : Expr} {npos dpos : Pos} (hnd : X.N.Nodup) (hi : X.N[i]? = some x) (hloc : L2.Loc X.env.scope x) (hfn : X.fn x = true ∨ X.env.scope.names.lookup x = some .local) (hk : PE X a (tD X.K fk)) (he : PE X e (tD X.K fe)) :
    PS X (.Assign [.Name x npos] (.Dict [some a] [e] dpos) pos) (tS X.K (fDnew1 i fk fe)) :=
  weakS (ps_asg (pe_disp (pps_cons (to_V hk) (to_F he) pps_nil) rfl rfl (by simp) (by simp)) (pg_name hnd hi hloc hfn) (by rfl) (by rfl) (by rfl)) fun D σ H ⟨G, ρ, o, ρ', R, q, k⟩ => by
    obtain ⟨x, e1, q⟩ := bindS q
    obtain ⟨d, e2, q⟩ := bindS q
    obtain ⟨ky, e3, q⟩ := bindS q
    obtain ⟨y, e4, q⟩ := bindS q
    obtain ⟨hb, q⟩ := iteS q
    cases q
    intro p hp
    obtain ⟨Ra, Sa⟩ := R.newH (o := .dK []) hp
    refine ⟨G, ρ, x.1, x.2, Ra, e1, fun v G1 H1 R1 S1 dv => ⟨G1, x.2, y.1, y.2, R1, e4, fun w G2 H2 R2 S2 dw => ?_⟩⟩
    have S12 := S1.trans S2
    have no : ¬ Ow σ ρ p := fun z => R.owH z hp
    have hH2 : H2 p = some (.dK []) := S12.keep p _ upd_same no
    have no2 : ¬ Ow σ y.2 p := fun z => (S12.ow z).elim no (by rw [upd_same]; simp)
    have hG2 : G2 p = none := (S12.gnew p (by rw [upd_same]; simp) no).trans (R.gfree hp)
    have hkv := key_view (vw_view R1 dv e2) e3
    subst hkv
    refine ⟨hH2, [(ky, w)], rfl, by simp, ?_⟩
    have em : mergeK [] [(ky, w)] = [(ky, w)] := rfl
    rw [em]
    -- the dict's object is written
    have R3 : Rel X.K G2 (upd H2 p (.dK [(ky, w)])) σ y.2 := by
      refine ⟨fun a o z => ?_, fun j s z => ?_, R2.apart, R2.len⟩
      · rw [upd_ne (ne_of_none z hG2)]
        exact R2.sub a o z
      · have q := R2.sl j s z
        have off : isOwn s = true → ∀ a, σ[j]? = some (some (.ref a)) → a ≠ p := fun os a e5 w => no2 (Ow.of ⟨s, z, os⟩ (by rw [w] at e5; exact e5))
        cases s with
        | no => trivial
        | va d => exact q
        | hd _ => exact q
        | ls es =>
          obtain ⟨a, ys, e3, g3, e4, al3⟩ := q
          exact ⟨a, ys, e3, g3, by rw [upd_ne (off rfl a e3)]; exact e4, al3⟩
        | bg es =>
          obtain ⟨a, ys, e3, g3, e4, al3⟩ := q
          exact ⟨a, ys, e3, g3, by rw [upd_ne (off rfl a e3)]; exact e4, al3⟩
        | dc es =>
          obtain ⟨a, ys, e3, g3, e4, al3⟩ := q
          exact ⟨a, ys, e3, g3, by rw [upd_ne (off rfl a e3)]; exact e4, al3⟩
        | bd es =>
          obtain ⟨a, ys, e3, g3, e4, al3⟩ := q
          exact ⟨a, ys, e3, g3, by rw [upd_ne (off rfl a e3)]; exact e4, al3⟩
    have S3 : Stp σ ρ G H σ y.2 G2 (upd H2 p (.dK [(ky, w)])) := by
      have S := Sa.trans S12
      refine ⟨S.gg, fun a o z n => ?_, S.gnew, S.ols, S.obg, fun a z => ?_⟩
      · rw [upd_ne (ne_of_none z hp)]
        exact S.keep a o z n
      · by_cases ha : a = p
        · rw [ha, upd_same]
          simp
        · rw [upd_ne ha]
          exact S.dom a z
    have R4 := rel_dc (i := i) (m := .k [(ky, y.1)]) R3 hG2 upd_same ⟨_, rfl, .cons dw .nil⟩ no2
    have S4 := stp_dc (i := i) (m := .k [(ky, y.1)]) S3 hb hp
    exact k _ G2 _ R4 S4
def keyI : Key → Option Int
  | .inl i => some i
  | _ => none
def keysI : List (Key × D) → Option (List Int)
  | [] => some []
  | e :: m => (keyI e.1).bind fun i => (keysI m).map (i :: ·)
def sortI (ns : List Int) : List Int := ns.mergeSort fun a b => decide (a ≤ b)
theorem sortI_perm {ns : List Int} : (sortI ns).Perm ns := List.mergeSort_perm _ _
theorem sortI_le {ns : List Int} : (sortI ns).Pairwise (· ≤ ·) := by
  have h := List.pairwise_mergeSort (le := fun a b : Int => decide (a ≤ b)) (fun a b c => by simp; omega) (fun a b => by simp; omega) ns
  exact h.imp fun h => by simpa using h
theorem sort_one : ∀ {xs ys : List Int}, xs.Perm ys → xs.Pairwise (· ≤ ·) → ys.Pairwise (· ≤ ·) → xs = ys
  | [], ys, p, _, _ => (List.nil_perm.mp p).symm
  | x :: xs, [], p, _, _ => absurd p.length_eq (by simp)
  | x :: xs, y :: ys, p, h1, h2 => by
    have e : x = y := by
      have a : x ∈ y :: ys := p.mem_iff.mp List.mem_cons_self
      have b : y ∈ x :: xs := p.mem_iff.mpr List.mem_cons_self
      rcases List.mem_cons.mp a with z | z
      · exact z
      · rcases List.mem_cons.mp b with w | w
        · exact w.symm
        · have := (List.pairwise_cons.mp h1).1 y w
          have := (List.pairwise_cons.mp h2).1 x z
          omega
    subst e
    rw [sort_one (List.perm_cons x |>.mp p) (List.pairwise_cons.mp h1).2 (List.pairwise_cons.mp h2).2]
theorem keysI_ok {K : PySem.W.Frag} {G : Hp} {r : List (Key × V)} {m : List (Key × D)} (h : KDp K G r m) : ∀ {ns : List Int}, keysI m = some ns → r.map (·.1) = ns.map Sum.inl := by
  induction h with
  | nil =>
    intro ns e
    cases e
    rfl
  | @cons k0 v d r m hd t ih =>
    intro ns e
    obtain ⟨i, e1, e⟩ := bindS e
    obtain ⟨ms, e2, rfl⟩ := mapS e
    rw [List.map_cons, ih e2]
    cases k0 with
    | inl j => cases e1; rfl
    | inr x => cases e1
theorem int_dps {K : PySem.W.Frag} {G : Hp} : ∀ (ns : List Int), DpAll K G (ns.map V.int) (ns.map PyData.int)
  | [] => .nil
  | n :: ns => .cons (.int n) (int_dps ns)
def fDsort (i : Nat) : Fn RR := fun ρ => (dcK ρ i).bind fun m => (keysI m).bind fun ns => if ns.length < 64 then some (.ls ((sortI ns).map .int), ρ) else none
theorem e_dsort {i : Nat} {x : Str} {p npos : Pos} (hc : X.calm = true) (hg : Gl X "sorted") (hm : X.mg "sorted" = none) (hN : X.N[i]? = some x) (hv : Vis X.env.scope x) (hd : (x == ("__debug__" : Str)) = false) (hcd : (x == ("__classdict__" : Str)) = false) :
    PE X (.Call (.Name "sorted" p) [.Name x npos] [] pos) (tD X.K (fDsort i)) :=
  weakE (pe_callB (call_sortedDI hc) hg hm (by decide +kernel) (pa_cons (pe_var hN hv hd hcd) pa_nil rfl) (by decide) (by decide) rfl rfl) fun σ H Q ⟨G, ρ, r, ρ', R, q, k⟩ => by
    obtain ⟨m, e1, q⟩ := bindS q
    obtain ⟨ns, e2, q⟩ := bindS q
    obtain ⟨hl, q⟩ := iteS q
    cases q
    obtain ⟨a, r, e3, g, e4, al⟩ := dcK_ok R e1
    refine ⟨.ref a, e3, a, r, ns, rfl, .inl e4, keysI_ok al e2, hl, fun ys b hp hs hb => ?_⟩
    have : ys = sortI ns := sort_one (hp.trans sortI_perm.symm) hs sortI_le
    subst this
    exact k _ _ _ ((Made.ls R.sub hb (int_dps _)).pst R)
end
end Den


set_option autoImplicit false
namespace Den
open PySem PySem.Spec L2
section
variable {X : Cx} {e : Expr} {pos : Pos} {fk : Fn RR}
def sel3 (k1 k2 k3 : Str) (v1 v2 v3 : Int) (s : Str) : Option Int := if s = k1 then some v1 else if s = k2 then some v2 else if s = k3 then some v3 else none
def fDsel (k1 k2 k3 : Str) (v1 v2 v3 : Int) (f : Fn RR) : Fn RR := fun ρ => (fV f ρ).bind fun x => (vw x.1 x.2).bind fun d => match d with
  | .str s => (sel3 k1 k2 k3 v1 v2 v3 s).map fun v => (.va (.int v), x.2)
  | _ => none
theorem e_dsel {k1 k2 k3 : Str} {v1 v2 v3 : Int} {a : Expr} {j1 j2 j3 l1 l2 l3 : Nat} {p1 p2 p3 q1 q2 q3 dp : Pos} (hu : X.A.units + 1 < cLine) (h12 : k1 ≠ k2) (h13 : k1 ≠ k3) (h23 : k2 ≠ k3) (he : PE X a (tD X.K fk)) (hs : NoSl a) :
    PE X (.Subscript (.Dict [some (.Constant (.str k1) j1 p1), some (.Constant (.str k2) j2 p2), some (.Constant (.str k3) j3 p3)] [.Constant (.int v1) l1 q1, .Constant (.int v2) l2 q2, .Constant (.int v3) l3 q3] dp) a pos) (tD X.K (fDsel k1 k2 k3 v1 v2 v3 fk)) :=
  weakE (pe_dget hu (pe_disp (pps_cons pe_str pe_int (pps_cons pe_str pe_int (pps_cons pe_str pe_int pps_nil))) rfl rfl (by simp) (by simp)) (to_V he) hs) fun σ H Q ⟨G, ρ, r, ρ', R, q, k⟩ => by
    obtain ⟨x, e1, q⟩ := bindS q
    obtain ⟨d, e2, q⟩ := bindS q
    intro p hp
    have em : ∀ kvs : List (Key × V), upd (upd H p (.dK [])) p (.dK kvs) = upd H p (.dK kvs) := fun kvs => by
      funext a
      by_cases ha : a = p
      · rw [ha, upd_same, upd_same]
      · rw [upd_ne ha, upd_ne ha, upd_ne ha]
    refine ⟨upd_same, [(.inr k1, .int v1), (.inr k2, .int v2), (.inr k3, .int v3)], rfl, by simp, ?_⟩
    have ek : mergeK [] [((.inr k1 : Key), V.int v1), (.inr k2, .int v2), (.inr k3, .int v3)] = [(.inr k1, .int v1), (.inr k2, .int v2), (.inr k3, .int v3)] := by
      have a1 : (k1 == k2) = false := by simpa using h12
      have a2 : (k1 == k3) = false := by simpa using h13
      have a3 : (k2 == k3) = false := by simpa using h23
      simp [mergeK, putK, h12, h13, h23, a1, a2, a3]
    rw [ek, em]
    obtain ⟨Ra, Sa⟩ := R.newH (o := .dK [((.inr k1 : Key), V.int v1), (.inr k2, .int v2), (.inr k3, .int v3)]) hp
    refine ⟨G, ρ, x.1, x.2, Ra, e1, fun v G1 H1 R1 S1 dv => ?_⟩
    have no : ¬ Ow σ ρ p := fun z => R.owH z hp
    have hH1 : H1 p = some (.dK [((.inr k1 : Key), V.int v1), (.inr k2, .int v2), (.inr k3, .int v3)]) := S1.keep p _ upd_same no
    cases d with
    | str s =>
      obtain ⟨i, e3, q⟩ := mapS q
      cases q
      have hv := key_view (k := .inr s) (vw_view R1 dv e2) rfl
      subst hv
      have hval : valV [((.inr k1 : Key), V.int v1), (.inr k2, .int v2), (.inr k3, .int v3)] (.inr s) = some (.int i) := by
        unfold sel3 at e3
        split at e3
        · rename_i z
          cases e3
          subst z
          simp [valV, List.find?_cons]
        · rename_i z
          split at e3
          · rename_i z2
            cases e3
            subst z2
            simp [valV, List.find?_cons, h12]
          · rename_i z2
            split at e3
            · rename_i z3
              cases e3
              subst z3
              simp [valV, List.find?_cons, h13, h23]
            · cases e3
      refine ⟨p, .int i, rfl, ?_, ?_⟩
      · have g := DGet.k (H := H1) (k := .inr s) hH1
        rw [hval] at g
        exact g
      · exact k _ G1 H1 ⟨R1, Sa.trans S1, .int _, trivial⟩
    | _ => cases q
end
end Den


set_option autoImplicit false
namespace Den
open PySem PySem.Spec L2
section
variable {K : PySem.W.Frag} {G H : Hp}
theorem Made.dct {p : Addr} {xs : List (Key × V)} {ds : List D} (s : Same G H) (n : H p = none) (h : DpAll K G (xs.map (·.2)) ds) : Made K G H (.ref p) (.va (.dict ((xs.map fun x => kD x.1).zip ds))) (upd G p (.dK xs)) (upd H p (.dK xs)) := by
  have g : G p = none := s.free n
  exact ⟨same_upd g, same_upd n, same_both s, fun a q => upd_ne fun z => q (by rw [z]; exact n), .dct upd_same (dpsMono (same_upd g) h)⟩
end
def fDct0 : Fn RR := fun ρ => some (.va (.dict []), ρ)
section
variable {X : Cx} {pos : Pos}
theorem e_dct0 : PE X (.Dict [] [] pos) (tD X.K fDct0) :=
  weakE pe_dnewK fun σ H Q ⟨G, ρ, r, ρ', R, q, k⟩ => by
    cases q
    exact fun p hp => k _ _ _ ((Made.dct (xs := []) (ds := []) R.sub hp .nil).pst R)
end
def keyOf : D → Option Key
  | .int i => some (.inl i)
  | .str x => some (.inr x)
  | _ => none
def pairOf : D → Option (Key × D)
  | .tuple [a, b] => (keyOf a).map fun k => (k, b)
  | _ => none
def pairsOf : List D → Option (List (Key × D))
  | [] => some []
  | d :: ds => (pairOf d).bind fun x => (pairsOf ds).map fun xs => x :: xs
def φDict : List D → Option RR
  | [.list ps] => (pairsOf ps).bind fun kvs => if (kvs.map (·.1)).Nodup then some (.va (.dict ((kvs.map fun x => kD x.1).zip (kvs.map (·.2))))) else none
  | _ => none
theorem keyOf_ok {K : PySem.W.Frag} {G : Hp} {v : V} {d : D} {k : Key} (h : Dp K G v d) (e : keyOf d = some k) : v = kV k := by
  cases h with
  | int i => cases e; rfl
  | str x => cases e; rfl
  | _ => cases e
theorem pairOf_ok {K : PySem.W.Frag} {G : Hp} {v : V} {d : D} {x : Key × D} (h : Dp K G v d) (e : pairOf d = some x) : ∃ a y, v = .ref a ∧ SqT K G a [kV x.1, y] ∧ Dp K G y x.2 := by
  cases h with
  | @tup a xs ds hs al =>
    cases al with
    | nil => cases e
    | cons h1 t1 =>
      cases t1 with
      | nil => cases e
      | cons h2 t2 =>
        cases t2 with
        | cons h3 t3 => cases e
        | nil =>
          obtain ⟨k, e1, e2⟩ := mapS e
          subst e2
          have e3 := keyOf_ok h1 e1
          subst e3
          exact ⟨a, _, rfl, hs, h2⟩
  | _ => cases e
theorem pairsOf_ok {K : PySem.W.Frag} {G : Hp} : ∀ {vs : List V} {ds : List D} {kvs : List (Key × D)}, DpAll K G vs ds → pairsOf ds = some kvs →
    ∃ (as : List Addr) (xs : List (Key × V)), vs = as.map V.ref ∧ Paired (fun p kv => SqT K G p [kV kv.1, kv.2]) as xs ∧ xs.map (·.1) = kvs.map (·.1) ∧ DpAll K G (xs.map (·.2)) (kvs.map (·.2))
  | _, _, _, .nil, e => by
    cases e
    exact ⟨[], [], rfl, .nil, rfl, .nil⟩
  | _, _, _, .cons h t, e => by
    unfold pairsOf at e
    obtain ⟨x, e1, e⟩ := bindS e
    obtain ⟨ks, e2, e3⟩ := mapS e
    subst e3
    obtain ⟨a, y, rfl, h1, h2⟩ := pairOf_ok h e1
    obtain ⟨as, xs, rfl, h3, h4, h5⟩ := pairsOf_ok t e2
    exact ⟨a :: as, (x.1, y) :: xs, rfl, .cons h1 h3, by rw [List.map_cons, List.map_cons, h4], .cons h2 h5⟩
theorem merge_nodup : ∀ {more acc : List (Key × V)}, ((acc ++ more).map (·.1)).Nodup → mergeK acc more = acc ++ more
  | [], acc, _ => by simp [mergeK]
  | (k, v) :: more, acc, h => by
    have hn : (acc.any fun kv => decide (kv.1 = k)) = false := by
      rw [List.any_eq_false]
      intro x hx e
      rw [List.map_append, List.nodup_append] at h
      exact h.2.2 x.1 (List.mem_map_of_mem hx) k (by simp) (of_decide_eq_true e)
    have e : putK acc k v = acc ++ [(k, v)] := by
      unfold putK
      simp only [hn, Bool.false_eq_true, if_false]
    show mergeK (putK acc k v) more = _
    rw [e, merge_nodup (by rw [List.append_assoc]; exact h), List.append_assoc]
    rfl
theorem paired_mono {α β : Type} {P Q : α → β → Prop} (h : ∀ a b, P a b → Q a b) : ∀ {as : List α} {bs : List β}, Paired P as bs → Paired Q as bs
  | _, _, .nil => .nil
  | _, _, .cons a b => .cons (h _ _ a) (paired_mono h b)
theorem c_dict {X : Cx} (hc : X.calm = true) : CallR X (.type "dict") (rL X.K φDict) := by
  intro pins s σ H vs us Q I rs h
  obtain ⟨G, ds, r, sg, hv, hφ, k⟩ := h
  unfold φDict at hφ
  split at hφ
  · obtain ⟨kvs, e1, hφ⟩ := bindS hφ
    obtain ⟨hn, rfl⟩ := iteS hφ
    obtain ⟨v, rfl, hx⟩ := views1 hv
    obtain ⟨a, xs, rfl, ha, al⟩ := view_list sg hx
    obtain ⟨as, ys, rfl, hp, hk, hd⟩ := pairsOf_ok al e1
    refine call_dictP hc pins s σ H _ us Q I rs ⟨a, as, ys, rfl, ha, paired_mono (fun p kv z => same_tup sg z) hp, fun p hp2 => ?_⟩
    rw [merge_nodup (acc := []) (more := ys) (by rw [List.nil_append, hk]; exact hn), List.nil_append]
    have m := Made.dct (xs := ys) sg hp2 hd
    have ek : (ys.map fun x => kD x.1) = kvs.map fun x => kD x.1 := by
      have : (ys.map (·.1)).map kD = (kvs.map (·.1)).map kD := by rw [hk]
      rw [List.map_map, List.map_map] at this
      exact this
    rw [ek] at m
    exact k _ _ _ m
  · cases hφ
end Den


set_option autoImplicit false
namespace Den
open PySem PySem.Spec L2
section
variable {X : Cx} {pins : List (Addr × Obj)} {σ : St} {H : Hp} {s : Shared} {a b : Addr} {A : Around} {E : Value → Shared → Prop}
abbrev KTn (P : Program) (w : World) : HeapKind P w (List Int) := tupleKind (intKind P w)
theorem items_int {P : Program} {w : World} : ∀ {ks : List Int} {us : List Value}, Vals (ks.map V.int) us → ItemsAre (intKind P w) ks us
  | [], _, r => by rw [List.map_nil] at r; cases r; exact .nil
  | k :: ks, _, r => by
    rw [List.map_cons] at r
    cases r with
    | cons h t =>
      obtain ⟨tk, rfl⟩ := h
      exact .cons (by show Value.isInt k (.int k tk) = true; simp [Value.isInt]) (items_int t)
theorem key_at {k : List Int} (I : Inv X pins σ H s) (h : SqT X.K H b (k.map V.int)) : (KTn X.prog X.w).is s.heap k b := by
  obtain ⟨its, r, ⟨o, e, hc, n, hd⟩, _⟩ := I.tuple h
  exact ⟨o, its.toArray, n, e, hc, hd, by simpa using items_int r⟩
def KeysIn (K : PySem.W.Frag) (H : Hp) (xs : List (List Int × Addr × Value)) : Prop := ∀ x ∈ xs, SqT K H x.2.1 (x.1.map V.int)
theorem tab_at {xs : List (List Int × Addr × Value)} (I : Inv X pins σ H s) (e : H a = some (TabO a xs)) (hk : KeysIn X.K H xs) : s.heap.DictOfH (KTn X.prog X.w) a xs ∧ (a == sysModules) = false ∧ xs.length ≤ sizeLine := by
  obtain ⟨⟨o, es, ep, h1, h2, h3, h4, h5, h6, h7⟩, _, _⟩ := (show ObjOk X.prog X.w H s.heap a (.ext (TabH a xs)) from I.hok a _ e)
  exact ⟨⟨o, es, ep, h1, h2, h3, h4, fun x hx => key_at I (hk x hx), h5⟩, h6, h7⟩
theorem tab_new {P : Program} {w : World} {H' : Hp} {h' : Heap} {xs : List (List Int × Addr × Value)} (d : h'.DictOfH (KTn P w) a xs) (hs : (a == sysModules) = false) (hl : xs.length ≤ sizeLine) : ObjOk P w H' h' a (TabO a xs) := by
  obtain ⟨o, es, ep, h1, h2, h3, h4, _, h5⟩ := d
  refine ⟨⟨o, es, ep, h1, h2, h3, h4, h5, hs, hl⟩, ⟨o, h1⟩, fun g1 g2 t k => ?_⟩
  obtain ⟨o', es', ep', q1, q⟩ := t
  exact ⟨o', es', ep', k _ q1, q⟩
theorem t_in {k : List Int} {xs : List (List Int × Addr × Value)} {Q : Value → Shared → Prop} (hu : A.units + 1 < cLine) (I : Inv X pins σ H s) (e : H a = some (TabO a xs)) (hx : KeysIn X.K H xs) (hk : SqT X.K H b (k.map V.int))
    (h : ∀ s', Inv X pins σ H s' → Q (.bool (atKey xs k).isSome) s') : wpAny (model X.prog X.w) A (compareOp .In (.ref b) (.ref a)) Q E s := by
  obtain ⟨dd, hd, _⟩ := tab_at I e hx
  exact wpAny_in_heap (tupleKind_room_in1 hu) (key_at I hk) hd dd (h _ (I.tok _))
theorem t_notIn {k : List Int} {xs : List (List Int × Addr × Value)} {Q : Value → Shared → Prop} (hu : A.units + 1 < cLine) (I : Inv X pins σ H s) (e : H a = some (TabO a xs)) (hx : KeysIn X.K H xs) (hk : SqT X.K H b (k.map V.int))
    (h : ∀ s', Inv X pins σ H s' → Q (.bool (!(atKey xs k).isSome)) s') : wpAny (model X.prog X.w) A (compareOp .NotIn (.ref b) (.ref a)) Q E s := by
  obtain ⟨dd, hd, _⟩ := tab_at I e hx
  exact PyProof.Rows.wpAny_notIn_heap (tupleKind_room_in1 hu) (key_at I hk) hd dd (h _ (I.tok _))
theorem t_setItem {k : List Int} {xs : List (List Int × Addr × Value)} {v : Value} {Q : Unit → Shared → Prop} (hu : A.units + 1 < cLine) (I : Inv X pins σ H s) (e : H a = some (TabO a xs)) (hx : KeysIn X.K H xs) (hk : SqT X.K H b (k.map V.int)) (hl : xs.length < lim)
    (h : ∀ s', Inv X pins σ (upd H a (TabO a (storedH xs k b v))) s' → Q () s') : wpAny (model X.prog X.w) A (setItem (.ref a) (.ref b) v) Q E s := by
  obtain ⟨dd, hd, hz⟩ := tab_at I e hx
  refine wpAny_setItem_heap (hsz := hz) (tupleKind_room_in1 hu) (key_at I hk) dd fun h' dd' hs => h _ ?_
  have hlen : (storedH xs k b v).length ≤ sizeLine := by
    have : (storedH xs k b v).length ≤ xs.length + 1 := by
      unfold storedH
      split
      · rw [List.length_map]; omega
      · rw [List.length_append, List.length_cons, List.length_nil]; omega
    have := lim_lt (Nat.le_of_lt hl)
    omega
  have he : ∃ q, h'.get? a = some q := let ⟨q, _, _, hq, _⟩ := dd'; ⟨q, hq⟩
  exact d_write I (by rw [e]; exact True.intro) hs he (tab_new dd' hd hlen)
theorem t_get2 {k : List Int} {xs : List (List Int × Addr × Value)} {r : Value} {Q : Value → Shared → Prop} (hu : A.units + 1 < cLine) (I : Inv X pins σ H s) (e : H a = some (TabO a xs)) (hx : KeysIn X.K H xs) (hk : SqT X.K H b (k.map V.int))
    (h : ∀ s', Inv X pins σ H s' → Q (((atKey xs k).map (·.2)).getD r) s') : wpAny (model X.prog X.w) A (call (.builtin "dict.get") [.ref a, .ref b, r]) Q E s := by
  obtain ⟨dd, hd, _⟩ := tab_at I e hx
  exact call_meetsIn PySem.F.slot_dict_get dd.typeIs PySem.F.entry_dict_get (PySem.F.args_dict_get_3 _ _ _) (meetsH_dict_get_default (KTn X.prog X.w) a b hd r) ⟨tupleKind_room_in1 hu, k, xs, key_at I hk, dd, h _ (I.tok _)⟩
end
section
variable {K : PySem.W.Frag} {G H : Hp} {xs : List (List Int × Addr × Value)} {m : List (List Int × D)}
theorem tdp_keys (s : Same G H) (h : TDp K G xs m) : KeysIn K H xs := by
  induction h with
  | nil => intro x hx; cases hx
  | cons h1 _ _ _ ih =>
    intro x hx
    rcases List.mem_cons.mp hx with rfl | hx
    · exact same_tup s h1
    · exact ih x hx
theorem tdp_len (h : TDp K G xs m) : xs.length = m.length := by
  induction h with
  | nil => rfl
  | cons _ _ _ _ ih => rw [List.length_cons, List.length_cons, ih]
theorem tdp_get (h : TDp K G xs m) (k : List Int) : (dGet m k = none ∧ atKey xs k = none) ∨ ∃ p y d, dGet m k = some d ∧ atKey xs k = some p ∧ RelV y p.2 ∧ Dp K G y d := by
  induction h with
  | nil => exact .inl ⟨rfl, rfl⟩
  | @cons k0 b y v d r s h1 h2 h3 t ih =>
    rw [dGet_cons]
    by_cases e : k0 = k
    · refine .inr ⟨(b, v), y, d, if_pos e, ?_, h2, h3⟩
      simp [atKey, List.find?_cons, e]
    · rw [if_neg e]
      have q : atKey ((k0, b, v) :: r) k = atKey r k := by simp [atKey, List.find?_cons, e]
      rw [q]
      exact ih
theorem tdp_some (h : TDp K G xs m) (k : List Int) : (atKey xs k).isSome = (dGet m k).isSome := by
  rcases tdp_get h k with ⟨a, b⟩ | ⟨_, _, _, a, b, _⟩ <;> rw [a, b] <;> rfl
theorem tdp_app (h : TDp K G xs m) {k : List Int} {b : Addr} {y : V} {v : Value} {d : D} (h1 : SqT K G b (k.map V.int)) (h2 : RelV y v) (h3 : Dp K G y d) : TDp K G (xs ++ [(k, b, v)]) (m ++ [(k, d)]) := by
  induction h with
  | nil => exact .cons h1 h2 h3 .nil
  | cons a1 a2 a3 _ ih => exact .cons a1 a2 a3 ih
theorem tdp_map (h : TDp K G xs m) {k : List Int} {y : V} {v : Value} {d : D} (h2 : RelV y v) (h3 : Dp K G y d) : TDp K G (xs.map (putAt k v)) (m.map fun e => if e.1 = k then (e.1, d) else e) := by
  induction h with
  | nil => exact .nil
  | @cons k0 b y0 v0 d0 r s a1 a2 a3 _ ih =>
    rw [List.map_cons, List.map_cons]
    unfold putAt
    by_cases e : k0 = k
    · rw [if_pos e, if_pos e]
      exact .cons a1 h2 h3 ih
    · rw [if_neg e, if_neg e]
      exact .cons a1 a2 a3 ih
theorem tdp_put (h : TDp K G xs m) {k : List Int} {b : Addr} {y : V} {v : Value} {d : D} (h1 : SqT K G b (k.map V.int)) (h2 : RelV y v) (h3 : Dp K G y d) : TDp K G (storedH xs k b v) (dPut m k d) := by
  unfold storedH dPut
  rw [tdp_some h]
  by_cases c : (dGet m k).isSome = true
  · rw [if_pos c, if_pos c]
    exact tdp_map h h2 h3
  · rw [if_neg c, if_neg c]
    exact tdp_app h h1 h2 h3
end
def keyT : D → Option (List Int)
  | .tuple ds => intsOf ds
  | _ => none
theorem keyT_view {K : PySem.W.Frag} {G H : Hp} {v : V} {d : D} {k : List Int} (s : Same G H) (h : ViewR K G H v d) (e : keyT d = some k) : ∃ b, v = .ref b ∧ SqT K H b (k.map V.int) := by
  cases d with
  | tuple ds =>
    obtain ⟨b, xs, rfl, ha, al⟩ := view_tup s h
    have e2 := ints_dps al e
    subst e2
    exact ⟨b, rfl, ha⟩
  | int i => cases e
  | str x => cases e
  | none => cases e
  | bool b => cases e
  | list x => cases e
  | dict x => cases e
def dcT (ρ : Lo) (i : Nat) : Option (List (List Int × D)) := match ρ[i]? with
  | some (.dc (.t m)) => some m
  | some (.bd (.t m)) => some m
  | _ => none
def putT (ρ : Lo) (i : Nat) (m : List (List Int × D)) : Lo := match ρ[i]? with
  | some (.bd _) => ρ.set i (.bd (.t m))
  | _ => ρ.set i (.dc (.t m))
section
variable {K : PySem.W.Frag} {G H : Hp} {σ : St} {ρ : Lo}
theorem dcT_at {i : Nat} {m : List (List Int × D)} (e : dcT ρ i = some m) : ρ[i]? = some (.dc (.t m)) ∨ ρ[i]? = some (.bd (.t m)) := by
  unfold dcT at e
  split at e
  · cases e
    exact .inl (by assumption)
  · cases e
    exact .inr (by assumption)
  · cases e
theorem dcT_own {i : Nat} {m : List (List Int × D)} (e : dcT ρ i = some m) : Own ρ i := by
  rcases dcT_at e with z | z <;> exact ⟨_, z, rfl⟩
theorem dcT_ok {i : Nat} {m : List (List Int × D)} (R : Rel K G H σ ρ) (e : dcT ρ i = some m) : ∃ (p : Addr) (xs : List (List Int × Addr × Value)), σ[i]? = some (some (.ref p)) ∧ G p = none ∧ H p = some (TabO p xs) ∧ TDp K G xs m := by
  rcases dcT_at e with z | z
  all_goals
    obtain ⟨p, o, e1, g, e2, xs, eo, al⟩ := R.sl i _ z
    subst eo
    exact ⟨p, xs, e1, g, e2, al⟩
theorem put_t {i : Nat} {p : Addr} {m m' : List (List Int × D)} {xs : List (List Int × Addr × Value)} (R : Rel K G H σ ρ) (z : dcT ρ i = some m) (e : σ[i]? = some (some (.ref p))) (al : TDp K G xs m') :
    Rel K G (upd H p (TabO p xs)) σ (putT ρ i m') ∧ Stp σ ρ G H σ (putT ρ i m') G (upd H p (TabO p xs)) := by
  unfold putT
  rcases dcT_at z with z | z
  · rw [z]
    exact put_dc R z e ⟨xs, rfl, al⟩
  · rw [z]
    exact put_bd R z e ⟨xs, rfl, al⟩
end
section
variable {X : Cx} {e : Expr} {pos : Pos} {fk fe : Fn RR}
def fTin (neg : Bool) (fk : Fn RR) (i : Nat) : Fn RR := fun ρ => (fV fk ρ).bind fun x => (vw x.1 x.2).bind fun d => (keyT d).bind fun k => (dcT x.2 i).map fun m => (.va (.bool (neg != (dGet m k).isSome)), x.2)
def tTin (K : PySem.W.Frag) (neg : Bool) (ty td : TE) : TE := fun σ H Q => ty σ H fun y H1 => td σ H1 fun x H2 => ∃ a b k xs, x = .ref a ∧ y = .ref b ∧ H2 a = some (TabO a xs) ∧ KeysIn K H2 xs ∧ SqT K H2 b (k.map V.int) ∧ Q (.bl (neg != (atKey xs k).isSome)) H2
theorem pc_tin {i o : Expr} {ty td : TE} (hu : X.A.units + 1 < cLine) (hi : PE X i ty) (ho : PE X o td) : PC X .In i o (tTin X.K false ty td) := by
  refine ⟨fun pins s σ H Q I h => ?_⟩
  refine thn (hi.run pins s σ H _ I h) fun iv s1 ⟨y, H1, I1, ry, q1⟩ => thn (ho.run pins s1 σ H1 _ I1 q1) fun u s2 ⟨x, H2, I2, rx, a, b, k, xs, ex, ey, ha, hx, hk, q2⟩ => ?_
  subst ex
  subst ey
  obtain rfl : u = Value.ref a := rx
  obtain rfl : iv = Value.ref b := ry
  exact t_in hu I2 ha hx hk fun s3 I3 => ⟨.bl (atKey xs k).isSome, H2, I3, rfl, by simpa using q2⟩
theorem pc_tnotin {i o : Expr} {ty td : TE} (hu : X.A.units + 1 < cLine) (hi : PE X i ty) (ho : PE X o td) : PC X .NotIn i o (tTin X.K true ty td) := by
  refine ⟨fun pins s σ H Q I h => ?_⟩
  refine thn (hi.run pins s σ H _ I h) fun iv s1 ⟨y, H1, I1, ry, q1⟩ => thn (ho.run pins s1 σ H1 _ I1 q1) fun u s2 ⟨x, H2, I2, rx, a, b, k, xs, ex, ey, ha, hx, hk, q2⟩ => ?_
  subst ex
  subst ey
  obtain rfl : u = Value.ref a := rx
  obtain rfl : iv = Value.ref b := ry
  exact t_notIn hu I2 ha hx hk fun s3 I3 => ⟨.bl (!(atKey xs k).isSome), H2, I3, rfl, by simpa using q2⟩
theorem tin_ok {neg : Bool} {i : Nat} {σ : St} {H : Hp} {Q : VK} (h : tD X.K (fTin neg fk i) σ H Q) : tTin X.K neg (tV X.K (fV fk)) (tVar i) σ H Q := by
  obtain ⟨G, ρ, r, ρ', R, q, k⟩ := h
  obtain ⟨x, e1, q⟩ := bindS q
  obtain ⟨d, e2, q⟩ := bindS q
  obtain ⟨ky, e3, q⟩ := bindS q
  obtain ⟨m, e4, q⟩ := mapS q
  cases q
  refine ⟨G, ρ, x.1, x.2, R, e1, fun v G1 H1 R1 S1 dv => ?_⟩
  obtain ⟨b, rfl, hb⟩ := keyT_view R1.sub (vw_view R1 dv e2) e3
  obtain ⟨p, xs, e5, g, e6, al⟩ := dcT_ok R1 e4
  refine ⟨.ref p, e5, p, b, ky, xs, rfl, rfl, e6, tdp_keys R1.sub al, hb, ?_⟩
  rw [tdp_some al]
  exact k _ G1 H1 ⟨R1, S1, .bl _, trivial⟩
theorem e_tin {i : Nat} {x : Str} {a : Expr} {npos : Pos} (hu : X.A.units + 1 < cLine) (hN : X.N[i]? = some x) (hv : Vis X.env.scope x) (hd : (x == ("__debug__" : Str)) = false) (hcd : (x == ("__classdict__" : Str)) = false) (hk : PE X a (tD X.K fk)) (hm : behindInMarks .In (.Name x npos) = false) :
    PE X (.Compare a [.In] [.Name x npos] pos) (tD X.K (fTin false fk i)) :=
  weakE (pe_cmp (pc_tin hu (to_V hk) (pe_var hN hv hd hcd)) hm) fun σ H Q h => tin_ok h
theorem e_tnin {i : Nat} {x : Str} {a : Expr} {npos : Pos} (hu : X.A.units + 1 < cLine) (hN : X.N[i]? = some x) (hv : Vis X.env.scope x) (hd : (x == ("__debug__" : Str)) = false) (hcd : (x == ("__classdict__" : Str)) = false) (hk : PE X a (tD X.K fk)) (hm : behindInMarks .NotIn (.Name x npos) = false) :
    PE X (.Compare a [.NotIn] [.Name x npos] pos) (tD X.K (fTin true fk i)) :=
  weakE (pe_cmp (pc_tnotin hu (to_V hk) (pe_var hN hv hd hcd)) hm) fun σ H Q h => tin_ok h
theorem fTin_test {neg : Bool} {i : Nat} {σ : St} {H : Hp} {Q : Bool → Hp → Prop} (h : tT X.K (fT (fTin neg fk i)) σ H Q) : tD X.K (fTin neg fk i) σ H fun x H' => ∃ k, x = .bl k ∧ Q k H' := by
  obtain ⟨G, ρ, b, ρ', R, q, k⟩ := h
  obtain ⟨x, e1, q⟩ := bindS q
  obtain ⟨y, e0, ey⟩ := mapS e1
  obtain ⟨d, e2, q⟩ := bindS q
  obtain ⟨b', e3, q⟩ := mapS q
  cases q
  obtain ⟨z, f1, q⟩ := bindS e0
  obtain ⟨d2, f2, q⟩ := bindS q
  obtain ⟨ky, f3, q⟩ := bindS q
  obtain ⟨m, f4, q⟩ := mapS q
  cases q
  cases ey
  cases e2
  cases e3
  refine ⟨G, ρ, _, _, R, (by unfold fTin; rw [f1, Option.bind_some, f2, Option.bind_some, f3, Option.bind_some, f4]; rfl), fun v G' H' P => ?_⟩
  have hv := P.res
  cases hv
  exact ⟨_, rfl, k G' H' P.rel P.stp⟩
theorem t_tin {i : Nat} {x : Str} {a : Expr} {npos : Pos} (hu : X.A.units + 1 < cLine) (hN : X.N[i]? = some x) (hv : Vis X.env.scope x) (hd : (x == ("__debug__" : Str)) = false) (hcd : (x == ("__classdict__" : Str)) = false) (hk : PE X a (tD X.K fk)) (hm : behindInMarks .In (.Name x npos) = false) :
    PT X (.Compare a [.In] [.Name x npos] pos) (tT X.K (fT (fTin false fk i))) :=
  weakT (pt_cmp (pc_tin hu (to_V hk) (pe_var hN hv hd hcd)) hm) fun σ H Q h => tin_ok (fTin_test h)
theorem t_tnin {i : Nat} {x : Str} {a : Expr} {npos : Pos} (hu : X.A.units + 1 < cLine) (hN : X.N[i]? = some x) (hv : Vis X.env.scope x) (hd : (x == ("__debug__" : Str)) = false) (hcd : (x == ("__classdict__" : Str)) = false) (hk : PE X a (tD X.K fk)) (hm : behindInMarks .NotIn (.Name x npos) = false) :
    PT X (.Compare a [.NotIn] [.Name x npos] pos) (tT X.K (fT (fTin true fk i))) :=
  weakT (pt_cmp (pc_tnotin hu (to_V hk) (pe_var hN hv hd hcd)) hm) fun σ H Q h => tin_ok (fTin_test h)
def fTput (i : Nat) (fk fe : Fn RR) : FS := fun ρ => (fF fe ρ).bind fun y => (dcT y.2 i).bind fun _ => (fV fk y.2).bind fun x => (vw x.1 x.2).bind fun d => (keyT d).bind fun k => (dcT x.2 i).bind fun m => if m.length < lim then some (.nx, putT x.2 i (dPut m k y.1)) else none
def sTput (K : PySem.W.Frag) (td ty tv : TE) : TS := fun D σ H => tv σ H fun v H1 => td σ H1 fun x H2 => ty σ H2 fun y H3 => ∃ a b k xs, x = .ref a ∧ y = .ref b ∧ H3 a = some (TabO a xs) ∧ KeysIn K H3 xs ∧ SqT K H3 b (k.map V.int) ∧ xs.length < lim ∧
  ∀ u, RelV v u → D.nx σ (upd H3 a (TabO a (storedH xs k b u)))
theorem ps_tput {o i value : Expr} {pos' : Pos} {td ty tv : TE} (hu : X.A.units + 1 < cLine) (ho : PE X o td) (hi : PE X i ty) (hv : PE X value tv) (hs : swapsWith value (some (.Subscript o i pos')) pos.line X.env = pure false) :
    PS X (.Assign [.Subscript o i pos'] value pos) (sTput X.K td ty tv) := by
  refine ⟨fun pins s σ H D I h => ?_⟩
  refine wpAny_Assign_Subscript (thn (hv.run pins s σ H _ I h) fun r s1 ⟨v, H1, I1, rv, q1⟩ => thn (ho.run pins s1 σ H1 _ I1 q1) fun u s2 ⟨x, H2, I2, rx, q2⟩ => thn (hi.run pins s2 σ H2 _ I2 q2) fun iv s3 ⟨y, H3, I3, ry, a, b, k, xs, ex, ey, ha, hx, hk, hl, q3⟩ => ?_) hs
  subst ex
  subst ey
  obtain rfl : u = Value.ref a := rx
  obtain rfl : iv = Value.ref b := ry
  exact t_setItem hu I3 ha hx hk hl fun s4 I4 => ⟨σ, _, I4, q3 r rv⟩
theorem s_tput {i : Nat} {x : Str} {a : Expr} {npos sp : Pos} (hu : X.A.units + 1 < cLine) (hN : X.N[i]? = some x) (hv : Vis X.env.scope x) (hd : (x == ("__debug__" : Str)) = false) (hcd : (x == ("__classdict__" : Str)) = false) (hk : PE X a (tD X.K fk)) (he : PE X e (tD X.K fe))
    (hs : swapsWith e (some (.Subscript (.Name x npos) a sp)) pos.line X.env = pure false) : PS X (.Assign [.Subscript (.Name x npos) a sp] e pos) (tS X.K (fTput i fk fe)) :=
  weakS (ps_tput hu (pe_var hN hv hd hcd) (to_V hk) (to_F he) hs) fun D σ H ⟨G, ρ, o, ρ', R, q, k⟩ => by
    obtain ⟨y, e1, q⟩ := bindS q
    obtain ⟨m0, e0, q⟩ := bindS q
    obtain ⟨x, e2, q⟩ := bindS q
    obtain ⟨d, e3, q⟩ := bindS q
    obtain ⟨ky, e4, q⟩ := bindS q
    obtain ⟨m, e5, q⟩ := bindS q
    obtain ⟨hl, q⟩ := iteS q
    cases q
    refine ⟨G, ρ, y.1, y.2, R, e1, fun v G1 H1 R1 S1 dv => ?_⟩
    obtain ⟨p, r0, f1, g1, f2, al0⟩ := dcT_ok R1 e0
    refine ⟨.ref p, f1, G1, y.2, x.1, x.2, R1, e2, fun w G2 H2 R2 S2 dw => ?_⟩
    have hview := vw_view R2 dw e3
    obtain ⟨b, rfl, hb⟩ := keyT_view R2.sub hview e4
    obtain ⟨p', r, f3, g2, f4, al⟩ := dcT_ok R2 e5
    rw [f1] at f3
    cases f3
    refine ⟨p, b, ky, r, rfl, rfl, f4, tdp_keys R2.sub al, hb, by rw [tdp_len al]; exact hl, fun u ru => ?_⟩
    have hbG : SqT X.K G2 b (ky.map V.int) := by
      cases d with
      | tuple ds =>
        obtain ⟨al2⟩ : True ∧ True := ⟨trivial, trivial⟩
        have hg := view_tupG hview
        cases hg with
        | tup h1 h2 =>
          have e6 := ints_dps h2 e4
          subst e6
          exact h1
      | int i => cases e4
      | str x => cases e4
      | none => cases e4
      | bool b => cases e4
      | list x => cases e4
      | dict x => cases e4
    obtain ⟨R3, S3⟩ := put_t (m' := dPut m ky y.1) R2 e5 f1 (tdp_put al hbG ru (dpMono S2.gg dv))
    exact k σ G2 _ R3 ((S1.trans S2).trans S3)
def fTget (i : Nat) (fk fe : Fn RR) : Fn RR := fun ρ => (fV fk ρ).bind fun x => (vw x.1 x.2).bind fun d => (keyT d).bind fun k => (fF fe x.2).bind fun y => (dcT y.2 i).bind fun m => if (dcT ρ i).isSome = true then some (.va ((dGet m k).getD y.1), y.2) else none
def tTget (K : PySem.W.Frag) (td ty tx : TE) : TE := fun σ H Q => td σ H fun x H1 => ∃ a xs0, x = .ref a ∧ H1 a = some (TabO a xs0) ∧ ty σ H1 fun y H2 => tx σ H2 fun z H3 => ∃ b k xs, y = .ref b ∧ H3 a = some (TabO a xs) ∧ KeysIn K H3 xs ∧ SqT K H3 b (k.map V.int) ∧
  (∀ p, atKey xs k = some p → ∃ v, RelV v p.2 ∧ Q v H3) ∧ (atKey xs k = none → Q z H3)
theorem pe_tget {o e f : Expr} {apos cpos : Pos} {td ty tx : TE} (hu : X.A.units + 1 < cLine) (ho : PE X o td) (he : PE X e ty) (hf : PE X f tx) (m : M2 X o "get" apos e f cpos) : PE X (.Call (.Attribute o "get" apos) [e, f] [] cpos) (tTget X.K td ty tx) := by
  refine ⟨fun pins s σ H Q I h => ?_⟩
  refine wpAny_Call_method m.base m.few m.line PySem.F.plainAttrs_dict PySem.F.slot_dict_get PySem.F.type_dict_get (thn (ho.run pins s σ H _ I h) fun u s1 ⟨x, H1, I1, rx, a, xs0, ex, d, q1⟩ => ?_)
  subst ex
  obtain rfl : u = Value.ref a := rx
  obtain ⟨⟨o1, es, ep, h1, h2, h3, h4, h5, h6, h7⟩, _, _⟩ := (show ObjOk X.prog X.w H1 s1.heap a (.ext (TabH a xs0)) from I1.hok a _ d)
  refine ⟨⟨o1, h1, h2.1⟩, fun b q => ?_, ?_⟩
  · cases q
    exact ⟨o1, h1, h2.2.1⟩
  rw [m.trees]
  refine Calls.callWith_builtin rfl (Calls.evalArgs_plain (Calls.spliced_cons (thn (he.run pins s1 σ H1 _ I1 q1) fun iv s2 ⟨y, H2, I2, ry, q2⟩ =>
    Calls.spliced_cons (thn (hf.run pins s2 σ H2 _ I2 q2) fun fv s3 ⟨z, H3, I3, rz, b, k, xs, ey, ha, hx, hk, q3, q4⟩ => Calls.spliced_nil ?_))))
  subst ey
  obtain rfl : iv = Value.ref b := ry
  refine t_get2 hu I3 ha hx hk fun s4 I4 => ?_
  cases hat : atKey xs k with
  | none => exact ⟨z, H3, I4, rz, q4 hat⟩
  | some p =>
    obtain ⟨v, rv, qv⟩ := q3 p hat
    exact ⟨v, H3, I4, rv, qv⟩
theorem e_tget {i : Nat} {x : Str} {a f : Expr} {npos apos cpos : Pos} (hu : X.A.units + 1 < cLine) (hN : X.N[i]? = some x) (hv : Vis X.env.scope x) (hd : (x == ("__debug__" : Str)) = false) (hcd : (x == ("__classdict__" : Str)) = false) (hk : PE X a (tD X.K fk)) (he : PE X f (tD X.K fe)) (m : M2 X (.Name x npos) "get" apos a f cpos) :
    PE X (.Call (.Attribute (.Name x npos) "get" apos) [a, f] [] cpos) (tD X.K (fTget i fk fe)) :=
  weakE (pe_tget hu (pe_var hN hv hd hcd) (to_V hk) (to_F he) m) fun σ H Q ⟨G, ρ, r, ρ', R, q, k⟩ => by
    obtain ⟨x, e1, q⟩ := bindS q
    obtain ⟨d, e2, q⟩ := bindS q
    obtain ⟨ky, e3, q⟩ := bindS q
    obtain ⟨y, e4, q⟩ := bindS q
    obtain ⟨m, e5, q⟩ := bindS q
    obtain ⟨h0, q⟩ := iteS q
    cases q
    obtain ⟨m0, e0⟩ := Option.isSome_iff_exists.mp h0
    obtain ⟨p, r0, f1, g1, f2, al0⟩ := dcT_ok R e0
    refine ⟨.ref p, f1, p, r0, rfl, f2, G, ρ, x.1, x.2, R, e1, fun v G1 H1 R1 S1 dv => ⟨G1, x.2, y.1, y.2, R1, e4, fun w G2 H2 R2 S2 dw => ?_⟩⟩
    obtain ⟨b, rfl, hb⟩ := keyT_view R1.sub (vw_view R1 dv e2) e3
    obtain ⟨p', xs, f3, g3, f4, al⟩ := dcT_ok R2 e5
    rw [f1] at f3
    cases f3
    have hb2 : SqT X.K H2 b (ky.map V.int) := by
      cases d with
      | tuple ds =>
        have hg := view_tupG (vw_view R1 dv e2)
        cases hg with
        | tup h1 h2 =>
          have e6 := ints_dps h2 e3
          subst e6
          exact same_tup (S2.gg.trans R2.sub) h1
      | int i => cases e3
      | str x => cases e3
      | none => cases e3
      | bool b => cases e3
      | list x => cases e3
      | dict x => cases e3
    refine ⟨b, ky, xs, rfl, f4, tdp_keys R2.sub al, hb2, fun pp hp => ?_, fun hp => ?_⟩
    · rcases tdp_get al ky with ⟨_, z⟩ | ⟨pp2, y2, d2, z1, z2, z3, z4⟩
      · rw [z] at hp; cases hp
      · rw [z2] at hp
        cases hp
        rw [z1] at k
        exact ⟨y2, z3, k _ G2 H2 ⟨R2, S1.trans S2, z4, trivial⟩⟩
    · rcases tdp_get al ky with ⟨z, _⟩ | ⟨pp2, y2, d2, z1, z2, z3, z4⟩
      · rw [z] at k
        exact k _ G2 H2 ⟨R2, S1.trans S2, dw, trivial⟩
      · rw [z2] at hp; cases hp
end
end Den


set_option autoImplicit false
namespace Den
open PySem PySem.Spec L2
def tNewTab : TE := fun _ H Q => ∀ p, H p = none → Q (.ref p) (upd H p (TabO p []))
theorem pe_newTab {X : Cx} {pos : Pos} : PE X (.Dict [] [] pos) tNewTab := ⟨fun pins s σ H Q I h =>
  wpAny_Dict_empty ⟨.ref s.heap.objs.size, _, I.laid (a := s.heap.objs.size) (o := TabO s.heap.objs.size []) (t' := s.toks) (fun _ _ q => Heap.get?_push_of_some _ q) (Nat.le_refl _)
    (tab_new (P := X.prog) (w := X.w) (xs := []) ⟨_, #[], 0, Heap.get?_push_size _ rfl, ⟨rfl, rfl, rfl⟩, rfl, rfl, (fun x hx => by cases hx), List.nodup_nil⟩ (beq_eq_false_iff_ne.mpr (Ne.symm (Nat.ne_of_lt I.big))) (Nat.zero_le _)), rfl, h _ (I.hok.fresh (Nat.le_refl _))⟩⟩
def fTnew3 (i j l : Nat) (g h : Fn RR) : FS := fun ρ => (fO g ρ).bind fun y => (fO h y.2).bind fun z =>
  if (notBg z.2 i = true ∧ notBg z.2 j = true ∧ notBg z.2 l = true) ∧ i ≠ j ∧ i ≠ l ∧ j ≠ l then some (.nx, ((z.2.set i (.dc (.t []))).set j (SlOf y.1)).set l (SlOf z.1)) else none
section
variable {X : Cx} {b c : Expr} {g h3 : Fn RR} {pos : Pos}
theorem s_par2 {i j : Nat} {x y : Str} {px py pt : Pos} {kt k2 : Nat} {pt2 : Pos} (hc : X.calm = true) (hN : X.N.Nodup) (hi : X.N[i]? = some x) (hj : X.N[j]? = some y)
    (lx : L2.Loc X.env.scope x) (fx : X.fn x = true ∨ X.env.scope.names.lookup x = some .local) (ly : L2.Loc X.env.scope y) (fy : X.fn y = true ∨ X.env.scope.names.lookup y = some .local)
    (hb : PE X b (tD X.K g)) (hcc : PE X c (tD X.K h3))
    (hsb : starEach [b, c] X.env = (false, eval b X.env) :: starEach [c] X.env) (hsc : starEach [c] X.env = (false, eval c X.env) :: starEach [] X.env)
    (hw : swappedStores [.Tuple [.Name x px, .Name y py] kt pt] (.Tuple [b, c] k2 pt2) X.env = pure none) (hs : swapsWithSole [.Tuple [.Name x px, .Name y py] kt pt] (.Tuple [b, c] k2 pt2) pos.line X.env = pure false) :
    PS X (.Assign [.Tuple [.Name x px, .Name y py] kt pt] (.Tuple [b, c] k2 pt2) pos) (tS X.K (fPar i j g h3)) :=
  weakS (ps_asg (pe_tup (pa_cons (to_O hb) (pa_cons (to_O hcc) pa_nil hsc) hsb))
      (pg_tup (n := 2) hc (pgs_cons (pg_name hN hi lx fx) (pgs_cons (pg_name hN hj ly fy) pgs_nil rfl) rfl) rfl rfl) hs hw rfl) fun D σ H ⟨G, ρ, o, ρ', R, q, k⟩ => by
    obtain ⟨y1, e1, q⟩ := bindS q
    obtain ⟨z1, e2, q⟩ := bindS q
    obtain ⟨⟨hb, hb2, hij⟩, q⟩ := iteS q
    cases q
    refine ⟨G, ρ, y1.1, y1.2, R, e1, fun v G1 H1 P => ⟨G1, y1.2, z1.1, z1.2, P.rel, e2, fun w G2 H2 P2 => ?_⟩⟩
    refine ⟨lim_le (by show 2 ≤ 1000000; omega), fun T fT => ?_⟩
    obtain ⟨Rb, Sb⟩ := P2.rel.newH (o := .tup [v, w]) fT
    refine ⟨T, _, rfl, SqT.of upd_same, rfl, v, _, rfl, w, _, rfl, rfl, ?_⟩
    have S12 := P.stp.trans P2.stp
    have ry := res_mono Sb (res_mono P2.stp P.res)
    have rz := res_mono Sb P2.res
    have R1 := rel_set (i := i) Rb ry (fO_nb e1)
    have S1 := stp_set (v := v) (r := y1.1) (S12.trans Sb) hb P.new
    have rz1 := res_set (i := i) (v := v) (r := y1.1) rz (fO_nb e2) (own_there P.res) P2.new
    have nz : NewR H w z1.1 := (pst_trans P.stp P2).new
    exact k _ G2 _ (rel_set (i := j) R1 rz1 (fO_nb e2)) (stp_set (v := w) (r := z1.1) S1 (notBg_set hb2 hij) nz)
theorem s_tnew3 {i j l : Nat} {x y z : Str} {px py pz pt dp : Pos} {kt k2 : Nat} {pt2 : Pos} (hc : X.calm = true) (hN : X.N.Nodup) (hi : X.N[i]? = some x) (hj : X.N[j]? = some y) (hl : X.N[l]? = some z)
    (lx : L2.Loc X.env.scope x) (fx : X.fn x = true ∨ X.env.scope.names.lookup x = some .local) (ly : L2.Loc X.env.scope y) (fy : X.fn y = true ∨ X.env.scope.names.lookup y = some .local) (lz : L2.Loc X.env.scope z) (fz : X.fn z = true ∨ X.env.scope.names.lookup z = some .local)
    (hb : PE X b (tD X.K g)) (hcc : PE X c (tD X.K h3))
    (hsb : starEach [b, c] X.env = (false, eval b X.env) :: starEach [c] X.env) (hsc : starEach [c] X.env = (false, eval c X.env) :: starEach [] X.env)
    (hw : swappedStores [.Tuple [.Name x px, .Name y py, .Name z pz] kt pt] (.Tuple [.Dict [] [] dp, b, c] k2 pt2) X.env = pure none) (hs : swapsWithSole [.Tuple [.Name x px, .Name y py, .Name z pz] kt pt] (.Tuple [.Dict [] [] dp, b, c] k2 pt2) pos.line X.env = pure false) :
    PS X (.Assign [.Tuple [.Name x px, .Name y py, .Name z pz] kt pt] (.Tuple [.Dict [] [] dp, b, c] k2 pt2) pos) (tS X.K (fTnew3 i j l g h3)) :=
  weakS (ps_asg (pe_tup (pa_cons pe_newTab (pa_cons (to_O hb) (pa_cons (to_O hcc) pa_nil hsc) hsb) rfl))
      (pg_tup (n := 3) hc (pgs_cons (pg_name hN hi lx fx) (pgs_cons (pg_name hN hj ly fy) (pgs_cons (pg_name hN hl lz fz) pgs_nil rfl) rfl) rfl) rfl rfl) hs hw rfl) fun D σ H ⟨G, ρ, o, ρ', R, q, k⟩ => by
    obtain ⟨y1, e1, q⟩ := bindS q
    obtain ⟨z1, e2, q⟩ := bindS q
    obtain ⟨⟨⟨hb, hb2, hb3⟩, hij, hil, hjl⟩, q⟩ := iteS q
    cases q
    intro p hp
    obtain ⟨Ra, Sa⟩ := R.newH (o := TabO p []) hp
    refine ⟨G, ρ, y1.1, y1.2, Ra, e1, fun v G1 H1 P => ⟨G1, y1.2, z1.1, z1.2, P.rel, e2, fun w G2 H2 P2 => ?_⟩⟩
    refine ⟨lim_le (by show 3 ≤ 1000000; omega), fun T fT => ?_⟩
    obtain ⟨Rb, Sb⟩ := P2.rel.newH (o := .tup [.ref p, v, w]) fT
    refine ⟨T, _, rfl, SqT.of upd_same, rfl, .ref p, _, rfl, v, _, rfl, w, _, rfl, rfl, ?_⟩
    have S12 := P.stp.trans P2.stp
    have noP : ¬ Ow σ ρ p := fun z => R.owH z hp
    have hpa : (upd H p (TabO p [])) p ≠ none := by rw [upd_same]; simp
    have noP2 : ¬ Ow σ z1.2 p := fun z => (S12.ow z).elim noP hpa
    have hH2 : H2 p = some (TabO p []) := S12.keep p _ upd_same noP
    have hG2 : G2 p = none := (S12.gnew p hpa noP).trans (R.gfree hp)
    have ry := res_mono Sb (res_mono P2.stp P.res)
    have rz := res_mono Sb P2.res
    have R1 := rel_set (i := j) Rb ry (fO_nb e1)
    have S1 := stp_set (v := v) (r := y1.1) ((Sa.trans S12).trans Sb) hb2 ((pst_trans Sa P).new)
    have rz1 := res_set (i := j) (v := v) (r := y1.1) rz (fO_nb e2) (own_there P.res) P2.new
    have nz : NewR H w z1.1 := (pst_trans (Sa.trans P.stp) P2).new
    have R2 := rel_set (i := l) R1 rz1 (fO_nb e2)
    have S2 := stp_set (v := w) (r := z1.1) S1 (notBg_set hb3 hjl) nz
    have noNew : ∀ {r : RR} {u : V} {H0 : Hp}, NewR H0 u r → H0 p ≠ none → isOwn (SlOf r) = true → u = .ref p → False := fun {r u H0} n h0 ho hu => by
      cases r with
      | va d => cases ho
      | br _ => cases ho
      | ls es => exact h0 (n p hu)
    have hp1 : H1 p ≠ none := P.stp.dom p hpa
    have noP3 : ¬ Ow ((σ.set j (some v)).set l (some w)) ((z1.2.set j (SlOf y1.1)).set l (SlOf z1.1)) p := fun z => by
      rcases ow_set z with z | ⟨ho, hu⟩
      · rcases ow_set z with z | ⟨ho, hu⟩
        · exact noP2 z
        · exact noNew P.new hpa ho hu
      · exact noNew P2.new hp1 ho hu
    have hT : (upd H2 T (.tup [.ref p, v, w])) p = some (TabO p []) := by
      rw [upd_ne (ne_of_none hH2 fT)]
      exact hH2
    have R3 := rel_dc (i := i) (p := p) (o := TabO p []) (m := .t []) R2 hG2 hT ⟨[], rfl, .nil⟩ noP3
    have S3 := stp_dc (i := i) (p := p) (m := .t []) S2 (notBg_set (notBg_set hb (Ne.symm hij)) (Ne.symm hil)) hp
    have c1 : ((σ.set i (some (.ref p))).set j (some v)).set l (some w) = ((σ.set j (some v)).set l (some w)).set i (some (.ref p)) := by
      rw [List.set_comm _ _ hij, List.set_comm _ _ hil]
    have c2 : ((z1.2.set i (.dc (.t []))).set j (SlOf y1.1)).set l (SlOf z1.1) = ((z1.2.set j (SlOf y1.1)).set l (SlOf z1.1)).set i (.dc (.t [])) := by
      rw [List.set_comm _ _ hij, List.set_comm _ _ hil]
    rw [c2] at k
    have kk := k _ G2 _ R3 S3
    rw [← c1] at kk
    exact kk
end
structure FD2 where
  run : List D → List (List Int × D) → D → D → Option (D × List D × List (List Int × D))
def parM (β : List D) (m : List (List Int × D)) (a b : D) : Lo := [.bg β, .va a, .va b, .bd (.t m)]
def spD2 (K : PySem.W.Frag) (fd : FD2) : Sp := fun vs H Q _ => vs.length = 4 ∧ ∃ G β m a b r β' m', Rel K G H (vs.map some) (parM β m a b) ∧ fd.run β m a b = some (r, β', m') ∧
  ∀ v G' H', Rel K G' H' (vs.map some) (parM β' m' a b) → Stp (vs.map some) (parM β m a b) G H (vs.map some) (parM β' m' a b) G' H' → Dp K G' v r → Q v H'
section
variable {K : PySem.W.Frag} {G H : Hp} {σ : St} {β : List D} {m : List (List Int × D)} {a b : D}
theorem own_parM {i : Nat} (h : Own (parM β m a b) i) : i = 0 ∨ i = 3 := by
  obtain ⟨s, e, o⟩ := h
  match i, e with
  | 0, _ => exact .inl rfl
  | 1, e => cases e; cases o
  | 2, e => cases e; cases o
  | 3, _ => exact .inr rfl
  | i + 4, e => cases e
theorem ow_parM {x : Addr} (h : Ow σ (parM β m a b) x) : σ[0]? = some (some (.ref x)) ∨ σ[3]? = some (some (.ref x)) := by
  obtain ⟨i, o, e⟩ := h.own
  rcases own_parM o with rfl | rfl
  · exact .inl e
  · exact .inr e
theorem rel_parM2 {q p : Addr} {xs : List V} {ts : List (List Int × Addr × Value)} {v1 v2 : V} (s : Same G H) (g : G q = none) (hq : H q = some (.lst xs)) (bl : DpAll K G xs β) (g2 : G p = none) (hp : H p = some (TabO p ts)) (tl : TDp K G ts m) (d1 : Dp K G v1 a) (d2 : Dp K G v2 b) :
    Rel K G H ([V.ref q, v1, v2, .ref p].map some) (parM β m a b) := by
  have ne : q ≠ p := fun z => by
    rw [z, hp] at hq
    cases hq
  refine ⟨s, fun i t e => ?_, fun i j x hi hj ei ej => ?_, rfl⟩
  · match i, e with
    | 0, e => cases e; exact ⟨q, xs, rfl, g, hq, bl⟩
    | 1, e => cases e; exact ⟨v1, rfl, d1⟩
    | 2, e => cases e; exact ⟨v2, rfl, d2⟩
    | 3, e => cases e; exact ⟨p, _, rfl, g2, hp, ts, rfl, tl⟩
    | i + 4, e => cases e
  · rcases own_parM hi with rfl | rfl <;> rcases own_parM hj with rfl | rfl
    · rfl
    · cases ei; cases ej; exact absurd rfl ne
    · cases ei; cases ej; exact absurd rfl ne
    · rfl
end
section
variable {X : Cx} {k : Nat} {f : Addr} {fd : FuncData} {ps : List Str} {d : FD2} {e1 e2 : Expr} {x : Str} {p pos : Pos} {f1 f2 : Fn RR}
def fCall2 (d : FD2) (i l : Nat) (f1 f2 : Fn RR) : Fn RR := fun ρ => if (items ρ i).isSome = true then (fF f1 ρ).bind fun x => (fF f2 x.2).bind fun y => (items y.2 i).bind fun β => (dcT y.2 l).bind fun m => (d.run β m x.1 y.1).map fun z => (.va z.1, putT (putItems y.2 i z.2.1) l z.2.2) else none
theorem call2_ok {i l : Nat} {σ : St} {H : Hp} {Q : VK} (h : tD X.K (fCall2 d i l f1 f2) σ H Q) : tCl (spD2 X.K d) (tCons (tVar i) (tCons (tF X.K (fF f1)) (tCons (tF X.K (fF f2)) (tCons (tVar l) tNil)))) σ H Q := by
  obtain ⟨G, ρ, r, ρ', R, q, kk⟩ := h
  unfold fCall2 at q
  by_cases hi : (items ρ i).isSome = true
  · rw [if_pos hi] at q
    obtain ⟨x, c1, q⟩ := bindS q
    obtain ⟨y, c2, q⟩ := bindS q
    obtain ⟨β, c3, q⟩ := bindS q
    obtain ⟨m, c4, q⟩ := bindS q
    obtain ⟨z, c5, q⟩ := mapS q
    cases q
    obtain ⟨β0, e0⟩ := Option.isSome_iff_exists.mp hi
    obtain ⟨a, xs, e4, g4, e5, al, ow, o⟩ := items_ok R e0
    refine ⟨.ref a, e4, G, ρ, x.1, x.2, R, c1, fun v1 G1 H1 R1 S1 d1 => ⟨G1, x.2, y.1, y.2, R1, c2, fun v2 G2 H2 R2 S2 d2 => ?_⟩⟩
    obtain ⟨p, ts, t4, t5, t6, tl⟩ := dcT_ok R2 c4
    obtain ⟨a', xs1, e6, g6, e7, al7, ow7, o7⟩ := items_ok R2 c3
    rw [e4] at e6
    cases e6
    refine ⟨.ref p, t4, rfl, G2, β, m, x.1, y.1, z.1, z.2.1, z.2.2, rel_parM2 R2.sub g6 e7 al7 t5 t6 tl (dpMono S2.gg d1) d2, c5, fun v G' H' R' S' dv => ?_⟩
    have ne : a ≠ p := fun w => by
      rw [w, t6] at e7
      cases e7
    have ot := dcT_own c4
    have owp : Ow σ y.2 p := Ow.of ot t4
    have no : ∀ b, b ≠ a → b ≠ p → ¬ Ow ([V.ref a, v1, v2, .ref p].map some) (parM β m x.1 y.1) b := fun b h1 h2 w => by
      rcases ow_parM w with w | w
      · cases w; exact h1 rfl
      · cases w; exact h2 rfl
    obtain ⟨a2, xs2, q8, g8, e9, al9⟩ := R'.sl 0 (.bg z.2.1) rfl
    cases q8
    obtain ⟨p2, o2, q10, g10, e11, ts2, eo, tl2⟩ := R'.sl 3 (.bd (.t z.2.2)) rfl
    cases q10
    subst eo
    obtain ⟨s, hs, ho⟩ := id o7
    have hlt : i < y.2.length := (List.getElem?_eq_some_iff.mp hs).1
    have hil : i ≠ l := fun w => by
      subst w
      rcases dcT_at c4 with w | w
      · rw [hs] at w; cases w; cases ho
      · rw [hs] at w; cases w; cases ho
    have ep : putItems y.2 i z.2.1 = y.2.set i (sameKind s z.2.1) := by unfold putItems; rw [hs]
    obtain ⟨t, ht, hk, et⟩ : ∃ t : Sl, y.2[l]? = some t ∧ (t = .dc (.t m) ∨ t = .bd (.t m)) ∧ ∃ u : Sl, (u = .dc (.t z.2.2) ∧ t = .dc (.t m) ∨ u = .bd (.t z.2.2) ∧ t = .bd (.t m)) ∧ putT (y.2.set i (sameKind s z.2.1)) l z.2.2 = (y.2.set i (sameKind s z.2.1)).set l u := by
      rcases dcT_at c4 with w | w
      · exact ⟨_, w, .inl rfl, _, .inl ⟨rfl, rfl⟩, by unfold putT; rw [List.getElem?_set_ne hil, w]⟩
      · exact ⟨_, w, .inr rfl, _, .inr ⟨rfl, rfl⟩, by unfold putT; rw [List.getElem?_set_ne hil, w]⟩
    obtain ⟨u, hu, ep2⟩ := et
    have hllt : l < y.2.length := (List.getElem?_eq_some_iff.mp ht).1
    rw [ep, ep2] at kk
    -- the slots behind the call
    have slot : ∀ {j : Nat} {w : Sl}, ((y.2.set i (sameKind s z.2.1)).set l u)[j]? = some w → (j = i ∧ w = sameKind s z.2.1) ∨ (j = l ∧ w = u) ∨ (j ≠ i ∧ j ≠ l ∧ y.2[j]? = some w) := fun {j w} h => by
      by_cases hj : l = j
      · subst hj
        rw [List.getElem?_set_self (by simpa using hllt)] at h
        cases h
        exact .inr (.inl ⟨rfl, rfl⟩)
      · rw [List.getElem?_set_ne hj] at h
        by_cases hj2 : i = j
        · subst hj2
          rw [List.getElem?_set_self hlt] at h
          cases h
          exact .inl ⟨rfl, rfl⟩
        · rw [List.getElem?_set_ne hj2] at h
          exact .inr (.inr ⟨fun z => hj2 z.symm, fun z => hj z.symm, h⟩)
    have back : ∀ {j : Nat} {w : Sl}, ((y.2.set i (sameKind s z.2.1)).set l u)[j]? = some w → isOwn w = true → Own y.2 j := fun {j w} h h2 => by
      rcases slot h with ⟨rfl, _⟩ | ⟨rfl, _⟩ | ⟨_, _, h⟩
      · exact o7.own
      · exact ot
      · exact ⟨w, h, h2⟩
    have R3 : Rel X.K G' H' σ ((y.2.set i (sameKind s z.2.1)).set l u) := by
      refine ⟨R'.sub, fun j w h => ?_, fun j j2 b ⟨t1, h1, o1⟩ ⟨t2, h2, o2⟩ => R2.apart j j2 b (back h1 o1) (back h2 o2), by rw [List.length_set, List.length_set]; exact R2.len⟩
      rcases slot h with ⟨rfl, rfl⟩ | ⟨rfl, rfl⟩ | ⟨n1, n2, h⟩
      · cases s with
        | ls es => exact ⟨a, xs2, e4, g8, e9, al9⟩
        | bg es => exact ⟨a, xs2, e4, g8, e9, al9⟩
        | no => cases ho
        | va d => cases ho
        | hd _ => cases ho
        | dc _ => cases ho
        | bd _ => cases ho
      · rcases hu with ⟨rfl, _⟩ | ⟨rfl, _⟩
        · exact ⟨p, _, t4, g10, e11, ts2, rfl, tl2⟩
        · exact ⟨p, _, t4, g10, e11, ts2, rfl, tl2⟩
      · have qs := R2.sl j w h
        have off : isOwn w = true → ∀ b, σ[j]? = some (some (.ref b)) → b ≠ a ∧ b ≠ p := fun ow2 b eb => ⟨fun z => n1 (R2.apart j i a ⟨w, h, ow2⟩ o7.own (by rw [z] at eb; exact eb) e4), fun z => n2 (R2.apart j l p ⟨w, h, ow2⟩ ot (by rw [z] at eb; exact eb) t4)⟩
        have own : ∀ es, isOwn w = true → Mine X.K G2 H2 σ[j]? es → Mine X.K G' H' σ[j]? es := fun es o2 ⟨b, ys, e10, g10, e11, al11⟩ => by
          obtain ⟨n3, n4⟩ := off o2 b e10
          exact ⟨b, ys, e10, (S'.gnew b (by rw [e11]; simp) (no b n3 n4)).trans g10, S'.keep b _ e11 (no b n3 n4), dpsMono S'.gg al11⟩
        have ownD : ∀ m, isOwn w = true → MineD X.K G2 H2 σ[j]? m → MineD X.K G' H' σ[j]? m := fun es o2 ⟨b, ys, e10, g10, e11, al11⟩ => by
          obtain ⟨n3, n4⟩ := off o2 b e10
          exact ⟨b, ys, e10, (S'.gnew b (by rw [e11]; simp) (no b n3 n4)).trans g10, S'.keep b _ e11 (no b n3 n4), dmMono S'.gg al11⟩
        cases w with
        | no => trivial
        | va d => obtain ⟨u, e10, dp⟩ := qs; exact ⟨u, e10, dpMono S'.gg dp⟩
        | ls es => exact own es rfl qs
        | bg es => exact own es rfl qs
        | dc m => exact ownD m rfl qs
        | bd m => exact ownD m rfl qs
        | hd _ => exact qs
    have S3 : Stp σ y.2 G2 H2 σ ((y.2.set i (sameKind s z.2.1)).set l u) G' H' := by
      refine ⟨S'.gg, fun b o2 e n => S'.keep b o2 e (no b (fun w => n (by rw [w]; exact ow7)) fun w => n (by rw [w]; exact owp)), fun b e n => S'.gnew b e (no b (fun w => n (by rw [w]; exact ow7)) fun w => n (by rw [w]; exact owp)), fun b ⟨j, w, ⟨h1, h2⟩, h3⟩ => ?_, fun j w h hbg => ?_, S'.dom⟩
      · rcases slot h1 with ⟨rfl, rfl⟩ | ⟨rfl, rfl⟩ | ⟨n1, n2, h⟩
        · refine .inl ⟨j, s, ⟨hs, ?_⟩, h3⟩
          cases s <;> first | rfl | (cases h2; done) | (cases ho; done)
        · refine .inl ⟨j, t, ⟨ht, ?_⟩, h3⟩
          rcases hu with ⟨rfl, rfl⟩ | ⟨rfl, rfl⟩
          · rfl
          · cases h2
        · exact .inl ⟨j, w, ⟨h, h2⟩, h3⟩
      · rcases slot h with ⟨rfl, rfl⟩ | ⟨rfl, rfl⟩ | ⟨n1, n2, h⟩
        · refine ⟨s, ⟨hs, ?_⟩, rfl⟩
          cases s <;> first | rfl | (cases hbg; done) | (cases ho; done)
        · refine ⟨t, ⟨ht, ?_⟩, rfl⟩
          rcases hu with ⟨rfl, rfl⟩ | ⟨rfl, rfl⟩
          · cases hbg
          · rfl
        · exact ⟨w, ⟨h, hbg⟩, rfl⟩
    exact kk v G' H' ⟨R3, (S1.trans S2).trans S3, dv, trivial⟩
  · rw [if_neg hi] at q
    cases q
theorem e_call2 {i l : Nat} {y z : Str} {yp zp : Pos} (F : FnG X.prog X.w X.K X.mg X.base k f fd ps (spD2 X.K d)) (hr : Room k X.A) (hgd : X.A.guards = some []) (hg : Gl X x) (hm : X.mg x = some (.ref f)) (hk : PySem.W.keepIn X.K (.ref f) = true) (hb : Binds X.K fd ps [])
    (hN : X.N[i]? = some y) (hv : Vis X.env.scope y) (hd : (y == ("__debug__" : Str)) = false) (hcd : (y == ("__classdict__" : Str)) = false)
    (hN2 : X.N[l]? = some z) (hv2 : Vis X.env.scope z) (hd2 : (z == ("__debug__" : Str)) = false) (hcd2 : (z == ("__classdict__" : Str)) = false)
    (h1 : PE X e1 (tD X.K f1)) (h2 : PE X e2 (tD X.K f2)) (hs1 : starEach [e1, e2, .Name z zp] X.env = (false, eval e1 X.env) :: starEach [e2, .Name z zp] X.env) (hs2 : starEach [e2, .Name z zp] X.env = (false, eval e2 X.env) :: starEach [.Name z zp] X.env)
    (hdb : (x == ("__debug__" : Str)) = false) (hpl : (backTo pos (starEach [e1, e2, .Name z zp] X.env)).any (·.1) = false) :
    PE X (.Call (.Name x p) [.Name y yp, e1, e2, .Name z zp] [] pos) (tD X.K (fCall2 d i l f1 f2)) :=
  weakE (e_call0 F hr hgd hg hm hk hb (pa_cons (pe_var hN hv hd hcd) (pa_cons (to_F h1) (pa_cons (to_F h2) (pa_cons (pe_var hN2 hv2 hd2 hcd2) pa_nil rfl) hs2) hs1) rfl) hdb rfl hpl) fun σ H Q h => call2_ok h
end
section
variable {P : Program} {w : World} {K : PySem.W.Frag} {mg : Str → Option Value} {base : Heap} {k : Nat}
end
end Den


set_option autoImplicit false
namespace Den
open PySem PySem.Spec L2
section
variable {X : Cx} {ke ve : Expr} {pos : Pos} {tk tv : TE}
def tTab1 (K : PySem.W.Frag) (tk tv : TE) : TE := fun σ H Q => ∀ p, H p = none → tk σ (upd H p (TabO p [])) fun x H1 => tv σ H1 fun y H2 => ∃ b k, x = .ref b ∧ H2 p = some (TabO p []) ∧ SqT K H2 b (k.map V.int) ∧ ∀ u, RelV y u → Q (.ref p) (upd H2 p (TabO p [(k, b, u)]))
theorem pe_tab1 (hu : X.A.units + 1 < cLine) (hk : PE X ke tk) (hv : PE X ve tv) : PE X (.Dict [some ke] [ve] pos) (tTab1 X.K tk tv) := by
  refine ⟨fun pins s σ H Q I q => ?_⟩
  have hn := I.hok.fresh (Nat.le_refl s.heap.objs.size)
  have I1 := I.laid (a := s.heap.objs.size) (o := TabO s.heap.objs.size []) (h' := s.heap.push { cls := .type "dict", data := .dict #[] }) (t' := s.toks) (fun _ _ q => Heap.get?_push_of_some _ q) (Nat.le_refl _)
    (tab_new (P := X.prog) (w := X.w) (xs := []) ⟨_, #[], 0, Heap.get?_push_size _ rfl, ⟨rfl, rfl, rfl⟩, rfl, rfl, (fun x hx => by cases hx), List.nodup_nil⟩ (beq_eq_false_iff_ne.mpr (Ne.symm (Nat.ne_of_lt I.big))) (Nat.zero_le _))
  have hps : PPs X pos [some ke] [ve] [(tk, tv)] := pps_cons hk hv pps_nil
  have hlen : (pairTrees [some ke] [ve] X.env pos).length = 1 := pairTrees_length [some ke] [ve] X.env pos rfl rfl
  have hne : pairTrees [some ke] [ve] X.env pos ≠ [] := fun e => by
    rw [e] at hlen
    cases hlen
  rw [arm_eval_Dict, zip_pairTrees [some ke] [ve] X.env pos rfl rfl, dictDisplay_pairs _ hne (by omega)]
  refine wpAny_bind (wpAny_standAt (wpAny_bind (wpAny_subDictH (knd := KTn X.prog X.w) (by show X.A.units < cLine; omega) (by omega) ?_)))
  refine wpAny_mono (hps.run pins _ σ _ (fun ps H2 => match ps with
    | [(x, y)] => ∃ b k, x = .ref b ∧ H2 s.heap.objs.size = some (TabO s.heap.objs.size []) ∧ SqT X.K H2 b (k.map V.int) ∧ ∀ u, RelV y u → Q (.ref s.heap.objs.size) (upd H2 s.heap.objs.size (TabO s.heap.objs.size [(k, b, u)]))
    | _ => False) I1 (q _ hn)) (fun vs s2 h => ?_) fun _ _ e => e
  obtain ⟨ps, H2, I2, rel, h⟩ := h
  match ps, rel, h with
  | [(x, y)], rel, h =>
    obtain ⟨b, k, ex, hp, hsq, hq⟩ := h
    subst ex
    cases rel with
    | @cons _ uv _ us hr ht =>
      cases ht
      obtain ⟨u1, u2⟩ := uv
      have e1 : u1 = .ref b := hr.1
      subst e1
      obtain ⟨dd, hd, hz⟩ := tab_at I2 hp (fun x hx => by cases hx)
      refine ⟨[(k, b, u2)], ⟨rfl, rfl, key_at I2 hsq, trivial⟩, dd, fun h' tk' dd' hs => wpAny_pure ⟨.ref s.heap.objs.size, _, ?_, rfl, hq u2 hr.2⟩⟩
      have he : ∃ q, h'.get? s.heap.objs.size = some q := let ⟨q, _, _, hq, _⟩ := dd'; ⟨q, hq⟩
      exact d_write I2 (by rw [hp]; exact True.intro) hs he (tab_new dd' hd (by rw [sizeLine_eq]; show 1 ≤ 16777216; omega))
end
section
variable {K : PySem.W.Frag} {G H G₀ H₀ : Hp} {σ σ₀ : St} {ρ ρ₀ : Lo} {p : Addr} {o : HO}
theorem rel_over (R : Rel K G H σ ρ) (hg : G p = none) (no : ¬ Ow σ ρ p) : Rel K G (upd H p o) σ ρ := by
  refine ⟨fun a o z => ?_, fun j s z => ?_, R.apart, R.len⟩
  · rw [upd_ne (ne_of_none z hg)]
    exact R.sub a o z
  · have q := R.sl j s z
    have off : isOwn s = true → ∀ a, σ[j]? = some (some (.ref a)) → a ≠ p := fun os a e5 w => no (Ow.of ⟨s, z, os⟩ (by rw [w] at e5; exact e5))
    cases s with
    | no => trivial
    | va d => exact q
    | hd _ => exact q
    | ls es =>
      obtain ⟨a, ys, e3, g3, e4, al3⟩ := q
      exact ⟨a, ys, e3, g3, by rw [upd_ne (off rfl a e3)]; exact e4, al3⟩
    | bg es =>
      obtain ⟨a, ys, e3, g3, e4, al3⟩ := q
      exact ⟨a, ys, e3, g3, by rw [upd_ne (off rfl a e3)]; exact e4, al3⟩
    | dc es =>
      obtain ⟨a, ys, e3, g3, e4, al3⟩ := q
      exact ⟨a, ys, e3, g3, by rw [upd_ne (off rfl a e3)]; exact e4, al3⟩
    | bd es =>
      obtain ⟨a, ys, e3, g3, e4, al3⟩ := q
      exact ⟨a, ys, e3, g3, by rw [upd_ne (off rfl a e3)]; exact e4, al3⟩
theorem stp_over (S : Stp σ₀ ρ₀ G₀ H₀ σ ρ G H) (hp : H₀ p = none) : Stp σ₀ ρ₀ G₀ H₀ σ ρ G (upd H p o) := by
  refine ⟨S.gg, fun a o z n => ?_, S.gnew, S.ols, S.obg, fun a z => ?_⟩
  · rw [upd_ne (ne_of_none z hp)]
    exact S.keep a o z n
  · by_cases ha : a = p
    · rw [ha, upd_same]
      simp
    · rw [upd_ne ha]
      exact S.dom a z
theorem res_stp {σ' : St} {ρ' : Lo} {G' H' : Hp} {v : V} {r : RR} (S : Stp σ ρ G H σ' ρ' G' H') (h : ResR K G H σ ρ v r) (nb : ∀ j, r ≠ .br j) : ResR K G' H' σ' ρ' v r := by
  cases r with
  | va d => exact dpMono S.gg h
  | br i => exact absurd rfl (nb i)
  | ls ds =>
    obtain ⟨p, xs, rfl, g, e2, al, no⟩ := h
    have hp : H p ≠ none := by rw [e2]; simp
    exact ⟨p, xs, rfl, (S.gnew p hp no).trans g, S.keep p _ e2 no, dpsMono S.gg al, fun o => (S.ow o).elim no hp⟩
end
def fTnewS (j l : Nat) (t : D → Lo → Option Lo) (fc fb fk fv : Fn RR) : FS := fun ρ => (fF fc ρ).bind fun x => (fO fb x.2).bind fun y => (fV fk y.2).bind fun a => (vw a.1 a.2).bind fun d => (keyT d).bind fun ky => (fF fv a.2).bind fun v => (t x.1 v.2).bind fun ρ' =>
  if notBg ρ' j = true ∧ notBg ρ' l = true ∧ j ≠ l then some (.nx, (ρ'.set j (SlOf y.1)).set l (.dc (.t [(ky, v.1)]))) else none
section
variable {X : Cx} {c b ke ve : Expr} {fc fb fk fv : Fn RR} {pos : Pos}
theorem s_tnewS {j l : Nat} {t : D → Lo → Option Lo} {vs : List Nat} {es : List Expr} {y z : Str} {py pz pt pe dp pt2 : Pos} {kt ket k2 : Nat} (hu : X.A.units + 1 < cLine) (hc : X.calm = true) (hN : X.N.Nodup) (hj : X.N[j]? = some y) (hl : X.N[l]? = some z)
    (ly : L2.Loc X.env.scope y) (fy : X.fn y = true ∨ X.env.scope.names.lookup y = some .local) (lz : L2.Loc X.env.scope z) (fz : X.fn z = true ∨ X.env.scope.names.lookup z = some .local)
    (hg : PG X (.Tuple es ket pe) (tTg X.K t vs)) (hcc : PE X c (tD X.K fc)) (hb : PE X b (tD X.K fb)) (hk : PE X ke (tD X.K fk)) (hv : PE X ve (tD X.K fv))
    (hs1 : starEach [c, b, .Dict [some ke] [ve] dp] X.env = (false, eval c X.env) :: starEach [b, .Dict [some ke] [ve] dp] X.env) (hs2 : starEach [b, .Dict [some ke] [ve] dp] X.env = (false, eval b X.env) :: starEach [.Dict [some ke] [ve] dp] X.env)
    (hw : swappedStores [.Tuple [.Tuple es ket pe, .Name y py, .Name z pz] kt pt] (.Tuple [c, b, .Dict [some ke] [ve] dp] k2 pt2) X.env = pure none) (hs : swapsWithSole [.Tuple [.Tuple es ket pe, .Name y py, .Name z pz] kt pt] (.Tuple [c, b, .Dict [some ke] [ve] dp] k2 pt2) pos.line X.env = pure false) :
    PS X (.Assign [.Tuple [.Tuple es ket pe, .Name y py, .Name z pz] kt pt] (.Tuple [c, b, .Dict [some ke] [ve] dp] k2 pt2) pos) (tS X.K (fTnewS j l t fc fb fk fv)) :=
  weakS (ps_asg (pe_tup (pa_cons (to_F hcc) (pa_cons (to_O hb) (pa_cons (pe_tab1 hu (to_V hk) (to_F hv)) pa_nil rfl) hs2) hs1))
      (pg_tup (n := 3) hc (pgs_cons hg (pgs_cons (pg_name hN hj ly fy) (pgs_cons (pg_name hN hl lz fz) pgs_nil rfl) rfl) rfl) rfl rfl) hs hw rfl) fun D σ H ⟨G, ρ, o, ρ', R, q, k⟩ => by
    obtain ⟨x1, e1, q⟩ := bindS q
    obtain ⟨y1, e2, q⟩ := bindS q
    obtain ⟨k1, e3, q⟩ := bindS q
    obtain ⟨kd, e4, q⟩ := bindS q
    obtain ⟨ky, e5, q⟩ := bindS q
    obtain ⟨v1, e6, q⟩ := bindS q
    obtain ⟨ρt, e7, q⟩ := bindS q
    obtain ⟨⟨hbj, hbl, hjl⟩, q⟩ := iteS q
    cases q
    refine ⟨G, ρ, x1.1, x1.2, R, e1, fun cv G1 H1 R1 S1 d1 => ⟨G1, x1.2, y1.1, y1.2, R1, e2, fun bv G2 H2 P2 => ?_⟩⟩
    intro p hp
    obtain ⟨Ra, Sa⟩ := P2.rel.newH (o := TabO p []) hp
    refine ⟨G2, y1.2, k1.1, k1.2, Ra, e3, fun kv G3 H3 R3 S3 dk => ⟨G3, k1.2, v1.1, v1.2, R3, e6, fun vv G4 H4 R4 S4 dv => ?_⟩⟩
    have S34 := S3.trans S4
    have noP : ¬ Ow σ y1.2 p := fun z => P2.rel.owH z hp
    have hp4 : H4 p = some (TabO p []) := S34.keep p _ upd_same noP
    have gp4 : G4 p = none := (S34.gnew p (by rw [upd_same]; simp) noP).trans (P2.rel.gfree hp)
    have no4 : ¬ Ow σ v1.2 p := fun z => (S34.ow z).elim noP (by rw [upd_same]; simp)
    have hview := vw_view R3 dk e4
    obtain ⟨a, rfl, ha⟩ := keyT_view R3.sub hview e5
    have haG : SqT X.K G3 a (ky.map V.int) := by
      cases kd with
      | tuple ds =>
        have hg := view_tupG hview
        cases hg with
        | tup h1 h2 =>
          have e6 := ints_dps h2 e5
          subst e6
          exact h1
      | int i => cases e5
      | str x => cases e5
      | none => cases e5
      | bool x => cases e5
      | list x => cases e5
      | dict x => cases e5
    have haG4 := same_tup S4.gg haG
    refine ⟨a, ky, rfl, hp4, same_tup R4.sub haG4, fun u ru => ?_⟩
    have R5 := rel_over (o := TabO p [(ky, a, u)]) R4 gp4 no4
    have S5 : Stp σ y1.2 G2 H2 σ v1.2 G4 (upd H4 p (TabO p [(ky, a, u)])) := stp_over (Sa.trans S34) hp
    refine ⟨lim_le (by show 3 ≤ 1000000; omega), fun T fT => ?_⟩
    obtain ⟨R6, S6⟩ := R5.newH (o := .tup [cv, bv, .ref p]) fT
    have hp5 : (upd H4 p (TabO p [(ky, a, u)])) p = some (TabO p [(ky, a, u)]) := upd_same
    have hp6 : (upd (upd H4 p (TabO p [(ky, a, u)])) T (.tup [cv, bv, .ref p])) p = some (TabO p [(ky, a, u)]) := by
      rw [upd_ne (ne_of_none hp5 fT)]
      exact hp5
    have S56 := S5.trans S6
    have dc6 := dpMono (P2.stp.gg.trans S56.gg) d1
    refine ⟨T, _, rfl, SqT.of upd_same, rfl, cv, _, rfl, G4, v1.2, x1.1, ρt, R6, dc6, e7, fun σ1 Rt St _ _ => ⟨bv, _, rfl, .ref p, _, rfl, rfl, ?_⟩⟩
    have nb := fO_nb e2
    have ry := res_stp (S56.trans St) P2.res nb
    have R7 := rel_set (i := j) Rt ry nb
    have Stot := ((S1.trans P2.stp).trans S56).trans St
    have hpH : H p = none := Classical.byContradiction fun z => (S1.trans P2.stp).dom p z hp
    have S7 := stp_set (i := j) (v := bv) (r := y1.1) Stot hbj (pst_trans S1 P2).new
    have no7 : ¬ Ow (σ1.set j (some bv)) (ρt.set j (SlOf y1.1)) p := fun z => by
      rcases ow_set z with z | ⟨ho, hu⟩
      · rcases St.ow z with z | z
        · exact no4 z
        · rw [hp6] at z
          cases z
      · have h := P2.res
        cases hy : y1.1 with
        | va d => rw [hy] at ho; cases ho
        | br _ => rw [hy] at ho; cases ho
        | ls es =>
          rw [hy] at h
          obtain ⟨p', xs, h1, _, h2, _⟩ := h
          rw [hu] at h1
          cases h1
          rw [hp] at h2
          cases h2
    have R8 := rel_dc (i := l) (p := p) (o := TabO p [(ky, a, u)]) (m := .t [(ky, v1.1)]) R7 gp4 hp6 ⟨_, rfl, .cons haG4 ru dv .nil⟩ no7
    have S8 := stp_dc (i := l) (p := p) (m := .t [(ky, v1.1)]) S7 (notBg_set hbl hjl) hpH
    exact k _ G4 _ R8 S8
end
end Den


set_option autoImplicit false
namespace Den
open PySem PySem.Spec L2 PyProof.Rows
section
variable {prog : Program} {w : World} {A : Around} {E : Value → Shared → Prop} {s : Shared}
theorem places_rev (n : Nat) : Builtin.Slice.slicePlaces ((n : Int) - 1) (-1) (-1) = n := by
  unfold Builtin.Slice.slicePlaces
  have h1 : ¬ ((-1 : Int) > 0) := by omega
  simp only [h1, if_false]
  by_cases h : (n : Int) - 1 > -1
  · rw [if_pos h, show (- -1 : Int) = 1 by decide, Int.ediv_one]
    omega
  · rw [if_neg h]
    omega
theorem sliceApplied_rev {sl : Addr} {vl vu vs : Value} {n : Nat} {Q : Int × Int × Nat → Shared → Prop} (hs : s.heap.IsSliceOf sl vl vu vs) (pl : IsPart vl none) (pu : IsPart vu none) (ps : IsPart vs (some (-1)))
    (h : Q ((n : Int) - 1, -1, n) s) : wpAny (model prog w) A (Builtin.Slice.sliceApplied (.ref sl) (pure (n : Int))) Q E s := by
  obtain ⟨os, hos, hcs, hds⟩ := id hs
  unfold Builtin.Slice.sliceApplied Builtin.Slice.sliceFields
  refine wpAny_bind (wpAny_bind (wpAny_field hos hds (x := vl) rfl (wpAny_bind (wpAny_field hos hds (x := vu) rfl (wpAny_bind (wpAny_field hos hds (x := vs) rfl (wpAny_pure ?_)))))))
  refine wpAny_bind (HT.slicePart_ ps ?_)
  show wpAny _ _ (if ((-1 : Int) == 0) = true then _ else _) _ _ s
  rw [if_neg (by decide)]
  refine wpAny_bind (HT.slicePart_ pl (wpAny_bind (HT.slicePart_ pu (wpAny_bind (wpAny_pure ?_)))))
  show wpAny _ _ (pure (((n : Int) - 1), (-1 : Int), Builtin.Slice.slicePlaces ((n : Int) - 1) (-1) (-1))) _ _ s
  rw [places_rev]
  exact wpAny_pure h
theorem pick_rev (xs : Array Value) : ((List.range xs.size).filterMap fun (m : Nat) => xs[(((xs.size : Int) - 1) + (m : Int) * (-1)).toNat]?).toArray = xs.toList.reverse.toArray := by
  have e : ((List.range xs.size).filterMap fun (m : Nat) => xs[(((xs.size : Int) - 1) + (m : Int) * (-1)).toNat]?) = ((List.range xs.size).map (fun k => xs.size - 1 - k)).filterMap (xs[·]?) := by
    rw [List.filterMap_map]
    have go : ∀ (l : List Nat), (∀ m ∈ l, m < xs.size) → l.filterMap (fun (m : Nat) => xs[(((xs.size : Int) - 1) + (m : Int) * (-1)).toNat]?) = l.filterMap ((fun x => xs[x]?) ∘ fun k => xs.size - 1 - k) := by
      intro l
      induction l with
      | nil => intro _; rfl
      | cons m l ih =>
        intro h
        have hm := h m List.mem_cons_self
        have q : (((xs.size : Int) - 1) + (m : Int) * (-1)).toNat = xs.size - 1 - m := by omega
        rw [List.filterMap_cons, List.filterMap_cons, ih fun k hk => h k (List.mem_cons_of_mem _ hk), q]
        rfl
    exact go _ fun m hm => List.mem_range.mp hm
  rw [e, PySem.W.krv_range, List.filterMap_reverse, PySem.W.krv_all]
theorem getItem_tuple_rev {t sl : Addr} {items : Array Value} {vl vu vs : Value} {Q : Value → Shared → Prop} (ht : IsTup s.heap t items) (hs : s.heap.IsSliceOf sl vl vu vs) (pl : IsPart vl none) (pu : IsPart vu none) (ps : IsPart vs (some (-1)))
    (h : Q (.ref s.heap.objs.size) { s with heap := s.heap.push { cls := .type "tuple", data := .seq items.toList.reverse.toArray } })
    (hsz : items.size ≤ sizeLine) : wpAny (model prog w) A (getItem (.ref t) (.ref sl)) Q E s := by
  have htake : sizeOk (.seq items.toList.reverse.toArray) := by
    show items.toList.reverse.toArray.size ≤ sizeLine
    simpa using hsz
  obtain ⟨os, hos, hcs, hds⟩ := id hs
  have hTs : s.TypeIs (.ref sl) "slice" := ⟨os, hos, hcs⟩
  unfold getItem
  try with_reducible refine wpAny_holding ?_
  first | refine wpAny_bind (wpAny_pure ?_) | skip
  refine wpAny_bind (wpAny_sequenceKey ht.typeIs (by decide) ?_)
  refine wpAny_bind (wpAny_callSpecial?_slot (name := Str.ofString "__getitem__") ht.typeIs PyProof.Rows.slot_tuple_getitem
    (wpAny_call_entry PyProof.Rows.slot_tuple_getitem ht.typeIs entry_tuple_getitem ?_ (args_tuple_getitem _ _)))
  show wpAny _ _ (Builtin.Tuple.tupleItemsOf (.ref t) >>= _) _ _ s
  refine wpAny_bind (tupleItemsOf_ ht ?_)
  refine wpAny_bind (wpAny_typeOf hTs ?_)
  rw [if_pos (by decide)]
  refine wpAny_bind (sliceApplied_rev hs pl pu ps ?_)
  have hno : ¬ ((((items.size : Int) - 1 == 0 && (-1 : Int) == 1 && items.size == items.size) = true)) := by
    intro q
    rw [Bool.and_eq_true, Bool.and_eq_true] at q
    exact absurd q.1.2 (by decide)
  show wpAny _ _ (if ((items.size : Int) - 1 == 0 && (-1 : Int) == 1 && items.size == items.size) = true then _ else _) _ _ s
  rw [if_neg hno, pick_rev]
  first
    | exact wpAny_bind (m := Builtin.Tuple.tupleExact _) (wpAny_newObj_type (wpAny_pure ⟨_, rfl, wpAny_pure h⟩) htake)
    | exact wpAny_bind (m := Builtin.Tuple.tupleExact _) (wpAny_newObj_type (wpAny_bind (wpAny_pure (wpAny_pure ⟨_, rfl, wpAny_pure h⟩))) htake)
    | exact wpAny_bind (wpAny_bind (m := Builtin.Tuple.tupleExact _) (wpAny_newObj_type (wpAny_pure (wpAny_pure ⟨_, rfl, wpAny_pure h⟩)) htake))
    | exact wpAny_bind (wpAny_bind (m := Builtin.Tuple.tupleExact _) (wpAny_newObj_type (wpAny_pure ⟨_, rfl, wpAny_pure h⟩) htake))
end
section
variable {X : Cx} {pos : Pos}
def tRevT (K : PySem.W.Frag) (te : TE) : TE := fun σ H Q => te σ H fun x H1 => ∃ a xs, x = .ref a ∧ SqT K H1 a xs ∧ ∀ p, H1 p = none → Q (.ref p) (upd H1 p (.tup xs.reverse))
theorem pe_revT {e : Expr} {te : TE} {k : Nat} {p1 p2 p3 pos : Pos} (he : PE X e te) : PE X (.Subscript e (.Slice none none (some (.UnaryOp .USub (.Constant (.int 1) k p1) p2)) p3) pos) (tRevT X.K te) := by
  refine ⟨fun pins s σ H Q I h => ?_⟩
  refine Subscript_ (thn (he.run pins s σ H _ I h) fun v s1 ⟨x, H1, I1, r1, q1⟩ => ?_)
  obtain ⟨a, xs, ex, hx, q⟩ := q1
  subst ex
  cases r1
  have hst : PO X (some (.UnaryOp .USub (.Constant (.int 1) k p1) p2)) (tPart (tUn (rU fun i => .int (-i)) (tC (.int 1)))) := po_some (pe_un un_neg pe_int)
  refine wpAny_Slice (thn (po_none.run pins s1 σ H1 (fun o H2 => o = none ∧ H2 = H1) I1 ⟨rfl, rfl⟩) fun vl s2 ⟨l, H2, I2, pl, el, e2⟩ => ?_)
  subst el e2
  refine thn (po_none.run pins s2 σ H2 (fun o H3 => o = none ∧ H3 = H2) I2 ⟨rfl, rfl⟩) fun vu s3 ⟨u, H3, I3, pu, eu, e3⟩ => ?_
  subst eu e3
  refine thn (hst.run pins s3 σ H3 (fun o H4 => o = some (-1) ∧ H4 = H3) I3 ⟨1, rfl, -1, rfl, rfl, rfl⟩) fun vs s4 ⟨o, H4, I4, ps, eo, e4⟩ => ?_
  subst eo e4
  have I5 : Inv X pins σ H4 { s4 with heap := s4.heap.push { cls := .type "slice", data := .fields #[vl, vu, vs] } } := I4.kept (t' := s4.toks) fun b ob q => Heap.get?_push_of_some _ q
  obtain ⟨its, r, ht, hz⟩ := I5.tuple hx
  have hlen := r.length
  show wpAny (model X.prog X.w) X.A (subscriptTail e (.Slice none none (some (.UnaryOp .USub (.Constant (.int 1) k p1) p2)) p3) (.ref a) (.ref s4.heap.objs.size)) (EP X pins σ Q) X.xe { s4 with heap := s4.heap.push { cls := .type "slice", data := .fields #[vl, vu, vs] } }
  refine tail_any (ops := [.ref a, .ref s4.heap.objs.size]) ht.typeIs (PyProof.Rows.slot_tuple_getitem.lookup) ?_ (by with_unfolding_all rfl)
  refine getItem_tuple_rev ht (Heap.IsSliceOf.new _ vl vu vs) pl pu ps ?_ (by rw [List.size_toArray]; omega)
  refine ⟨.ref _, _, I5.laid (t' := s4.toks) (o := .tup xs.reverse) (fun b ob q => Heap.get?_push_of_some _ q) (Nat.le_refl _) ?_, rfl, q _ (I5.hok.fresh (Nat.le_refl _))⟩
  exact ⟨by rw [List.length_reverse]; exact hz, _, r.reverse, IsTup.new _ _⟩
theorem dps_rev {K : PySem.W.Frag} {G : Hp} {xs : List V} {ds : List D} (al : DpAll K G xs ds) : DpAll K G xs.reverse ds.reverse := by
  have go : ∀ {xs : List V} {ds : List D} {ys : List V} {es : List D}, DpAll K G xs ds → DpAll K G ys es → DpAll K G (xs.reverse ++ ys) (ds.reverse ++ es) := by
    intro xs
    induction xs with
    | nil =>
      intro ds ys es a b
      cases a
      exact b
    | cons x xs ih =>
      intro ds ys es a b
      cases a with
      | cons h t =>
        rw [List.reverse_cons, List.reverse_cons, List.append_assoc, List.append_assoc]
        exact ih t (.cons h b)
  have q := go al .nil
  rwa [List.append_nil, List.append_nil] at q
def φRev : D → Option RR
  | .tuple ds => some (.va (.tuple ds.reverse))
  | _ => none
theorem e_rev {e : Expr} {f : Fn RR} {k : Nat} {p1 p2 p3 pos : Pos} (he : PE X e (tD X.K f)) : PE X (.Subscript e (.Slice none none (some (.UnaryOp .USub (.Constant (.int 1) k p1) p2)) p3) pos) (tD X.K (f1 φRev f)) :=
  weakE (pe_revT (to_V he)) fun σ H Q h => by
    obtain ⟨G, ρ, r, ρ', R, q, k⟩ := h
    obtain ⟨x, e1, q⟩ := bindS q
    obtain ⟨d, e2, q⟩ := bindS q
    obtain ⟨r', e3, q⟩ := mapS q
    cases q
    refine ⟨G, ρ, x.1, x.2, R, e1, fun v G1 H1 R1 S1 dv => ?_⟩
    unfold φRev at e3
    split at e3
    · cases e3
      obtain ⟨b, xs, rfl, ha, al⟩ := view_tup R1.sub (vw_view R1 dv e2)
      exact ⟨b, xs, rfl, ha, fun p hp => k _ _ _ (pst_trans S1 ((Made.tup R1.sub hp (dps_rev al)).pst R1))⟩
    · cases e3
def φStr : List D → Option RR
  | [.int i] => if i.natAbs.log2 < 1920 then some (.va (.str (toString i))) else none
  | _ => none
theorem c_str : CallR X (.type "str") (rL X.K φStr) := by
  intro pins s σ H vs us Q I rs h
  obtain ⟨G, ds, r, sg, hv, hφ, k⟩ := h
  unfold φStr at hφ
  split at hφ
  · obtain ⟨hl, rfl⟩ := iteS hφ
    obtain ⟨v, rfl, hx⟩ := views1 hv
    cases view_int hx
    exact call_str_int pins s σ H _ us Q I rs ⟨_, rfl, hl, k _ G H (made_str sg _)⟩
  · cases hφ
end
end Den


set_option autoImplicit false
namespace Den
open PySem PySem.Spec L2
section
variable {prog : Program} {w : World} {A : Around} {R : Result → Shared → Prop} {s : Shared} {elt t0 i0 t1 i1 t2 i2 : Expr} {scope : Scope} {pos : Pos} {it acc : Value} {env : Env}
abbrev SC3 (elt t0 i0 t1 i1 t2 i2 : Expr) (scope : Scope) (pos : Pos) : Expr := .SetComp elt [⟨t0, i0, [], 0⟩, ⟨t1, i1, [], 0⟩, ⟨t2, i2, [], 0⟩] scope pos
theorem turn3_0 : compTurn (SC3 elt t0 i0 t1 i1 t2 i2 scope pos) 0 it acc env = (do
      standAt i0.pos
      match ← pyNext it with
      | none => pure (.done .next)
      | some v =>
        letOwnedTupleGo t0 it v
        assign t0 env v
        let mut ok := true
        for c in ([] : List Expr) do
          if ok then ok ← isTrue c env (eval c env)
        if ok then
          let x ← eval i1 env
          standAt i1.pos
          let x ← foldedSetIterable i1 env x
          let _ ← runOwn (.compStart (SC3 elt t0 i0 t1 i1 t2 i2 scope pos) 1 (← holding [x] (pyIter x)) acc env) env
        again (.compLoop (SC3 elt t0 i0 t1 i1 t2 i2 scope pos) 0 it acc env)) := by rfl
theorem turn3_1 : compTurn (SC3 elt t0 i0 t1 i1 t2 i2 scope pos) 1 it acc env = (do
      standAt i1.pos
      match ← pyNext it with
      | none => pure (.done .next)
      | some v =>
        letOwnedTupleGo t1 it v
        assign t1 env v
        let mut ok := true
        for c in ([] : List Expr) do
          if ok then ok ← isTrue c env (eval c env)
        if ok then
          let x ← eval i2 env
          standAt i2.pos
          let x ← foldedSetIterable i2 env x
          let _ ← runOwn (.compStart (SC3 elt t0 i0 t1 i1 t2 i2 scope pos) 2 (← holding [x] (pyIter x)) acc env) env
        again (.compLoop (SC3 elt t0 i0 t1 i1 t2 i2 scope pos) 1 it acc env)) := by rfl
theorem turn3_2 : compTurn (SC3 elt t0 i0 t1 i1 t2 i2 scope pos) 2 it acc env = (do
      standAt i2.pos
      match ← pyNext it with
      | none => pure (.done .next)
      | some v =>
        letOwnedTupleGo t2 it v
        assign t2 env v
        let mut ok := true
        for c in ([] : List Expr) do
          if ok then ok ← isTrue c env (eval c env)
        if ok then
          (do let v ← eval elt env; standAt elt.pos; let _ ← call (.builtin "set.add") [acc, v])
        again (.compLoop (SC3 elt t0 i0 t1 i1 t2 i2 scope pos) 2 it acc env)) := by rfl

theorem loop3_0 (hs : ∀ x, foldedSetIterable i1 env x = pure x) (I : Nat → Shared → Prop)
    (turn : ∀ n s, I n s → wpAny (model prog w) A (pyNext it) (fun r s₁ => match r with
      | none => R (.ok .next) s₁
      | some v => wpAny (model prog w) A (letOwnedTupleGo t0 it v) (fun _ s₁' => wpAny (model prog w) A (assign t0 env v) (fun _ s₂ =>
          wpAny (model prog w) A (eval i1 env) (fun x s₄ => wpAny (model prog w) A (pyIter x) (fun it1 s₅ =>
              codeAny (model prog w) A (.compStart (SC3 elt t0 i0 t1 i1 t2 i2 scope pos) 1 it1 acc env) (fun r s' => match r with
                | .ok _ => ∃ m, m < n ∧ I m s'
                | .error _ => False) s₅) (notedBy (model prog w) A env fun e s' => R (.error e) s') s₄) (notedBy (model prog w) A env fun e s' => R (.error e) s') s₂) (notedBy (model prog w) A env fun e s' => R (.error e) s') s₁') (notedBy (model prog w) A env fun e s' => R (.error e) s') s₁) (notedBy (model prog w) A env fun e s' => R (.error e) s') s)
    (n : Nat) (h : I n s) :
    codeAny (model prog w) A (.compLoop (SC3 elt t0 i0 t1 i1 t2 i2 scope pos) 0 it acc env) R s := by
  refine codeAny_loop rfl I (fun n s hI => ?_) n h
  show wpAny _ A ((compTurn (SC3 elt t0 i0 t1 i1 t2 i2 scope pos) 0 it acc env).onRaise (fun x => do noteFrame x env; theTreesLotGoes x)) _ _ s
  refine wpAny_noted ?_
  rw [turn3_0]
  refine wpAny_bind (wpAny_standAt (wpAny_bind (wpAny_mono (turn n s hI) (fun r s₁ h₁ => ?_) fun _ _ h' => h')))
  cases r with
  | none => exact wpAny_pure h₁
  | some v =>
    refine wpAny_bind (wpAny_mono h₁ (fun _ s₁' h₁' => ?_) fun _ _ h' => h')
    refine wpAny_bind (wpAny_mono h₁' (fun _ s₂ h₂ => wpAny_bind (wpAny_pure (a := true) ?_)) fun _ _ h' => h')
    refine wpAny_bind (wpAny_mono h₂ (fun x s₄ h₄ => ?_) fun _ _ h' => h')
    refine wpAny_bind (wpAny_standAt (wpAny_bind (wpAny_of_eq (hs x) (wpAny_bind (wpAny_holding (wpAny_mono h₄ (fun it1 s₅ h₅ => ?_) fun _ _ h' => h'))))))
    refine wpAny_bind (wpAny_runOwn ?_)
    rw [Around.mark_none]
    refine codeAny_mono h₅ fun r s' hr => ?_
    cases r with
    | ok f =>
      first
        | exact wpAny_pure ⟨rfl, hr⟩
        | exact wpAny_bind (wpAny_pure (wpAny_pure ⟨rfl, hr⟩))
    | error e => exact hr.elim

theorem loop3_1 (hs : ∀ x, foldedSetIterable i2 env x = pure x) (I : Nat → Shared → Prop)
    (turn : ∀ n s, I n s → wpAny (model prog w) A (pyNext it) (fun r s₁ => match r with
      | none => R (.ok .next) s₁
      | some v => wpAny (model prog w) A (letOwnedTupleGo t1 it v) (fun _ s₁' => wpAny (model prog w) A (assign t1 env v) (fun _ s₂ =>
          wpAny (model prog w) A (eval i2 env) (fun x s₄ => wpAny (model prog w) A (pyIter x) (fun it1 s₅ =>
              codeAny (model prog w) A (.compStart (SC3 elt t0 i0 t1 i1 t2 i2 scope pos) 2 it1 acc env) (fun r s' => match r with
                | .ok _ => ∃ m, m < n ∧ I m s'
                | .error _ => False) s₅) (notedBy (model prog w) A env fun e s' => R (.error e) s') s₄) (notedBy (model prog w) A env fun e s' => R (.error e) s') s₂) (notedBy (model prog w) A env fun e s' => R (.error e) s') s₁') (notedBy (model prog w) A env fun e s' => R (.error e) s') s₁) (notedBy (model prog w) A env fun e s' => R (.error e) s') s)
    (n : Nat) (h : I n s) :
    codeAny (model prog w) A (.compLoop (SC3 elt t0 i0 t1 i1 t2 i2 scope pos) 1 it acc env) R s := by
  refine codeAny_loop rfl I (fun n s hI => ?_) n h
  show wpAny _ A ((compTurn (SC3 elt t0 i0 t1 i1 t2 i2 scope pos) 1 it acc env).onRaise (fun x => do noteFrame x env; theTreesLotGoes x)) _ _ s
  refine wpAny_noted ?_
  rw [turn3_1]
  refine wpAny_bind (wpAny_standAt (wpAny_bind (wpAny_mono (turn n s hI) (fun r s₁ h₁ => ?_) fun _ _ h' => h')))
  cases r with
  | none => exact wpAny_pure h₁
  | some v =>
    refine wpAny_bind (wpAny_mono h₁ (fun _ s₁' h₁' => ?_) fun _ _ h' => h')
    refine wpAny_bind (wpAny_mono h₁' (fun _ s₂ h₂ => wpAny_bind (wpAny_pure (a := true) ?_)) fun _ _ h' => h')
    refine wpAny_bind (wpAny_mono h₂ (fun x s₄ h₄ => ?_) fun _ _ h' => h')
    refine wpAny_bind (wpAny_standAt (wpAny_bind (wpAny_of_eq (hs x) (wpAny_bind (wpAny_holding (wpAny_mono h₄ (fun it1 s₅ h₅ => ?_) fun _ _ h' => h'))))))
    refine wpAny_bind (wpAny_runOwn ?_)
    rw [Around.mark_none]
    refine codeAny_mono h₅ fun r s' hr => ?_
    cases r with
    | ok f =>
      first
        | exact wpAny_pure ⟨rfl, hr⟩
        | exact wpAny_bind (wpAny_pure (wpAny_pure ⟨rfl, hr⟩))
    | error e => exact hr.elim

theorem loop3_2 (I : Nat → Shared → Prop)
    (turn : ∀ n s, I n s → wpAny (model prog w) A (pyNext it) (fun r s₁ => match r with
      | none => R (.ok .next) s₁
      | some v => wpAny (model prog w) A (letOwnedTupleGo t2 it v) (fun _ s₁' => wpAny (model prog w) A (assign t2 env v) (fun _ s₂ =>
          wpAny (model prog w) A (eval elt env) (fun x s₄ =>
              wpAny (model prog w) A (call (.builtin "set.add") [acc, x]) (fun _ s₅ => ∃ m, m < n ∧ I m s₅) (notedBy (model prog w) A env fun e s' => R (.error e) s') s₄) (notedBy (model prog w) A env fun e s' => R (.error e) s') s₂) (notedBy (model prog w) A env fun e s' => R (.error e) s') s₁') (notedBy (model prog w) A env fun e s' => R (.error e) s') s₁) (notedBy (model prog w) A env fun e s' => R (.error e) s') s)
    (n : Nat) (h : I n s) :
    codeAny (model prog w) A (.compLoop (SC3 elt t0 i0 t1 i1 t2 i2 scope pos) 2 it acc env) R s := by
  refine codeAny_loop rfl I (fun n s hI => ?_) n h
  show wpAny _ A ((compTurn (SC3 elt t0 i0 t1 i1 t2 i2 scope pos) 2 it acc env).onRaise (fun x => do noteFrame x env; theTreesLotGoes x)) _ _ s
  refine wpAny_noted ?_
  rw [turn3_2]
  refine wpAny_bind (wpAny_standAt (wpAny_bind (wpAny_mono (turn n s hI) (fun r s₁ h₁ => ?_) fun _ _ h' => h')))
  cases r with
  | none => exact wpAny_pure h₁
  | some v =>
    refine wpAny_bind (wpAny_mono h₁ (fun _ s₁' h₁' => ?_) fun _ _ h' => h')
    refine wpAny_bind (wpAny_mono h₁' (fun _ s₂ h₂ => wpAny_bind (wpAny_pure (a := true) ?_)) fun _ _ h' => h')
    exact wpAny_bind (wpAny_bind (wpAny_mono h₂ (fun x s₄ h₄ => wpAny_bind (wpAny_standAt (wpAny_bind (wpAny_mono h₄ (fun _ s₅ h₅ => wpAny_pure (wpAny_pure ⟨rfl, h₅⟩)) fun _ _ h' => h')))) fun _ _ h' => h'))
theorem start3_1 (h0 : codeAny (model prog w) A (.compLoop (SC3 elt t0 i0 t1 i1 t2 i2 scope pos) 1 it acc env) R s)
    (h : wpAny (model prog w) A (pyIter it) (fun it' s' => codeAny (model prog w) A (.compLoop (SC3 elt t0 i0 t1 i1 t2 i2 scope pos) 1 it' acc env) R s')
      (notedBy (model prog w) A env fun x s' => R (.error x) s') s) :
    codeAny (model prog w) A (.compStart (SC3 elt t0 i0 t1 i1 t2 i2 scope pos) 1 it acc env) R s := by
  refine codeAny_of_tree ?_
  show wpAny _ _ ((compStart (SC3 elt t0 i0 t1 i1 t2 i2 scope pos) 1 it acc env).onRaise (fun x => do noteFrame x env; standAt theWindowsPlace)) _ _ s
  refine wpAny_notedAt ?_
  unfold compStart
  show wpAny _ _ (ask >>= _) _ _ s
  refine wpAny_bind (wpAny_askSetting (wpAny_ite ?_))
  split
  · first
      | exact wpAny_bind (wpAny_pure (wpAny_pure (And.intro rfl h0)))
      | exact wpAny_pure (And.intro rfl h0)
  · first
      | exact wpAny_bind (wpAny_rule (wpAny_bind (wpAny_standAt (wpAny_bind (wpAny_mono h (fun it' s' h' => wpAny_pure (And.intro rfl h')) fun _ _ x => x)))))
      | (refine wpAny_bind (wpAny_rule ?_); show wpAny _ _ (standAt i1.pos >>= _) _ _ s; exact wpAny_bind (wpAny_standAt (wpAny_bind (wpAny_mono h (fun it' s' h' => wpAny_pure (And.intro rfl h')) fun _ _ x => x))))
theorem start3_2 (h0 : codeAny (model prog w) A (.compLoop (SC3 elt t0 i0 t1 i1 t2 i2 scope pos) 2 it acc env) R s)
    (h : wpAny (model prog w) A (pyIter it) (fun it' s' => codeAny (model prog w) A (.compLoop (SC3 elt t0 i0 t1 i1 t2 i2 scope pos) 2 it' acc env) R s')
      (notedBy (model prog w) A env fun x s' => R (.error x) s') s) :
    codeAny (model prog w) A (.compStart (SC3 elt t0 i0 t1 i1 t2 i2 scope pos) 2 it acc env) R s := by
  refine codeAny_of_tree ?_
  show wpAny _ _ ((compStart (SC3 elt t0 i0 t1 i1 t2 i2 scope pos) 2 it acc env).onRaise (fun x => do noteFrame x env; standAt theWindowsPlace)) _ _ s
  refine wpAny_notedAt ?_
  unfold compStart
  show wpAny _ _ (ask >>= _) _ _ s
  refine wpAny_bind (wpAny_askSetting (wpAny_ite ?_))
  split
  · first
      | exact wpAny_bind (wpAny_pure (wpAny_pure (And.intro rfl h0)))
      | exact wpAny_pure (And.intro rfl h0)
  · first
      | exact wpAny_bind (wpAny_rule (wpAny_bind (wpAny_standAt (wpAny_bind (wpAny_mono h (fun it' s' h' => wpAny_pure (And.intro rfl h')) fun _ _ x => x)))))
      | (refine wpAny_bind (wpAny_rule ?_); show wpAny _ _ (standAt i2.pos >>= _) _ _ s; exact wpAny_bind (wpAny_standAt (wpAny_bind (wpAny_mono h (fun it' s' h' => wpAny_pure (And.intro rfl h')) fun _ _ x => x))))
end

def SetIO (w : World) (a : Addr) (S : Int → Bool) (n : Nat) : HO := .ext fun h => SetR w h a S n
theorem setIO_new {w : World} {P : Program} {H : Hp} {h : Heap} {a : Addr} {S : Int → Bool} {n : Nat} (R : SetR w h a S n) : ObjOk P w H h a (SetIO w a S n) := by
  have ⟨o, _, _, _, ho, _⟩ := R
  exact ⟨R, ⟨o, ho⟩, fun h1 h2 p k => SetR.at p k⟩
section
variable {X : Cx}
theorem setIO_get {pins : List (Addr × Obj)} {σ : L2.St} {H : Hp} {s : Shared} {a : Addr} {S : Int → Bool} {n : Nat} (I : Inv X pins σ H s) (ha : H a = some (SetIO X.w a S n)) : SetR X.w s.heap a S n := (I.hok a _ ha).1
theorem addI_ok {pins : List (Addr × Obj)} {σ : L2.St} {H : Hp} {s : Shared} {E : Value → Shared → Prop} {D : Addr} {S : Int → Bool} {n : Nat} {y : Int} {tk : Tok} {Q : Value → Shared → Prop} (I : Inv X pins σ H s) (hD : H D = some (SetIO X.w D S n)) (room : n + 1 < scanBound)
    (h : ∀ s', Inv X pins σ (upd H D (SetIO X.w D (fun j => S j || decide (j = y)) (if S y = true then n else n + 1))) s' → Q .none s') : wpAny (model X.prog X.w) X.A (call (.builtin "set.add") [.ref D, .int y tk]) Q E s := by
  have R := setIO_get I hD
  refine setR_add R room fun h' sb new => ?_
  have he : ∃ u, h'.get? D = some u := by
    have ⟨o, _, _, _, ho, _⟩ := new
    exact ⟨o, ho⟩
  exact h _ (I.write (e := D) (t' := s.toks + 1) (by rw [hD]; trivial) (.inl rfl) (fun b u hb hu => (sb.2 b hb).trans hu) he (setIO_new new))
def tIn (wi : TI) (g : TG) (vs : List Nat) (body : L2.St → Hp → (Hp → Prop) → Prop) : L2.St → Hp → (Hp → Prop) → Prop := fun σ2 H2 Nx => wi σ2 H2 fun J1 H4 => ∃ W1 : Nat → Nat → Hp → Prop, (∃ m, W1 0 m H4) ∧ ∀ j k H, W1 j k H →
  (J1.stop j H ∧ Nx H) ∨ (J1.go j H ∧ ∃ Nx1 : Hp → Prop, (∀ H', Nx1 H' → ∃ k', k' < k ∧ W1 (j + 1) k' H') ∧ ∀ x H', J1.yld j H x H' → g x (wipe σ2 vs) H' fun σ3 H5 => wipe σ3 vs = wipe σ2 vs ∧ body σ3 H5 Nx1)
def tAdd (w : World) (D : Addr) (te : TE) : L2.St → Hp → (Hp → Prop) → Prop := fun σ H Nx => te σ H fun y H8 => ∃ (c : Int) (S : Int → Bool) (n : Nat), y = .int c ∧ H8 D = some (SetIO w D S n) ∧ n + 1 < scanBound ∧ Nx (upd H8 D (SetIO w D (fun j => S j || decide (j = c)) (if S c = true then n else n + 1)))
def tS3 (w : World) (wi : TI) (g : TG) (wi1 : TI) (g1 : TG) (wi2 : TI) (g2 : TG) (te : TE) (vs vs1 vs2 : List Nat) : TE := fun σ H Q => wi σ H fun J H1 => ∀ D, H1 D = none → ∃ W : Nat → Nat → Hp → Prop, (∃ m, W 0 m (upd H1 D (SetIO w D (fun _ => false) 0))) ∧ ∀ i m H, W i m H →
  (J.stop i H ∧ Q (.ref D) H) ∨ (J.go i H ∧ ∃ Nx : Hp → Prop, (∀ H', Nx H' → ∃ m', m' < m ∧ W (i + 1) m' H') ∧ ∀ x H', J.yld i H x H' → g x (wipe σ vs) H' fun σ2 H2 => wipe σ2 vs = wipe σ vs ∧ tIn wi1 g1 vs1 (tIn wi2 g2 vs2 (tAdd w D te)) σ2 H2 Nx)
theorem kp_of {vs : List Nat} {σ σ' : L2.St} (e : wipe σ' vs = wipe σ vs) : (wipe σ vs).length = σ'.length ∧ ∀ (j : Nat) v, (wipe σ vs)[j]? = some (some v) → σ'[j]? = some (some v) := by
  rw [← e]
  exact ⟨wipe_length σ' vs, fun j v h => (wipe_some h).1⟩
def Kp (vs : List Nat) (σ σ' : L2.St) : Prop := (wipe σ vs).length = σ'.length ∧ ∀ (j : Nat) v, (wipe σ vs)[j]? = some (some v) → σ'[j]? = some (some v)
theorem kp_self {vs ws : List Nat} {σ σ2 : L2.St} (k : Kp vs σ σ2) (hw : ∀ i ∈ ws, i ∈ vs) : Kp vs σ (wipe σ2 ws) := by
  refine ⟨k.1.trans (wipe_length σ2 ws).symm, fun j v h => ?_⟩
  have hj : j ∉ ws := fun z => (wipe_some h).2 (hw j z)
  rw [wipe_out hj]
  exact k.2 j v h
theorem pe_s3 {elt t0 i0 t1 i1 t2 i2 : Expr} {scope : Scope} {own : List (Str × Nat)} {vs1 vs2 : List Nat} {pos : Pos} {wi wi1 wi2 : TI} {g g1 g2 : TG} {te : TE} (hc : X.calm = true) (hN : X.N.Nodup) (hi : PI X t0 i0 wi) (ok : BlkOk X.N X.env.scope scope own) (hv1 : ∀ i ∈ vs1, i ∈ own.map (·.2)) (hv2 : ∀ i ∈ vs2, i ∈ vs1)
    (hg : ∀ (s : Shared) (H : Hp) (C : Addr) (cl : List (Str × Addr)) (fp : List Addr), PG (X.blk s H scope (compEnvC scope cl C X.env) fp) t0 g)
    (hi1 : ∀ (s : Shared) (H : Hp) (C : Addr) (cl : List (Str × Addr)) (fp : List Addr), PI (X.blk s H scope (compEnvC scope cl C X.env) fp) t1 i1 wi1)
    (hg1 : ∀ (s : Shared) (H : Hp) (C : Addr) (cl : List (Str × Addr)) (fp : List Addr), PG (X.blk s H scope (compEnvC scope cl C X.env) fp) t1 g1)
    (hi2 : ∀ (s : Shared) (H : Hp) (C : Addr) (cl : List (Str × Addr)) (fp : List Addr), PI (X.blk s H scope (compEnvC scope cl C X.env) fp) t2 i2 wi2)
    (hg2 : ∀ (s : Shared) (H : Hp) (C : Addr) (cl : List (Str × Addr)) (fp : List Addr), PG (X.blk s H scope (compEnvC scope cl C X.env) fp) t2 g2)
    (he : ∀ (s : Shared) (H : Hp) (C : Addr) (cl : List (Str × Addr)) (fp : List Addr), PE (X.blk s H scope (compEnvC scope cl C X.env) fp) elt te) (hs : ∀ x, foldedSetIterable i0 X.env x = pure x) (hs1 : ∀ env x, foldedSetIterable i1 env x = pure x) (hs2 : ∀ env x, foldedSetIterable i2 env x = pure x) :
    PE X (SC3 elt t0 i0 t1 i1 t2 i2 scope pos) (tS3 X.w wi g wi1 g1 wi2 g2 te (own.map (·.2)) vs1 vs2) := by
  refine ⟨fun pins s σ H Q I h => ?_⟩
  rw [PpSet.eval_SetComp]
  have hfree : ∀ y ∈ scope.names, y.2 = .free → ∃ c, X.env.cells.lookup y.1 = some c := fun y hy e => by
    rcases ok.free y hy e with k | k
    · exact I.ok.has _ (.inl k)
    · exact I.ok.has _ (.inr k)
  refine wpAny_comprehension_free (use := none) rfl hs (closure_ok hfree) ok.kind (fun y hy e => by rw [ok.uniq y hy, e])
    (thn (hi.run pins s σ H _ I h) fun xv s1 hx => thn hx fun itv s2 h2 => ?_)
  obtain ⟨it, fp, tn, J, H2, e, I2, T, st2, f2, q⟩ := h2
  subst e
  refine PpSet.newSet_ok (newEnv_comp ?_)
  generalize hD : s2.heap.objs.size = D
  have hDn : H2 D = none := I2.hok.fresh (Nat.le_of_eq hD)
  obtain ⟨W, ⟨m0, w0⟩, turn⟩ := q D hDn
  generalize hs3 : ({ s2 with heap := s2.heap.push { cls := .type "set", dict := none, data := .set #[] 0 (.fresh 0 0 (!X.w.params.followText "set-order")) } } : Shared) = s3
  have I3 : Inv X pins σ (upd H2 D (SetIO X.w D (fun _ => false) 0)) s3 := by
    rw [← hs3]
    refine I2.laid (t' := s2.toks) (fun b o e => Heap.get?_push_of_some _ e) (Nat.le_of_eq hD) ?_
    rw [← hD]
    exact setIO_new (setR_fresh X.w)
  have h3 : s3.heap = s2.heap.push { cls := .type "set", dict := none, data := .set #[] 0 (.fresh 0 0 (!X.w.params.followText "set-order")) } := by rw [← hs3]
  have sz : ∀ b ∈ fp, b < s2.heap.objs.size := fun b hb => by
    obtain ⟨o, e, _⟩ := T.obj _ _ st2 b hb
    exact Heap.lt_size e
  have f3 : ∀ b ∈ fp, FpOk X pins (upd H2 D (SetIO X.w D (fun _ => false) 0)) b ∧ b < s3.heap.objs.size := fun b hb => by
    have hlt := sz b hb
    refine ⟨⟨?_, (f2 b hb).2⟩, by rw [h3, Heap.size_push]; exact Nat.lt_succ_of_lt hlt⟩
    rw [upd_ne (by rw [← hD]; exact Nat.ne_of_lt hlt)]
    exact (f2 b hb).1
  have st3 : tn 0 s3.heap := T.keep _ _ _ st2 fun b _ o e => by rw [h3]; exact Heap.get?_push_of_some _ e
  have I4 := block_start I3 ok hN f3
  have pg := hg s3 (upd H2 D (SetIO X.w D (fun _ => false) 0)) s3.heap.objs.size (cellsFrom (s3.heap.objs.size + 1) scope.names (cloFrom X.env.cells scope.names [])) fp
  have pe := he s3 (upd H2 D (SetIO X.w D (fun _ => false) 0)) s3.heap.objs.size (cellsFrom (s3.heap.objs.size + 1) scope.names (cloFrom X.env.cells scope.names [])) fp
  have pi1 := hi1 s3 (upd H2 D (SetIO X.w D (fun _ => false) 0)) s3.heap.objs.size (cellsFrom (s3.heap.objs.size + 1) scope.names (cloFrom X.env.cells scope.names [])) fp
  have pg1 := hg1 s3 (upd H2 D (SetIO X.w D (fun _ => false) 0)) s3.heap.objs.size (cellsFrom (s3.heap.objs.size + 1) scope.names (cloFrom X.env.cells scope.names [])) fp
  have pi2 := hi2 s3 (upd H2 D (SetIO X.w D (fun _ => false) 0)) s3.heap.objs.size (cellsFrom (s3.heap.objs.size + 1) scope.names (cloFrom X.env.cells scope.names [])) fp
  have pg2 := hg2 s3 (upd H2 D (SetIO X.w D (fun _ => false) 0)) s3.heap.objs.size (cellsFrom (s3.heap.objs.size + 1) scope.names (cloFrom X.env.cells scope.names [])) fp
  show codeAny _ _ (.compStart (SC3 elt t0 i0 t1 i1 t2 i2 scope pos) 0 (.ref it) (.ref D) (compEnvC scope (cellsFrom (s3.heap.objs.size + 1) scope.names (cloFrom X.env.cells scope.names [])) s3.heap.objs.size X.env)) (compPost (model X.prog X.w) X.A X.xe none (EP X pins σ Q) (.ref D) s3.heap.objs.size) { s3 with heap := pushCells (s3.heap.push { cls := .type "dict", data := .dict #[] }) scope.names }
  have nfp : ∀ b ∈ fp, (upd H2 D (SetIO X.w D (fun _ => false) 0)) b = none := fun b hb => (f3 b hb).1.1
  generalize hce : compEnvC scope (cellsFrom (s3.heap.objs.size + 1) scope.names (cloFrom X.env.cells scope.names [])) s3.heap.objs.size X.env = ce at I4 pg pe pi1 pg1 pi2 pg2 ⊢
  have cL : ce.locals = s3.heap.objs.size := by subst hce; rfl
  generalize hH3 : upd H2 D (SetIO X.w D (fun _ => false) 0) = H3 at I3 I4 pg pe pi1 pg1 pi2 pg2 w0 nfp f3
  generalize hs4 : ({ s3 with heap := pushCells (s3.heap.push { cls := .type "dict", data := .dict #[] }) scope.names } : Shared) = s4 at I4 ⊢
  have st4 : tn 0 s4.heap := T.keep _ _ _ st3 fun b _ o e => by rw [← hs4]; exact pushCells_keeps _ _ _ _ (Heap.get?_push_of_some _ e)
  have stat : ∀ {σ' : L2.St} {H' : Hp} {s' : Shared}, Inv (X.blk s3 H3 scope ce fp) [] σ' H' s' → (∀ b ∈ fp, H' b = none) → ∀ b ∈ fp, FpOk (X.blk s3 H3 scope ce fp) [] H' b := fun {σ' H' s'} I' hn b hb =>
    ⟨hn b hb, (I'.ok.exf b hb).1, I'.ok.exfs b hb, .inl hb, fun x c e => (I'.ok.exf b hb).2 x c e, fun p hp => absurd (show p ∈ ([] : List (Addr × Obj)) ++ [] from hp) (by simp)⟩
  -- the third clause
  have clause2 : ∀ {P : List (Addr × Obj)} {σ0 σa : L2.St} {Ha : Hp} {sa : Shared} {Nx : Hp → Prop} {F : Shared → Prop}, Kp vs1 σ0 σa → Inv (X.blk s3 H3 scope ce fp) P σa Ha sa → tIn wi2 g2 vs2 (tAdd X.w D te) σa Ha Nx →
      (∀ {σb : L2.St} {Hb : Hp} {sb : Shared}, Kp vs1 σ0 σb → Inv (X.blk s3 H3 scope ce fp) P σb Hb sb → Nx Hb → F sb) →
      wpAny (model X.prog X.w) X.A (eval i2 ce) (fun x s₄ => wpAny (model X.prog X.w) X.A (pyIter x) (fun it1 s₅ =>
              codeAny (model X.prog X.w) X.A (.compStart (SC3 elt t0 i0 t1 i1 t2 i2 scope pos) 2 it1 (.ref D) ce) (fun r s' => match r with
                | .ok _ => F s'
                | .error _ => False) s₅) (fun _ _ => False) s₄) (fun _ _ => False) sa := by
    intro P σ0 σa Ha sa Nx F kp Ia hb hF
    refine thnF (pi2.run _ sa σa Ha _ Ia hb) fun xv s10 hx => thnF hx fun itv s11 h11 => ?_
    obtain ⟨it1, fp1, tn1, J1, H11, e1, I11, T1, st11, f11, W1, ⟨m1, w1⟩, turn1⟩ := h11
    subst e1
    have stat1 : ∀ {H' : Hp}, (∀ b ∈ fp1, H' b = none) → ∀ b ∈ fp1, FpOk (X.blk s3 H3 scope ce fp) P H' b := fun hn b hb => ⟨hn b hb, (f11 b hb).2⟩
    have loop2 : codeAny (model X.prog X.w) X.A (.compLoop (SC3 elt t0 i0 t1 i1 t2 i2 scope pos) 2 (.ref it1) (.ref D) ce) (fun r s' => match r with
        | .ok _ => F s'
        | .error _ => False) s11 := by
      refine loop3_2 (fun k s' => ∃ j H', Inv (X.blk s3 H3 scope ce fp) P (wipe σa vs2) H' s' ∧ tn1 j s'.heap ∧ (∀ b ∈ fp1, H' b = none) ∧ W1 j k H') ?_ m1 ⟨0, H11, I11.weak (wipe_length _ _) (fun j v e => (wipe_some e).1), st11, fun b hb => (f11 b hb).1, w1⟩
      rintro k s12 ⟨j, H12, I12, st12, n12, w12⟩
      rcases turn1 j k H12 w12 with ⟨stop1, nx1⟩ | ⟨go1, Nx1, hNx1, step1⟩
      · refine thnF (T1.done (X.blk s3 H3 scope ce fp) rfl rfl rfl hc j _ s12 (wipe σa vs2) H12 (fun _ _ => False) I12 (stat1 n12) st12 stop1) fun r s13 ⟨hr, I13⟩ => ?_
        subst hr
        exact hF (kp_self kp hv2) I13 nx1
      · refine thnF (T1.item (X.blk s3 H3 scope ce fp) rfl rfl rfl hc j _ s12 (wipe σa vs2) H12 (fun _ _ => False) I12 (stat1 n12) st12 go1) fun r s13 ⟨u1, hr, h13⟩ => ?_
        subst hr
        refine thnF h13 fun _ s14 ⟨x1, H14, I14, r14, y14, st14, n14⟩ => ?_
        have I14' := I14.pinned (stat1 n14) (T1.obj _ _ st14)
        refine thnF (pg2.run _ s14 (wipe σa vs2) H14 x1 u1 _ I14' r14 (step1 x1 H14 y14)) fun _ s15 ⟨σ15, H15, I15, hw15, q15⟩ => ?_
        have fin1 : ∀ {s' : Shared} {H' : Hp}, Inv (X.blk s3 H3 scope ce fp) (P ++ pinsAt fp1 s14.heap) σ15 H' s' → Nx1 H' → ∃ m, m < k ∧ ∃ j H', Inv (X.blk s3 H3 scope ce fp) P (wipe σa vs2) H' s' ∧ tn1 j s'.heap ∧ (∀ b ∈ fp1, H' b = none) ∧ W1 j m H' := fun {s' H'} I' nx => by
          obtain ⟨m', hm, w'⟩ := hNx1 H' nx
          have pin' : ∀ b ∈ fp1, ∀ o, s14.heap.get? b = some o → s'.heap.get? b = some o ∧ H' b = none := fun b hb o e =>
            let z := I'.pin (b, o) (List.mem_append_right _ (List.mem_append_right _ (mem_pinsAt hb e)))
            ⟨z.1, z.2.1⟩
          refine ⟨m', hm, j + 1, H', I'.unpinned.weak (by rw [← hw15, wipe_length]) (fun j v e => by rw [← hw15] at e; exact (wipe_some e).1), T1.keep _ _ _ st14 fun b hb o e => (pin' b hb o e).1, fun b hb => ?_, w'⟩
          obtain ⟨o, e, _⟩ := T1.obj _ _ st14 b hb
          exact (pin' b hb o e).2
        refine thnF (pe.run _ s15 σ15 H15 _ I15 q15) fun z s17 ⟨yv, H17, I17, r17, cb, S0, n0, ey, hD17, hz17, nx⟩ => ?_
        subst ey
        obtain ⟨tk, rfl⟩ := r17
        exact addI_ok (X := X.blk s3 H3 scope ce fp) I17 hD17 hz17 fun s18 I18 => fin1 I18 nx
    exact start3_2 loop2 (T1.self X.A 0 _ _ _ st11 loop2)
  -- the second clause
  have clause1 : ∀ {P : List (Addr × Obj)} {σa : L2.St} {Ha : Hp} {sa : Shared} {Nx : Hp → Prop} {F : Shared → Prop}, Kp (own.map (·.2)) σ σa → Inv (X.blk s3 H3 scope ce fp) P σa Ha sa → tIn wi1 g1 vs1 (tIn wi2 g2 vs2 (tAdd X.w D te)) σa Ha Nx →
      (∀ {σb : L2.St} {Hb : Hp} {sb : Shared}, Kp (own.map (·.2)) σ σb → Inv (X.blk s3 H3 scope ce fp) P σb Hb sb → Nx Hb → F sb) →
      wpAny (model X.prog X.w) X.A (eval i1 ce) (fun x s₄ => wpAny (model X.prog X.w) X.A (pyIter x) (fun it1 s₅ =>
              codeAny (model X.prog X.w) X.A (.compStart (SC3 elt t0 i0 t1 i1 t2 i2 scope pos) 1 it1 (.ref D) ce) (fun r s' => match r with
                | .ok _ => F s'
                | .error _ => False) s₅) (fun _ _ => False) s₄) (fun _ _ => False) sa := by
    intro P σa Ha sa Nx F kp Ia hb hF
    refine thnF (pi1.run _ sa σa Ha _ Ia hb) fun xv s10 hx => thnF hx fun itv s11 h11 => ?_
    obtain ⟨it1, fp1, tn1, J1, H11, e1, I11, T1, st11, f11, W1, ⟨m1, w1⟩, turn1⟩ := h11
    subst e1
    have stat1 : ∀ {H' : Hp}, (∀ b ∈ fp1, H' b = none) → ∀ b ∈ fp1, FpOk (X.blk s3 H3 scope ce fp) P H' b := fun hn b hb => ⟨hn b hb, (f11 b hb).2⟩
    have loop1 : codeAny (model X.prog X.w) X.A (.compLoop (SC3 elt t0 i0 t1 i1 t2 i2 scope pos) 1 (.ref it1) (.ref D) ce) (fun r s' => match r with
        | .ok _ => F s'
        | .error _ => False) s11 := by
      refine loop3_1 (hs2 ce) (fun k s' => ∃ j H', Inv (X.blk s3 H3 scope ce fp) P (wipe σa vs1) H' s' ∧ tn1 j s'.heap ∧ (∀ b ∈ fp1, H' b = none) ∧ W1 j k H') ?_ m1 ⟨0, H11, I11.weak (wipe_length _ _) (fun j v e => (wipe_some e).1), st11, fun b hb => (f11 b hb).1, w1⟩
      rintro k s12 ⟨j, H12, I12, st12, n12, w12⟩
      rcases turn1 j k H12 w12 with ⟨stop1, nx1⟩ | ⟨go1, Nx1, hNx1, step1⟩
      · refine thnF (T1.done (X.blk s3 H3 scope ce fp) rfl rfl rfl hc j _ s12 (wipe σa vs1) H12 (fun _ _ => False) I12 (stat1 n12) st12 stop1) fun r s13 ⟨hr, I13⟩ => ?_
        subst hr
        exact hF (kp_self kp hv1) I13 nx1
      · refine thnF (T1.item (X.blk s3 H3 scope ce fp) rfl rfl rfl hc j _ s12 (wipe σa vs1) H12 (fun _ _ => False) I12 (stat1 n12) st12 go1) fun r s13 ⟨u1, hr, h13⟩ => ?_
        subst hr
        refine thnF h13 fun _ s14 ⟨x1, H14, I14, r14, y14, st14, n14⟩ => ?_
        have I14' := I14.pinned (stat1 n14) (T1.obj _ _ st14)
        refine thnF (pg1.run _ s14 (wipe σa vs1) H14 x1 u1 _ I14' r14 (step1 x1 H14 y14)) fun _ s15 ⟨σ15, H15, I15, hw15, q15⟩ => ?_
        have kp15 : Kp vs1 σa σ15 := kp_of hw15
        have fin1 : ∀ {s' : Shared} {H' : Hp} {σb : L2.St}, (wipe σa vs1).length = σb.length → (∀ (j : Nat) v, (wipe σa vs1)[j]? = some (some v) → σb[j]? = some (some v)) → Inv (X.blk s3 H3 scope ce fp) (P ++ pinsAt fp1 s14.heap) σb H' s' → Nx1 H' → ∃ m, m < k ∧ ∃ j H', Inv (X.blk s3 H3 scope ce fp) P (wipe σa vs1) H' s' ∧ tn1 j s'.heap ∧ (∀ b ∈ fp1, H' b = none) ∧ W1 j m H' := fun {s' H' σb} hl hk I' nx => by
          obtain ⟨m', hm, w'⟩ := hNx1 H' nx
          have pin' : ∀ b ∈ fp1, ∀ o, s14.heap.get? b = some o → s'.heap.get? b = some o ∧ H' b = none := fun b hb o e =>
            let z := I'.pin (b, o) (List.mem_append_right _ (List.mem_append_right _ (mem_pinsAt hb e)))
            ⟨z.1, z.2.1⟩
          refine ⟨m', hm, j + 1, H', I'.unpinned.weak hl hk, T1.keep _ _ _ st14 fun b hb o e => (pin' b hb o e).1, fun b hb => ?_, w'⟩
          obtain ⟨o, e, _⟩ := T1.obj _ _ st14 b hb
          exact (pin' b hb o e).2
        exact wpAny_mono (clause2 kp15 I15 q15 fun kpb Ib nx => fin1 kpb.1 kpb.2 Ib nx) (fun x s' h => wpAny_mono h (fun _ _ q => q) fun _ _ z => z.elim) fun _ _ z => z.elim
    exact start3_1 loop1 (T1.self X.A 0 _ _ _ st11 loop1)
  have loop : codeAny (model X.prog X.w) X.A (.compLoop (SC3 elt t0 i0 t1 i1 t2 i2 scope pos) 0 (.ref it) (.ref D) ce) (compPost (model X.prog X.w) X.A X.xe none (EP X pins σ Q) (.ref D) s3.heap.objs.size) s4 := by
    refine loop3_0 (hs1 ce) (fun n s' => ∃ i H', Inv (X.blk s3 H3 scope ce fp) [] (wipe σ (own.map (·.2))) H' s' ∧ tn i s'.heap ∧ (∀ b ∈ fp, H' b = none) ∧ W i n H') ?_ m0 ⟨0, H3, I4, st4, nfp, w0⟩
    rintro n s5 ⟨i, H5, I5, st5, n5, w5⟩
    rcases turn i n H5 w5 with ⟨stop, qq⟩ | ⟨go, Nx, hNx, step⟩
    · have td := T.done (X.blk s3 H3 scope ce fp) rfl rfl rfl hc i [] s5 _ H5 (fun _ _ => False) I5 (stat I5 n5) st5 stop
      refine thnF td fun r s6 ⟨hr, I6⟩ => ?_
      subst hr
      have I7 : Inv X pins σ H5 s6 := I3.call' (ch := fp) I6.os I6.base I6.hok I6.bare fun b hb => ⟨(f3 b hb).1.2.2.2.1, (f3 b hb).1.2.1, (f3 b hb).1.2.2.2.2.1, (f3 b hb).1.2.2.2.2.2⟩
      have nC : H5 s3.heap.objs.size = none := by
        have z : H5 ce.locals = none := I6.free
        rw [cL] at z
        exact z
      obtain ⟨m, hn, _⟩ := I6.loc
      have hn : s6.heap.Ns ce.locals m := hn
      rw [cL] at hn
      obtain ⟨g0, g1, g2, g3, g4, g5⟩ := I3.fpOk (Nat.le_refl _) nC
      exact ⟨m, hn, fun h'' sb => ⟨.ref D, H5, I7.turned (t' := s6.toks) (fun b o hb e => (sb.2 b hb).trans e) g0 g1 g3 g4 g5, rfl, qq⟩⟩
    · have ti := T.item (X.blk s3 H3 scope ce fp) rfl rfl rfl hc i [] s5 _ H5 (fun _ _ => False) I5 (stat I5 n5) st5 go
      refine thnF ti fun r s6 ⟨u, hr, h6⟩ => ?_
      subst hr
      refine thnF h6 fun _ s7 ⟨x, H7, I7, r7, y7, st7, n7⟩ => ?_
      have I7' := I7.pinned (stat I7 n7) (T.obj _ _ st7)
      refine thnF (pg.run _ s7 _ H7 x u _ I7' r7 (step x H7 y7)) fun _ s8 ⟨σ8, H8, I8, hw8, q8⟩ => ?_
      have kp8 : Kp (own.map (·.2)) σ σ8 := kp_of hw8
      refine wpAny_mono (clause1 kp8 I8 q8 (F := fun s' => ∃ m, m < n ∧ ∃ i H', Inv (X.blk s3 H3 scope ce fp) [] (wipe σ (own.map (·.2))) H' s' ∧ tn i s'.heap ∧ (∀ b ∈ fp, H' b = none) ∧ W i m H') fun {σb Hb sb} kpb Ib nx => ?_) (fun x s' h => wpAny_mono h (fun _ _ q => q) fun _ _ z => z.elim) fun _ _ z => z.elim
      obtain ⟨m', hm, w'⟩ := hNx Hb nx
      have pin' : ∀ b ∈ fp, ∀ o, s7.heap.get? b = some o → sb.heap.get? b = some o ∧ Hb b = none := fun b hb o e =>
        let z := Ib.pin (b, o) (List.mem_append_right _ (List.mem_append_right _ (mem_pinsAt hb e)))
        ⟨z.1, z.2.1⟩
      refine ⟨m', hm, i + 1, Hb, (Ib.unpinned (pins := [])).weak kpb.1 kpb.2, T.keep _ _ _ st7 fun b hb o e => (pin' b hb o e).1, fun b hb => ?_, w'⟩
      obtain ⟨o, e, _⟩ := T.obj _ _ st7 b hb
      exact (pin' b hb o e).2
  exact PpSet.codeAny_compStart_set loop (T.self X.A 0 _ _ _ st4 loop)
end
end Den
namespace Den
open PySem PySem.Spec L2
section
variable {X : Cx}
theorem call_sortedS (hcalm : X.calm = true) : CallR X (.builtin "sorted") (fun xs H Q => ∃ (a : Addr) (S : Int → Bool) (n : Nat), xs = [.ref a] ∧ H a = some (SetIO X.w a S n) ∧ n < 64 ∧
    ∀ (p : Addr) (ns : List Int), ns.Pairwise (· < ·) → (∀ k, k ∈ ns ↔ S k = true) → ns.length = n → H p = none → Q (.ref p) (upd H p (.lst (ns.map V.int)))) := by
  intro pins s σ H xs us Q I r q
  obtain ⟨a, S, n, ex, hd, h64, q⟩ := q
  subst ex
  obtain ⟨u, eu, rx⟩ := vals1 r
  subst eu
  cases rx
  refine sorted_set (setIO_get I hd) (I.ok.hd hcalm) h64 fun s' p out c ns kk hg ho hp hget hi hns hmem hlen => ?_
  have hl : (ns.map V.int).length ≤ sizeLine := by
    rw [List.length_map, hlen]
    exact Nat.le_trans (Nat.le_of_lt h64) (by decide)
  have new : ObjOk X.prog X.w (upd H p (.lst (ns.map V.int))) s'.heap p (.lst (ns.map V.int)) := ⟨hl, out.toList, c, vals_ints hi, by rw [hget]⟩
  have I' : Inv X pins σ (upd H p (.lst (ns.map V.int))) s' := I.call' (ch := []) ho (Un.laid kk hp (I.hok.fresh hp)) (I.hok.laid kk hp new) (by rw [hg]; exact I.bare) (fun _ z => nomatch z)
  exact ⟨.ref p, _, I', rfl, q p ns hns hmem hlen (I.hok.fresh hp)⟩
end
end Den


set_option autoImplicit false
namespace Den
open PySem PySem.Spec L2
def addU (u : List Int) (c : Int) : List Int := if c ∈ u then u else u ++ [c]
def s3C (vs2 : List Nat) (t2 : D → Lo → Option Lo) (elt : Fn RR) : List D → List Int → Lo → Option (List Int × Lo)
  | [], u, ρ => some (u, ρ)
  | d :: ds, u, ρ => (t2 d ρ).bind fun ρ1 => (elt ρ1).bind fun y => (asInt y.1 y.2).bind fun c => if u.length < 4000 then s3C vs2 t2 elt ds (addU u c) (wipeL y.2 vs2) else none
def s3B (vs1 vs2 : List Nat) (t1 : D → Lo → Option Lo) (it2 : Fn (List D)) (t2 : D → Lo → Option Lo) (elt : Fn RR) : List D → List Int → Lo → Option (List Int × Lo)
  | [], u, ρ => some (u, ρ)
  | d :: ds, u, ρ => (t1 d ρ).bind fun ρ1 => ((it2 ρ1).bind fun x => s3C vs2 t2 elt x.1 u (wipeL x.2 vs2)).bind fun y => s3B vs1 vs2 t1 it2 t2 elt ds y.1 (wipeL y.2 vs1)
def s3A (vs vs1 vs2 : List Nat) (t : D → Lo → Option Lo) (it1 : Fn (List D)) (t1 : D → Lo → Option Lo) (it2 : Fn (List D)) (t2 : D → Lo → Option Lo) (elt : Fn RR) : List D → List Int → Lo → Option (List Int × Lo)
  | [], u, ρ => some (u, ρ)
  | d :: ds, u, ρ => (t d ρ).bind fun ρ1 => ((it1 ρ1).bind fun x => s3B vs1 vs2 t1 it2 t2 elt x.1 u (wipeL x.2 vs1)).bind fun y => s3A vs vs1 vs2 t it1 t1 it2 t2 elt ds y.1 (wipeL y.2 vs)
def fSet3 (vs vs1 vs2 : List Nat) (it : Fn (List D)) (t : D → Lo → Option Lo) (it1 : Fn (List D)) (t1 : D → Lo → Option Lo) (it2 : Fn (List D)) (t2 : D → Lo → Option Lo) (elt : Fn RR) : Fn RR := fun ρ => (it ρ).bind fun x =>
  (s3A vs vs1 vs2 t it1 t1 it2 t2 elt x.1 [] (wipeL x.2 vs)).bind fun y => if y.1.length < 64 then some (.ls ((sortI y.1).map .int), restL x.2 y.2 vs) else none
section
variable {w : World} {K : PySem.W.Frag} {D : Addr} {σ0 σ σ' : St} {ρ0 ρ ρ' : Lo} {G0 H0 G H G' H' : Hp} {u : List Int}
structure Sd (w : World) (K : PySem.W.Frag) (D : Addr) (σ0 : St) (ρ0 : Lo) (G0 H0 : Hp) (u : List Int) (G H : Hp) (σ : St) (ρ : Lo) : Prop where
  rel : Rel K G H σ ρ
  at_ : H D = some (SetIO w D (fun j => decide (j ∈ u)) u.length)
  gD : G D = none
  no : ¬ Ow σ ρ D
  nd : u.Nodup
  stp : Stp σ0 ρ0 G0 H0 σ ρ G H
  fr : H0 D = none
theorem Sd.step (s : Sd w K D σ0 ρ0 G0 H0 u G H σ ρ) (T : Stp σ ρ G H σ' ρ' G' H') (R : Rel K G' H' σ' ρ') : Sd w K D σ0 ρ0 G0 H0 u G' H' σ' ρ' := by
  have hn : H D ≠ none := by rw [s.at_]; simp
  exact ⟨R, T.keep D _ s.at_ s.no, (T.gnew D hn s.no).trans s.gD, fun z => (T.ow z).elim s.no hn, s.nd, s.stp.trans T, s.fr⟩
theorem Sd.wipe (s : Sd w K D σ0 ρ0 G0 H0 u G H σ ρ) (vs : List Nat) : Sd w K D σ0 ρ0 G0 H0 u G H (wipe σ vs) (wipeL ρ vs) :=
  ⟨rel_wipe s.rel vs, s.at_, s.gD, fun z => s.no (ow_wipe z), s.nd, stp_wipe s.stp vs, s.fr⟩
theorem addU_mem {u : List Int} {c j : Int} : j ∈ addU u c ↔ j ∈ u ∨ j = c := by
  unfold addU
  by_cases h : c ∈ u
  · rw [if_pos h]
    exact ⟨.inl, fun z => z.elim id fun e => e ▸ h⟩
  · rw [if_neg h]
    simp
theorem addU_nd {u : List Int} {c : Int} (h : u.Nodup) : (addU u c).Nodup := by
  unfold addU
  by_cases hc : c ∈ u
  · rw [if_pos hc]; exact h
  · rw [if_neg hc]
    rw [List.nodup_append]
    exact ⟨h, by simp, fun a ha b hb => by rw [List.mem_singleton.mp hb]; exact fun e => hc (e ▸ ha)⟩
theorem addU_obj {w : World} {D : Addr} {u : List Int} {c : Int} : SetIO w D (fun j => decide (j ∈ u) || decide (j = c)) (if decide (c ∈ u) = true then u.length else u.length + 1) = SetIO w D (fun j => decide (j ∈ addU u c)) (addU u c).length := by
  have e1 : (fun j => decide (j ∈ u) || decide (j = c)) = fun j => decide (j ∈ addU u c) := by
    funext j
    rw [Bool.eq_iff_iff]
    simp [addU_mem]
  have e2 : (if decide (c ∈ u) = true then u.length else u.length + 1) = (addU u c).length := by
    unfold addU
    by_cases h : c ∈ u
    · simp [h]
    · simp [h]
  rw [e1, e2]
theorem Sd.add (s : Sd w K D σ0 ρ0 G0 H0 u G H σ ρ) (c : Int) : Sd w K D σ0 ρ0 G0 H0 (addU u c) G (upd H D (SetIO w D (fun j => decide (j ∈ u) || decide (j = c)) (if decide (c ∈ u) = true then u.length else u.length + 1))) σ ρ := by
  rw [addU_obj]
  refine ⟨⟨fun a o e => ?_, fun j t e => ?_, s.rel.apart, s.rel.len⟩, upd_same, s.gD, s.no, addU_nd s.nd, ⟨s.stp.gg, fun a o e n => ?_, s.stp.gnew, s.stp.ols, s.stp.obg, fun a e => ?_⟩, s.fr⟩
  · rw [upd_ne (ne_of_none e s.gD)]
    exact s.rel.sub a o e
  · have q := s.rel.sl j t e
    have off : isOwn t = true → ∀ a, σ[j]? = some (some (.ref a)) → a ≠ D := fun o a e7 z => s.no (Ow.of ⟨t, e, o⟩ (by rw [z] at e7; exact e7))
    have own : ∀ es, isOwn t = true → Mine K G H σ[j]? es → Mine K G (upd H D (SetIO w D (fun j => decide (j ∈ addU u c)) (addU u c).length)) σ[j]? es := fun es o ⟨a, xs, e7, g7, e8, al8⟩ =>
      ⟨a, xs, e7, g7, by rw [upd_ne (off o a e7)]; exact e8, al8⟩
    have ownD : ∀ m, isOwn t = true → MineD K G H σ[j]? m → MineD K G (upd H D (SetIO w D (fun j => decide (j ∈ addU u c)) (addU u c).length)) σ[j]? m := fun es o ⟨a, xs, e7, g7, e8, al8⟩ =>
      ⟨a, xs, e7, g7, by rw [upd_ne (off o a e7)]; exact e8, al8⟩
    cases t with
    | no => trivial
    | va d => exact q
    | ls es => exact own es rfl q
    | bg es => exact own es rfl q
    | dc m => exact ownD m rfl q
    | bd m => exact ownD m rfl q
    | hd _ => exact q
  · rw [upd_ne (ne_of_none e s.fr)]
    exact s.stp.keep a o e n
  · by_cases ha : a = D
    · rw [ha, upd_same]
      simp
    · rw [upd_ne ha]
      exact s.stp.dom a e
theorem drop_at {α : Type} {l : List α} {i : Nat} {d : α} (h : l[i]? = some d) : l.drop i = d :: l.drop (i + 1) := by
  obtain ⟨hl, e⟩ := List.getElem?_eq_some_iff.mp h
  rw [List.drop_eq_getElem_cons hl, e]
variable {it it1 it2 : Fn (List PyData)} {t t1 t2 : PyData → Lo → Option Lo} {elt : Fn RR} {ws ws1 ws2 vs vs1 vs2 : List Nat} {u' : List Int} {σa : St} {ρa : Lo} {Ga Ha : Hp}
theorem s3C_ok (hw : ∀ j ∈ ws2, j ∈ vs2) (sd : Sd w K D σ0 ρ0 G0 H0 u Ga Ha σa ρa) (e : ((it2 ρa).bind fun x => s3C vs2 t2 (fV elt) x.1 u (wipeL x.2 vs2)) = some (u', ρ')) {Nx : Hp → Prop}
    (k : ∀ Gb Hb, Sd w K D σ0 ρ0 G0 H0 u' Gb Hb (L2.wipe σa vs2) ρ' → Same Ga Gb → Nx Hb) : tIn (tItr K it2) (tTg K t2 ws2) vs2 (tAdd w D (tV K (fV elt))) σa Ha Nx := by
  obtain ⟨x, e1, e⟩ := bindS e
  refine ⟨Ga, ρa, x.1, x.2, sd.rel, e1, fun G1 H1 J R1 S1 yl => ?_⟩
  refine ⟨fun j m H' => ∃ G' ρ'' v, Sd w K D σ0 ρ0 G0 H0 v G' H' (L2.wipe σa vs2) ρ'' ∧ Same G1 G' ∧ s3C vs2 t2 (fV elt) (x.1.drop j) v ρ'' = some (u', ρ') ∧ m = x.1.length - j, ⟨_, G1, wipeL x.2 vs2, u, (sd.step S1 R1).wipe vs2, Same.refl _, e, rfl⟩, ?_⟩
  rintro j m H2 ⟨G2, ρ2, v, sd2, g12, q2, rfl⟩
  cases hd : x.1[j]? with
  | none =>
    have hl : x.1.length ≤ j := List.getElem?_eq_none_iff.mp hd
    rw [List.drop_eq_nil_of_le hl] at q2
    cases q2
    exact .inl ⟨yl.st j H2 (g12.trans sd2.rel.sub) hl, k G2 H2 sd2 (S1.gg.trans g12)⟩
  | some d =>
    have hl : j < x.1.length := (List.getElem?_eq_some_iff.mp hd).1
    rw [drop_at hd] at q2
    obtain ⟨ρ3, e3, q2⟩ := bindS q2
    obtain ⟨y, e4, q2⟩ := bindS q2
    obtain ⟨c, e5, q2⟩ := bindS q2
    by_cases hlen : v.length < 4000
    case neg => rw [if_neg hlen] at q2; cases q2
    rw [if_pos hlen] at q2
    refine .inr ⟨yl.go j d H2 (g12.trans sd2.rel.sub) hd, fun H' => ∃ G' ρ'' v, Sd w K D σ0 ρ0 G0 H0 v G' H' (L2.wipe σa vs2) ρ'' ∧ Same G1 G' ∧ s3C vs2 t2 (fV elt) (x.1.drop (j + 1)) v ρ'' = some (u', ρ'), fun H' ⟨G', ρ'', v, a1, a2, a3⟩ => ⟨_, by omega, G', ρ'', v, a1, a2, a3, rfl⟩, fun xv H3 hy => ?_⟩
    obtain ⟨G3, md⟩ := yl.yl j d G2 H2 xv H3 g12 sd2.rel.sub hd hy
    have P := md.pst sd2.rel
    refine ⟨G3, ρ2, d, ρ3, P.rel, P.res, e3, fun σ4 R4 S4 n4 l4 => ⟨wipe_same hw n4 l4, ?_⟩⟩
    have ws4 : L2.wipe σ4 vs2 = L2.wipe σa vs2 := wipe_same hw n4 l4
    refine ⟨G3, ρ3, y.1, y.2, R4, e4, fun u8 G5 H5 R5 S5 rv => ?_⟩
    have sd5 := sd2.step ((P.stp.trans S4).trans S5) R5
    refine ⟨c, _, _, asInt_ok R5 rv e5, sd5.at_, ?_, ?_⟩
    · show v.length + 1 < scanBound
      unfold scanBound
      omega
    · have sd6 := (sd5.add c).wipe vs2
      rw [ws4] at sd6
      exact ⟨G5, _, _, sd6, g12.trans ((P.stp.trans S4).trans S5).gg, q2⟩
theorem s3B_ok (hw1 : ∀ j ∈ ws1, j ∈ vs1) (hw2 : ∀ j ∈ ws2, j ∈ vs2) (h12 : ∀ j ∈ vs2, j ∈ vs1) (sd : Sd w K D σ0 ρ0 G0 H0 u Ga Ha σa ρa) (e : ((it1 ρa).bind fun x => s3B vs1 vs2 t1 it2 t2 (fV elt) x.1 u (wipeL x.2 vs1)) = some (u', ρ')) {Nx : Hp → Prop}
    (k : ∀ Gb Hb, Sd w K D σ0 ρ0 G0 H0 u' Gb Hb (L2.wipe σa vs1) ρ' → Same Ga Gb → Nx Hb) : tIn (tItr K it1) (tTg K t1 ws1) vs1 (tIn (tItr K it2) (tTg K t2 ws2) vs2 (tAdd w D (tV K (fV elt)))) σa Ha Nx := by
  obtain ⟨x, e1, e⟩ := bindS e
  refine ⟨Ga, ρa, x.1, x.2, sd.rel, e1, fun G1 H1 J R1 S1 yl => ?_⟩
  refine ⟨fun j m H' => ∃ G' ρ'' v, Sd w K D σ0 ρ0 G0 H0 v G' H' (L2.wipe σa vs1) ρ'' ∧ Same G1 G' ∧ s3B vs1 vs2 t1 it2 t2 (fV elt) (x.1.drop j) v ρ'' = some (u', ρ') ∧ m = x.1.length - j, ⟨_, G1, wipeL x.2 vs1, u, (sd.step S1 R1).wipe vs1, Same.refl _, e, rfl⟩, ?_⟩
  rintro j m H2 ⟨G2, ρ2, v, sd2, g12, q2, rfl⟩
  cases hd : x.1[j]? with
  | none =>
    have hl : x.1.length ≤ j := List.getElem?_eq_none_iff.mp hd
    rw [List.drop_eq_nil_of_le hl] at q2
    cases q2
    exact .inl ⟨yl.st j H2 (g12.trans sd2.rel.sub) hl, k G2 H2 sd2 (S1.gg.trans g12)⟩
  | some d =>
    have hl : j < x.1.length := (List.getElem?_eq_some_iff.mp hd).1
    rw [drop_at hd] at q2
    obtain ⟨ρ3, e3, q2⟩ := bindS q2
    obtain ⟨y, e4, q2⟩ := bindS q2
    refine .inr ⟨yl.go j d H2 (g12.trans sd2.rel.sub) hd, fun H' => ∃ G' ρ'' v, Sd w K D σ0 ρ0 G0 H0 v G' H' (L2.wipe σa vs1) ρ'' ∧ Same G1 G' ∧ s3B vs1 vs2 t1 it2 t2 (fV elt) (x.1.drop (j + 1)) v ρ'' = some (u', ρ'), fun H' ⟨G', ρ'', v, a1, a2, a3⟩ => ⟨_, by omega, G', ρ'', v, a1, a2, a3, rfl⟩, fun xv H3 hy => ?_⟩
    obtain ⟨G3, md⟩ := yl.yl j d G2 H2 xv H3 g12 sd2.rel.sub hd hy
    have P := md.pst sd2.rel
    refine ⟨G3, ρ2, d, ρ3, P.rel, P.res, e3, fun σ4 R4 S4 n4 l4 => ⟨wipe_same hw1 n4 l4, ?_⟩⟩
    have ws4 : L2.wipe σ4 vs1 = L2.wipe σa vs1 := wipe_same hw1 n4 l4
    have sd4 := sd2.step (P.stp.trans S4) R4
    refine s3C_ok hw2 sd4 (u' := y.1) (ρ' := y.2) e4 fun Gb Hb sdb gb => ?_
    have sd6 := sdb.wipe vs1
    rw [wipe_sub h12, ws4] at sd6
    exact ⟨Gb, _, _, sd6, (g12.trans (P.stp.trans S4).gg).trans gb, q2⟩
theorem s3_ok {σ : St} {H : Hp} {Q : VK} (hw : ∀ j ∈ ws, j ∈ vs) (hw1 : ∀ j ∈ ws1, j ∈ vs1) (hw2 : ∀ j ∈ ws2, j ∈ vs2) (h12 : ∀ j ∈ vs2, j ∈ vs1) (h01 : ∀ j ∈ vs1, j ∈ vs) (h : tD K (fSet3 vs vs1 vs2 it t it1 t1 it2 t2 (fV elt)) σ H Q) :
    tS3 w (tItr K it) (tTg K t ws) (tItr K it1) (tTg K t1 ws1) (tItr K it2) (tTg K t2 ws2) (tV K (fV elt)) vs vs1 vs2 σ H (fun v H1 => ∃ (a : Addr) (S : Int → Bool) (n : Nat), [v] = [.ref a] ∧ H1 a = some (SetIO w a S n) ∧ n < 64 ∧
      ∀ (p : Addr) (ns : List Int), ns.Pairwise (· < ·) → (∀ k, k ∈ ns ↔ S k = true) → ns.length = n → H1 p = none → Q (.ref p) (upd H1 p (.lst (ns.map V.int)))) := by
  obtain ⟨G, ρ, r, ρ', R, q, k⟩ := h
  obtain ⟨x, e1, q⟩ := bindS q
  obtain ⟨y, e2, q⟩ := bindS q
  obtain ⟨h64, q⟩ := iteS q
  cases q
  refine ⟨G, ρ, x.1, x.2, R, e1, fun G1 H1 J R1 S1 yl D hD => ?_⟩
  obtain ⟨R0, S0⟩ := (rel_wipe R1 vs).newH (o := SetIO w D (fun _ => false) 0) hD
  have n0 : ¬ Ow (L2.wipe σ vs) (wipeL x.2 vs) D := fun w => R1.owH (ow_wipe w) hD
  have sd0 : Sd w K D (L2.wipe σ vs) (wipeL x.2 vs) G1 H1 [] G1 (upd H1 D (SetIO w D (fun _ => false) 0)) (L2.wipe σ vs) (wipeL x.2 vs) := ⟨R0, by rw [upd_same]; simp, R1.gfree hD, n0, List.nodup_nil, S0, hD⟩
  refine ⟨fun i m H' => ∃ G' ρ'' v, Sd w K D (L2.wipe σ vs) (wipeL x.2 vs) G1 H1 v G' H' (L2.wipe σ vs) ρ'' ∧ Same G1 G' ∧ s3A vs vs1 vs2 t it1 t1 it2 t2 (fV elt) (x.1.drop i) v ρ'' = some y ∧ m = x.1.length - i, ⟨_, G1, wipeL x.2 vs, [], sd0, Same.refl _, e2, rfl⟩, ?_⟩
  rintro j m H2 ⟨G2, ρ2, v, sd2, g12, q2, rfl⟩
  cases hd : x.1[j]? with
  | none =>
    have hl : x.1.length ≤ j := List.getElem?_eq_none_iff.mp hd
    rw [List.drop_eq_nil_of_le hl] at q2
    cases q2
    refine .inl ⟨yl.st j H2 (g12.trans sd2.rel.sub) hl, D, _, _, rfl, sd2.at_, h64, fun p ns hns hmem hlen hp => ?_⟩
    have hs : ns = sortI v := by
      refine sort_one ?_ (hns.imp fun h => by omega) sortI_le
      refine List.Perm.trans ?_ sortI_perm.symm
      have nd2 : ns.Nodup := hns.imp fun h => by omega
      exact (List.perm_ext_iff_of_nodup nd2 sd2.nd).mpr fun a => by rw [hmem a]; simp
    subst hs
    obtain ⟨R3, S3⟩ := rest_ok R1 sd2.rel sd2.stp
    obtain ⟨R4, S4⟩ := R3.newH (o := .lst ((sortI v).map V.int)) hp
    have hh : H p = none := by
      cases z : H p with
      | none => rfl
      | some o => exact absurd hp ((S1.trans S3).dom p (by rw [z]; simp))
    refine k _ G2 _ ⟨R4, (S1.trans S3).trans S4, ⟨p, _, rfl, R3.gfree hp, upd_same, int_dps _, fun w => R3.owH w hp⟩, fun p' hp' => ?_⟩
    cases hp'
    exact hh
  | some d =>
    have hl : j < x.1.length := (List.getElem?_eq_some_iff.mp hd).1
    rw [drop_at hd] at q2
    obtain ⟨ρ3, e3, q2⟩ := bindS q2
    obtain ⟨y1, e4, q2⟩ := bindS q2
    refine .inr ⟨yl.go j d H2 (g12.trans sd2.rel.sub) hd, fun H' => ∃ G' ρ'' v, Sd w K D (L2.wipe σ vs) (wipeL x.2 vs) G1 H1 v G' H' (L2.wipe σ vs) ρ'' ∧ Same G1 G' ∧ s3A vs vs1 vs2 t it1 t1 it2 t2 (fV elt) (x.1.drop (j + 1)) v ρ'' = some y, fun H' ⟨G', ρ'', v, a1, a2, a3⟩ => ⟨_, by omega, G', ρ'', v, a1, a2, a3, rfl⟩, fun xv H3 hy => ?_⟩
    obtain ⟨G3, md⟩ := yl.yl j d G2 H2 xv H3 g12 sd2.rel.sub hd hy
    have P := md.pst sd2.rel
    refine ⟨G3, ρ2, d, ρ3, P.rel, P.res, e3, fun σ4 R4 S4 n4 l4 => ⟨wipe_same hw n4 l4, ?_⟩⟩
    have ws4 : L2.wipe σ4 vs = L2.wipe σ vs := wipe_same hw n4 l4
    have sd4 := sd2.step (P.stp.trans S4) R4
    refine s3B_ok hw1 hw2 h12 sd4 (u' := y1.1) (ρ' := y1.2) e4 fun Gb Hb sdb gb => ?_
    have sd6 := sdb.wipe vs
    rw [wipe_sub h01, ws4] at sd6
    exact ⟨Gb, _, _, sd6, (g12.trans (P.stp.trans S4).gg).trans gb, q2⟩
end
section
variable {X : Cx}
theorem e_set3 {elt t0 i0 t1 i1 t2 i2 : Expr} {scope : Scope} {own : List (Str × Nat)} {p spos pos : Pos} {it it1 it2 : Fn (List D)} {t t1' t2' : D → Lo → Option Lo} {f : Fn RR} {ws ws1 ws2 vs1 vs2 : List Nat} (hg0 : Gl X "sorted") (hm0 : X.mg "sorted" = none) (hc : X.calm = true) (hN : X.N.Nodup)
    (hi : PI X t0 i0 (tItr X.K it)) (ok : BlkOk X.N X.env.scope scope own) (hw : ∀ j ∈ ws, j ∈ own.map (·.2)) (hw1 : ∀ j ∈ ws1, j ∈ vs1) (hw2 : ∀ j ∈ ws2, j ∈ vs2) (h12 : ∀ j ∈ vs2, j ∈ vs1) (h01 : ∀ j ∈ vs1, j ∈ own.map (·.2))
    (hg : ∀ (s : Shared) (H : Hp) (C : Addr) (cl : List (Str × Addr)) (fp : List Addr), PG (X.blk s H scope (compEnvC scope cl C X.env) fp) t0 (tTg X.K t ws))
    (hi1 : ∀ (s : Shared) (H : Hp) (C : Addr) (cl : List (Str × Addr)) (fp : List Addr), PI (X.blk s H scope (compEnvC scope cl C X.env) fp) t1 i1 (tItr X.K it1))
    (hg1 : ∀ (s : Shared) (H : Hp) (C : Addr) (cl : List (Str × Addr)) (fp : List Addr), PG (X.blk s H scope (compEnvC scope cl C X.env) fp) t1 (tTg X.K t1' ws1))
    (hi2 : ∀ (s : Shared) (H : Hp) (C : Addr) (cl : List (Str × Addr)) (fp : List Addr), PI (X.blk s H scope (compEnvC scope cl C X.env) fp) t2 i2 (tItr X.K it2))
    (hg2 : ∀ (s : Shared) (H : Hp) (C : Addr) (cl : List (Str × Addr)) (fp : List Addr), PG (X.blk s H scope (compEnvC scope cl C X.env) fp) t2 (tTg X.K t2' ws2))
    (he : ∀ (s : Shared) (H : Hp) (C : Addr) (cl : List (Str × Addr)) (fp : List Addr), PE (X.blk s H scope (compEnvC scope cl C X.env) fp) elt (tD X.K f)) (hs : ∀ x, foldedSetIterable i0 X.env x = pure x) (hs1 : ∀ env x, foldedSetIterable i1 env x = pure x) (hs2 : ∀ env x, foldedSetIterable i2 env x = pure x) :
    PE X (.Call (.Name "sorted" p) [SC3 elt t0 i0 t1 i1 t2 i2 scope spos] [] pos) (tD X.K (fSet3 (own.map (·.2)) vs1 vs2 it t it1 t1' it2 t2' (fV f))) :=
  weakE (pe_callB (call_sortedS hc) hg0 hm0 (by decide +kernel) (pa_cons (pe_s3 hc hN hi ok h01 h12 hg hi1 hg1 hi2 hg2 (fun s H C cl fp => to_V (he s H C cl fp)) hs hs1 hs2) pa_nil rfl) (by decide) (by decide) rfl rfl) fun σ H Q h => s3_ok hw hw1 hw2 h12 h01 h
end
end Den


set_option autoImplicit false
namespace Lz
open PySem PySem.W
open PySem.Sem (wp)
theorem zip_no_len : typeLookup (.type "zip") "__len__" = pure none := by rw [typeLookup_type, builtinLookup_eq_fast]; kernel_rfl
theorem zip_no_hint : typeLookup (.type "zip") "__length_hint__" = pure none := by rw [typeLookup_type, builtinLookup_eq_fast]; kernel_rfl
section
variable {prog : Program} {w : World} {A : Around} {E : Value → Shared → Prop} {s : Shared}
theorem item_held {z TI TO T i1 i2 l1 l2 : Addr} {f : Bool} {oT : Obj} {k1 k2 : Nat} {xs ys : Array Value} {x y : Value} {Q : Option Value → Shared → Prop} (D : ZipApart z TI TO i1 i2 l1 l2)
    (hz : IsZipHeld s.heap z TI TO T f) (hT : s.heap.get? T = some oT) (hTI : IsPair s.heap TI (.ref i1) (.ref i2))
    (h1 : s.heap.IsTupleIter i1 l1 k1) (h2 : s.heap.IsTupleIter i2 l2 k2) (hl1 : s.heap.IsTuple l1 xs) (hl2 : s.heap.IsTuple l2 ys) (hx : xs[k1]? = some x) (hy : ys[k2]? = some y)
    (hQ : ∀ h', IsZipHeld h' z TI TO T true → h'.IsTupleIter i1 l1 (k1 + 1) → h'.IsTupleIter i2 l2 (k2 + 1) → IsPair h' s.heap.objs.size x y → h'.objs.size = s.heap.objs.size + 1 →
      (∀ c o, c ≠ z → c ≠ i1 → c ≠ i2 → s.heap.get? c = some o → h'.get? c = some o) → Q (some (.ref s.heap.objs.size)) { s with heap := h' }) :
    wpAny (model prog w) A (pyNext (.ref z)) Q E s := by
  have hTy : s.TypeIs (.ref z) "zip" := ⟨_, hz, rfl⟩
  unfold pyNext
  refine wpAny_bind (wpAny_attempt (wpAny_callSpecial?_slot (name := Str.ofString "__next__") hTy F.slot_zip_next (wpAny_call_entry F.slot_zip_next hTy F.entry_zip_next ?_ (F.args_zip_next_1 _))))
  show wpAny _ _ (field (.ref z) 2 >>= _) _ _ _
  refine wpAny_bind (wpAny_field hz rfl (x := .bool false) rfl ?_)
  show wpAny _ _ (field (.ref z) 3 >>= _) _ _ _
  refine wpAny_bind (wpAny_field hz rfl (x := .ref TI) rfl ?_)
  refine wpAny_bind (wpAny_seqItems hTI rfl ?_)
  show wpAny _ _ (Builtin.SmallTypes.ownedTupleIsFree (.ref z) >>= _) _ _ _
  refine wpAny_bind (wpAny_tupleHeld_zip hz hT fun ha hza sa => ?_)
  simp only [Bool.false_eq_true, if_false]
  refine wpAny_bind ?_
  rw [← Array.forIn_toList]
  simp only [List.forIn_cons, List.forIn_nil]
  refine wpAny_bind (wpAny_bind (wpAny_holding ?_))
  show wpAny _ _ (Builtin.SmallTypes.nextOf (.ref i1) >>= _) _ _ _
  refine wpAny_bind (RZ.nextOf_tuple_item (s := { s with heap := ha }) (h1.extBut sa.extBut D.i1z) (hl1.extBut sa.extBut D.l1z) hx fun hb h1b sb => wpAny_pure ?_)
  refine wpAny_pure ?_
  refine wpAny_bind (wpAny_bind (wpAny_holding ?_))
  show wpAny _ _ (Builtin.SmallTypes.nextOf (.ref i2) >>= _) _ _ _
  refine wpAny_bind (RZ.nextOf_tuple_item (s := { s with heap := hb }) ((h2.extBut sa.extBut D.i2z).extBut sb.extBut D.i12.symm) ((hl2.extBut sa.extBut D.l2z).extBut sb.extBut D.l2i1) hy fun hc h2c sc => wpAny_pure ?_)
  refine wpAny_pure (wpAny_pure ?_)
  show wpAny _ _ (newTuple [x, y] >>= _) _ _ _
  refine wpAny_bind (wpAny_newTuple ?_)
  have hsz : hc.objs.size = s.heap.objs.size := by rw [sc.1, sb.1, sa.1]
  have hzc : IsZipHeld hc z TI TO T true := sc.extBut _ _ D.i2z.symm (sb.extBut _ _ D.i1z.symm hza)
  have hk : ∀ c o, c ≠ z → c ≠ i1 → c ≠ i2 → s.heap.get? c = some o → hc.get? c = some o := fun c o c1 c2 c3 e => sc.extBut _ _ c3 (sb.extBut _ _ c2 (sa.extBut _ _ c1 e))
  have h1c : hc.IsTupleIter i1 l1 (k1 + 1) := h1b.extBut sc.extBut D.i12
  refine wpAny_pure ⟨_, rfl, wpAny_pure ?_⟩
  show Q (some (.ref hc.objs.size)) _
  have hp : IsPair (hc.push { cls := .type "tuple", data := .seq #[x, y] }) hc.objs.size x y := Heap.get?_push_size _ rfl
  have hz4 : (hc.push { cls := .type "tuple", data := .seq #[x, y] }).objs.size = hc.objs.size + 1 := Heap.size_push ..
  rw [hsz] at hp hz4 ⊢
  exact hQ _ (Heap.get?_push_of_some _ hzc) (h1c.at fun o e => Heap.get?_push_of_some _ e) (h2c.at fun o e => Heap.get?_push_of_some _ e) hp hz4 fun c o c1 c2 c3 e => Heap.get?_push_of_some _ (hk c o c1 c2 c3 e)
theorem end_held {z TI TO T i1 i2 l1 l2 : Addr} {f : Bool} {oT : Obj} {k1 k2 : Nat} {xs ys : Array Value} {Q : Option Value → Shared → Prop} (hh : A.handled = none) (D : ZipApart z TI TO i1 i2 l1 l2)
    (hz : IsZipHeld s.heap z TI TO T f) (hT : s.heap.get? T = some oT) (hTI : IsPair s.heap TI (.ref i1) (.ref i2))
    (h1 : s.heap.IsTupleIter i1 l1 k1) (h2 : s.heap.IsTupleIter i2 l2 k2) (hl1 : s.heap.IsTuple l1 xs) (hl2 : s.heap.IsTuple l2 ys) (hend : xs[k1]? = none ∨ ys[k2]? = none)
    (hQ : ∀ h', (∀ c o, c ≠ z → c ≠ i1 → c ≠ i2 → s.heap.get? c = some o → h'.get? c = some o) → Q none { s with heap := h' }) :
    wpAny (model prog w) A (pyNext (.ref z)) Q E s := by
  have hTy : s.TypeIs (.ref z) "zip" := ⟨_, hz, rfl⟩
  unfold pyNext
  refine wpAny_bind (wpAny_attempt (wpAny_callSpecial?_slot (name := Str.ofString "__next__") hTy F.slot_zip_next (wpAny_call_entry F.slot_zip_next hTy F.entry_zip_next ?_ (F.args_zip_next_1 _))))
  show wpAny _ _ (field (.ref z) 2 >>= _) _ _ _
  refine wpAny_bind (wpAny_field hz rfl (x := .bool false) rfl ?_)
  show wpAny _ _ (field (.ref z) 3 >>= _) _ _ _
  refine wpAny_bind (wpAny_field hz rfl (x := .ref TI) rfl ?_)
  refine wpAny_bind (wpAny_seqItems hTI rfl ?_)
  show wpAny _ _ (Builtin.SmallTypes.ownedTupleIsFree (.ref z) >>= _) _ _ _
  refine wpAny_bind (wpAny_tupleHeld_zip hz hT fun ha hza sa => ?_)
  simp only [Bool.false_eq_true, if_false]
  refine wpAny_bind ?_
  rw [← Array.forIn_toList]
  simp only [List.forIn_cons, List.forIn_nil]
  refine wpAny_bind (wpAny_bind (wpAny_holding ?_))
  show wpAny _ _ (Builtin.SmallTypes.nextOf (.ref i1) >>= _) _ _ _
  cases hx : xs[k1]? with
  | none =>
    refine wpAny_bind (RZ.nextOf_tuple_end (s := { s with heap := ha }) hh (h1.extBut sa.extBut D.i1z) (hl1.extBut sa.extBut D.l1z) hx fun hb e sb he => ?_)
    exact wpAny_bind (wpAny_isInstance (T := "StopIteration") (b := true) he isSubtype_stop (wpAny_pure (hQ hb fun c o c1 c2 _ x => sb _ _ c2 (sa.extBut _ _ c1 x))))
  | some x =>
    have hy : ys[k2]? = none := by rcases hend with h | h; rw [hx] at h; cases h; exact h
    refine wpAny_bind (RZ.nextOf_tuple_item (s := { s with heap := ha }) (h1.extBut sa.extBut D.i1z) (hl1.extBut sa.extBut D.l1z) hx fun hb h1b sb => wpAny_pure ?_)
    refine wpAny_pure ?_
    refine wpAny_bind (wpAny_bind (wpAny_holding ?_))
    show wpAny _ _ (Builtin.SmallTypes.nextOf (.ref i2) >>= _) _ _ _
    refine wpAny_bind (RZ.nextOf_tuple_end (s := { s with heap := hb }) hh ((h2.extBut sa.extBut D.i2z).extBut sb.extBut D.i12.symm) ((hl2.extBut sa.extBut D.l2z).extBut sb.extBut D.l2i1) hy fun hc e sc he => ?_)
    exact wpAny_bind (wpAny_isInstance (T := "StopIteration") (b := true) he isSubtype_stop (wpAny_pure (hQ hc fun c o c1 c2 c3 x => sc _ _ c3 (sb.extBut _ _ c2 (sa.extBut _ _ c1 x)))))
end
structure Zs (z TI TO i1 i2 l1 l2 S : Addr) (xs ys : Array Value) (i : Nat) (h : Heap) : Prop where
  ti : IsPair h TI (.ref i1) (.ref i2)
  h1 : h.IsTupleIter i1 l1 i
  h2 : h.IsTupleIter i2 l2 i
  t1 : h.IsTuple l1 xs
  t2 : h.IsTuple l2 ys
  z : (IsZip h z TI TO .none ∧ ∃ a b, IsPair h TO a b) ∨ ∃ T f oT, IsZipHeld h z TI TO T f ∧ h.get? T = some oT ∧ T ≠ z ∧ T ≠ i1 ∧ T ≠ i2 ∧ T ≠ S
structure Pg (xs ys : Array Value) (lo : Addr) (h : Heap) (as : List Addr) : Prop where
  rise : as.Pairwise (· < ·)
  above : ∀ a ∈ as, lo < a
  pairs : ∀ (j : Nat) (a : Addr), as[j]? = some a → ∃ x y, xs[j]? = some x ∧ ys[j]? = some y ∧ IsPair h a x y
theorem Pg.there {xs ys : Array Value} {lo : Addr} {h : Heap} {as : List Addr} (g : Pg xs ys lo h as) {a : Addr} (ha : a ∈ as) : a < h.objs.size := by
  obtain ⟨j, hj⟩ := List.mem_iff_getElem?.mp ha
  obtain ⟨_, _, _, _, e⟩ := g.pairs j a hj
  exact Heap.lt_size e
structure Below (z TI TO i1 i2 l1 l2 S : Addr) : Prop where
  z : z < S
  ti : TI < S
  to : TO < S
  i1 : i1 < S
  i2 : i2 < S
  l1 : l1 < S
  l2 : l2 < S
section
variable {prog : Program} {w : World} {A : Around} {E : Value → Shared → Prop} {s : Shared} {R : Result → Shared → Prop} {z TI TO i1 i2 l1 l2 S : Addr} {xs ys : Array Value} {i : Nat}
theorem Zs.keep {h h' : Heap} (B : Below z TI TO i1 i2 l1 l2 S) (x : Zs z TI TO i1 i2 l1 l2 S xs ys i h) (hk : ∀ b o, b ≠ S → h.get? b = some o → h'.get? b = some o) : Zs z TI TO i1 i2 l1 l2 S xs ys i h' := by
  refine ⟨hk _ _ (Nat.ne_of_lt B.ti) x.ti, x.h1.at fun o e => hk _ o (Nat.ne_of_lt B.i1) e, x.h2.at fun o e => hk _ o (Nat.ne_of_lt B.i2) e, ?_, ?_, ?_⟩
  · obtain ⟨o, ho, r⟩ := x.t1
    exact ⟨o, hk _ o (Nat.ne_of_lt B.l1) ho, r⟩
  · obtain ⟨o, ho, r⟩ := x.t2
    exact ⟨o, hk _ o (Nat.ne_of_lt B.l2) ho, r⟩
  · rcases x.z with ⟨hz, a, b, ho⟩ | ⟨T, f, oT, hz, hT, r1, r2, r3, r4⟩
    · exact .inl ⟨hk _ _ (Nat.ne_of_lt B.z) hz, a, b, hk _ _ (Nat.ne_of_lt B.to) ho⟩
    · exact .inr ⟨T, f, oT, hk _ _ (Nat.ne_of_lt B.z) hz, hk _ _ r4 hT, r1, r2, r3, r4⟩
theorem zs_item {x y : Value} {Q : Option Value → Shared → Prop} (D : ZipApart z TI TO i1 i2 l1 l2) (st : Zs z TI TO i1 i2 l1 l2 S xs ys i s.heap) (hS : S < s.heap.objs.size) (hx : xs[i]? = some x) (hy : ys[i]? = some y)
    (hQ : ∀ h', Zs z TI TO i1 i2 l1 l2 S xs ys (i + 1) h' → IsPair h' s.heap.objs.size x y → h'.objs.size = s.heap.objs.size + 1 → (∀ c o, c ≠ z → c ≠ TO → c ≠ i1 → c ≠ i2 → s.heap.get? c = some o → h'.get? c = some o) →
      Q (some (.ref s.heap.objs.size)) { s with heap := h' }) : wpAny (model prog w) A (pyNext (.ref z)) Q E s := by
  have lt : ∀ {c o}, s.heap.get? c = some o → s.heap.objs.size ≠ c := fun e => Nat.ne_of_gt (Heap.lt_size e)
  have n1 : s.heap.objs.size ≠ i1 := let ⟨_, e, _⟩ := st.h1; lt e
  have n2 : s.heap.objs.size ≠ i2 := let ⟨_, e, _⟩ := st.h2; lt e
  have tup : ∀ {h' : Heap} {l : Addr} {us : Array Value}, s.heap.IsTuple l us → (∀ o, s.heap.get? l = some o → h'.get? l = some o) → h'.IsTuple l us := fun t k => let ⟨o, ho, r⟩ := t; ⟨o, k o ho, r⟩
  rcases st.z with ⟨hz, a, b, ho⟩ | ⟨T, f, oT, hz, hT, r1, r2, r3, r4⟩
  · refine RZ.pyNext_zipT_item D hz st.ti ho st.h1 st.h2 st.t1 st.t2 hx hy fun h' z' to' h1' h2' hp hsz hk => ?_
    exact hQ h' ⟨hk _ _ D.TIz D.TITO D.TIi1 D.TIi2 st.ti, h1', h2', tup st.t1 fun o e => hk _ o D.l1z D.l1TO D.l1i1 D.l1i2 e, tup st.t2 fun o e => hk _ o D.l2z D.l2TO D.l2i1 D.l2i2 e,
      .inr ⟨s.heap.objs.size, false, _, z', hp, lt hz, n1, n2, Nat.ne_of_gt hS⟩⟩ hp hsz hk
  · refine item_held D hz hT st.ti st.h1 st.h2 st.t1 st.t2 hx hy fun h' z' h1' h2' hp hsz hk => ?_
    exact hQ h' ⟨hk _ _ D.TIz D.TIi1 D.TIi2 st.ti, h1', h2', tup st.t1 fun o e => hk _ o D.l1z D.l1i1 D.l1i2 e, tup st.t2 fun o e => hk _ o D.l2z D.l2i1 D.l2i2 e,
      .inr ⟨T, true, oT, z', hk _ _ r1 r2 r3 hT, r1, r2, r3, r4⟩⟩ hp hsz fun c o c1 _ c3 c4 e => hk c o c1 c3 c4 e
theorem zs_done {Q : Option Value → Shared → Prop} (hh : A.handled = none) (D : ZipApart z TI TO i1 i2 l1 l2) (st : Zs z TI TO i1 i2 l1 l2 S xs ys i s.heap) (hend : xs[i]? = none ∨ ys[i]? = none)
    (hQ : ∀ h', (∀ c o, c ≠ z → c ≠ TO → c ≠ i1 → c ≠ i2 → s.heap.get? c = some o → h'.get? c = some o) → Q none { s with heap := h' }) : wpAny (model prog w) A (pyNext (.ref z)) Q E s := by
  rcases st.z with ⟨hz, a, b, ho⟩ | ⟨T, f, oT, hz, hT, r1, r2, r3, r4⟩
  · exact RZ.pyNext_zipT_end hh D hz st.ti ho st.h1 st.h2 st.t1 st.t2 hend hQ
  · exact end_held hh D hz hT st.ti st.h1 st.h2 st.t1 st.t2 hend fun h' hk => hQ h' fun c o c1 _ c3 c4 e => hk c o c1 c3 c4 e
def few (xs ys : Array Value) : Nat := min xs.size ys.size
theorem z_loop (hh : A.handled = none) (D : ZipApart z TI TO i1 i2 l1 l2) (B : Below z TI TO i1 i2 l1 l2 S) (hn : few xs ys ≤ sizeLine) (res : Value) {g : Heap}
    (hR : ∀ h' acc c as, (∀ b o, b ≠ S → b ≠ z → b ≠ TO → b ≠ i1 → b ≠ i2 → g.get? b = some o → h'.get? b = some o) → h'.get? S = some { cls := .type "list", dict := none, data := .seq acc c, slots := #[] } → as.length = few xs ys → Pg xs ys S h' as →
      acc.toList = as.map Value.ref → R (.ok (.ret res)) { s with heap := h' }) :
    ∀ (k i : Nat) (h : Heap) (c : Nat) (acc : Array Value) (as : List Addr), few xs ys - i = k → i ≤ few xs ys → Zs z TI TO i1 i2 l1 l2 S xs ys i h → (∀ b o, b ≠ S → b ≠ z → b ≠ TO → b ≠ i1 → b ≠ i2 → g.get? b = some o → h.get? b = some o) →
      h.get? S = some { cls := .type "list", dict := none, data := .seq acc c, slots := #[] } → acc.toList = as.map Value.ref → as.length = i → Pg xs ys S h as →
      codeAny (model prog w) A (.builtin "list.extend.loop" ⟨[.ref S, .ref z, res], []⟩) R { s with heap := h } := by
  have off : ∀ {a : Addr}, S < a → a ≠ S ∧ a ≠ z ∧ a ≠ TO ∧ a ≠ i1 ∧ a ≠ i2 := fun {a} h => ⟨Nat.ne_of_gt h, Nat.ne_of_gt (Nat.lt_trans B.z h), Nat.ne_of_gt (Nat.lt_trans B.to h), Nat.ne_of_gt (Nat.lt_trans B.i1 h), Nat.ne_of_gt (Nat.lt_trans B.i2 h)⟩
  have Sz := Nat.ne_of_gt B.z
  have Sto := Nat.ne_of_gt B.to
  have Si1 := Nat.ne_of_gt B.i1
  have Si2 := Nat.ne_of_gt B.i2
  intro k
  induction k with
  | zero =>
    intro i h c acc as hk hi hst hkeep hS hacc hal hG
    have hin : i = few xs ys := by omega
    have hend : xs[i]? = none ∨ ys[i]? = none := by
      unfold few at hin
      rcases Nat.le_total xs.size ys.size with q | q
      · exact .inl (Array.getElem?_eq_none (by omega))
      · exact .inr (Array.getElem?_eq_none (by omega))
    refine codeAny_builtin PySem.F.entry_extend_loop ?_
    rw [Around.under_plainId PySem.F.plain_extend_loop _]
    show wpAny _ A.in1 (pyNext (.ref z) >>= _) _ _ _
    refine wpAny_bind (zs_done (s := { s with heap := h }) (A := A.in1) hh D hst hend fun h' he => ?_)
    refine wpAny_pure (hR h' acc c as (fun b o b1 b2 b3 b4 b5 e => he b o b2 b3 b4 b5 (hkeep b o b1 b2 b3 b4 b5 e)) (he S _ Sz Sto Si1 Si2 hS) (by omega) ⟨hG.rise, hG.above, fun j a hj => ?_⟩ hacc)
    obtain ⟨x, y, e1, e2, e3⟩ := hG.pairs j a hj
    obtain ⟨_, o2, o3, o4, o5⟩ := off (hG.above a (List.mem_of_getElem? hj))
    exact ⟨x, y, e1, e2, he a _ o2 o3 o4 o5 e3⟩
  | succ k ih =>
    intro i h c acc as hk hi hst hkeep hS hacc hal hG
    have hlt : i < few xs ys := by omega
    have hix : i < xs.size := by unfold few at hlt; omega
    have hiy : i < ys.size := by unfold few at hlt; omega
    have hsz : acc.size = i := by rw [← Array.length_toList, hacc, List.length_map, hal]
    refine codeAny_builtin PySem.F.entry_extend_loop ?_
    rw [Around.under_plainId PySem.F.plain_extend_loop _]
    show wpAny _ A.in1 (pyNext (.ref z) >>= _) _ _ _
    refine wpAny_bind (zs_item (s := { s with heap := h }) (S := S) D hst (Heap.lt_size hS) (Array.getElem?_eq_getElem hix) (Array.getElem?_eq_getElem hiy) fun h' hst' ht hz hkp => ?_)
    dsimp only at ht hz hkp ⊢
    have hS' := hkp S _ Sz Sto Si1 Si2 hS
    have hSl : S < h.objs.size := Heap.lt_size hS
    have up : ∀ b o, b ≠ S → h'.get? b = some o → (h'.update S (Obj.mapSeq (·.push (Value.ref h.objs.size)))).get? b = some o := fun b o hb e => (Heap.get?_update_other _ _ (Ne.symm hb)).trans e
    show wpAny _ A.in1 (updateSeq S (·.push (Value.ref h.objs.size)) >>= _) _ _ _
    refine wpAny_bind ?_
    refine wpAny_updateSeq hS' rfl (wpAny_pure ⟨plainId_quiet PySem.F.plain_extend_loop _, ih (i + 1) _ _ (acc.push (Value.ref h.objs.size)) (as ++ [h.objs.size]) (by omega) hlt (hst'.keep B up)
      (fun b o b1 b2 b3 b4 b5 e => up b o b1 (hkp b o b2 b3 b4 b5 (hkeep b o b1 b2 b3 b4 b5 e))) (Heap.get?_update_self _ hS' rfl) (by rw [Array.toList_push, hacc, List.map_append]; rfl) (by rw [List.length_append, hal]; rfl) ⟨?_, ?_, ?_⟩⟩) (by rw [hsz]; omega) (by show (acc.push (Value.ref h.objs.size)).size ≤ sizeLine + 1; rw [Array.size_push, hsz]; omega)
    · refine List.pairwise_append.mpr ⟨hG.rise, List.pairwise_singleton _ _, fun a ha b hb => ?_⟩
      rw [List.mem_singleton.mp hb]
      exact hG.there ha
    · intro a ha
      rcases List.mem_append.mp ha with ha | ha
      · exact hG.above a ha
      · rw [List.mem_singleton.mp ha]; exact hSl
    · intro j b hj
      rcases Nat.lt_trichotomy j as.length with q | q | q
      · rw [List.getElem?_append_left q] at hj
        obtain ⟨x, y, e1, e2, e3⟩ := hG.pairs j b hj
        obtain ⟨o1, o2, o3, o4, o5⟩ := off (hG.above b (List.mem_of_getElem? hj))
        exact ⟨x, y, e1, e2, up b _ o1 (hkp b _ o2 o3 o4 o5 e3)⟩
      · subst q
        have hb : h.objs.size = b := by simpa using hj
        subst hb
        exact ⟨_, _, by rw [hal]; exact Array.getElem?_eq_getElem hix, by rw [hal]; exact Array.getElem?_eq_getElem hiy, up _ _ (Nat.ne_of_gt hSl) ht⟩
      · rw [List.getElem?_eq_none (by rw [List.length_append, List.length_singleton]; omega)] at hj
        cases hj
theorem z_init (hh : A.handled = none) (D : ZipApart z TI TO i1 i2 l1 l2) (B : Below z TI TO i1 i2 l1 l2 S) (hn : few xs ys ≤ sizeLine) (st : Zs z TI TO i1 i2 l1 l2 S xs ys 0 s.heap) (hz : IsZip s.heap z TI TO .none) (hS : s.heap.get? S = some { cls := .type "list", data := .seq #[] })
    (hR : ∀ h' acc c as, (∀ b o, b ≠ S → b ≠ z → b ≠ TO → b ≠ i1 → b ≠ i2 → s.heap.get? b = some o → h'.get? b = some o) → h'.get? S = some { cls := .type "list", dict := none, data := .seq acc c, slots := #[] } → as.length = few xs ys → Pg xs ys S h' as →
      acc.toList = as.map Value.ref → R (.ok (.ret .none)) { s with heap := h' }) :
    wpAny (model prog w) A.in1 (Builtin.«list.__init__» ⟨[.ref S, .ref z], []⟩)
      (fun fin s' => match fin with | .done f => R (.ok f) s' | .again c' => c'.quiet = true ∧ codeAny (model prog w) A c' R s') (fun e s' => R (.error e) s') s := by
  show wpAny _ _ (do let old ← Builtin.List.listItems (.ref S); Builtin.List.listUpdate (.ref S) (fun _ => #[]); letGo old.toList.reverse; Builtin.List.listExtendWith (.ref S) (.ref z) .none) _ _ s
  refine wpAny_bind ?_
  unfold Builtin.List.listItems
  refine wpAny_bind (wpAny_seqItems hS rfl (wpAny_pure ?_))
  show wpAny _ A.in1 (updateSeq S (fun _ => #[]) >>= fun _ => letGo (#[] : Array Value).toList.reverse >>= fun _ => Builtin.List.listExtendWith (.ref S) (.ref z) .none) _ _ s
  refine wpAny_bind (wpAny_updateSeq hS rfl ?_)
  have Sz := Nat.ne_of_gt B.z
  have ha := Heap.get?_update_self (Obj.mapSeq (fun _ => (#[] : Array Value))) hS rfl
  have ka : ∀ b o, b ≠ S → s.heap.get? b = some o → (s.heap.update S (Obj.mapSeq (fun _ => (#[] : Array Value)))).get? b = some o := fun b o hb e => (Heap.get?_update_other _ _ (Ne.symm hb)).trans e
  refine wpAny_bind (wpAny_letGo ?_)
  generalize s.heap.update S (Obj.mapSeq (fun _ => (#[] : Array Value))) = g1 at ha ka ⊢
  have zg : IsZip g1 z TI TO .none := ka _ _ (Ne.symm Sz) hz
  have hT : ({ s with heap := g1 } : Shared).TypeIs (.ref z) "zip" := ⟨_, zg, rfl⟩
  unfold Builtin.List.listExtendWith
  refine wpAny_bind (wpAny_typeOf hT ?_)
  have h1 : Builtin.List.listSameRef (.ref S) (.ref z) = false := by simp [Builtin.List.listSameRef, Sz]
  have h2 : (Value.type "zip" == Value.type "list") = false := by decide
  have h3 : (Value.type "zip" == Value.type "tuple") = false := by decide
  simp only [h1, h2, h3, Bool.or_false, Bool.false_eq_true, if_false]
  refine wpAny_bind (wpAny_pyIter_zip zg ?_)
  refine wpAny_bind (wpAny_holding ?_)
  unfold Builtin.List.listLengthHint
  refine wpAny_bind (wpAny_specialOf hT zip_no_len ?_)
  show wpAny _ A.in1 (specialOf (Value.ref z) (Str.ofString "__length_hint__") >>= _) _ _ _
  refine wpAny_bind (wpAny_specialOf hT zip_no_hint ?_)
  refine wpAny_pure ?_
  show wpAny _ A.in1 (rule "list.extend.makes-room" >>= fun _ => Builtin.List.listTouch (.ref S) >>= fun _ =>
    again (.builtin "list.extend.loop" ⟨[.ref S, .ref z, .none], []⟩)) _ _ _
  refine wpAny_bind (wpAny_rule ?_)
  refine wpAny_bind ?_
  show wpAny _ A.in1 (updateSeq S (·.push .none) >>= fun _ => updateSeq S (·.pop)) _ _ _
  refine wpAny_bind (wpAny_updateSeq ha rfl ?_)
  have hb := Heap.get?_update_self (Obj.mapSeq (·.push Value.none)) ha rfl
  refine wpAny_updateSeq (hz := by seq_fits) hb rfl ?_
  have hc := Heap.get?_update_self (Obj.mapSeq (·.pop)) hb rfl
  have kc : ∀ b o, b ≠ S → g1.get? b = some o → ((g1.update S (Obj.mapSeq (·.push Value.none))).update S (Obj.mapSeq (·.pop))).get? b = some o :=
    fun b o hb e => (Heap.get?_update_other _ _ (Ne.symm hb)).trans ((Heap.get?_update_other _ _ (Ne.symm hb)).trans e)
  refine wpAny_pure ⟨plainId_quiet PySem.F.plain_extend_loop _, z_loop (s := s) (g := s.heap) hh D B hn .none hR (few xs ys) 0 _ _ #[] [] rfl (Nat.zero_le _) (st.keep B fun b o hb e => kc b o hb (ka b o hb e)) (fun b o b1 _ _ _ _ e => kc b o b1 (ka b o b1 e)) hc rfl rfl
    ⟨List.Pairwise.nil, (fun _ ha => nomatch ha), (fun j a hj => by simp at hj)⟩⟩
theorem call_list_zip {Q : Value → Shared → Prop} (hh : A.handled = none) (D : ZipApart z TI TO i1 i2 l1 l2) (B : Below z TI TO i1 i2 l1 l2 s.heap.objs.size) (hn : few xs ys ≤ sizeLine)
    (hz : IsZip s.heap z TI TO .none) (hTI : IsPair s.heap TI (.ref i1) (.ref i2)) (hTO : ∃ a b, IsPair s.heap TO a b) (h1 : s.heap.IsTupleIter i1 l1 0) (h2 : s.heap.IsTupleIter i2 l2 0) (t1 : s.heap.IsTuple l1 xs) (t2 : s.heap.IsTuple l2 ys)
    (hQ : ∀ h' acc c as, (∀ b o, b ≠ z → b ≠ TO → b ≠ i1 → b ≠ i2 → s.heap.get? b = some o → h'.get? b = some o) → h'.get? s.heap.objs.size = some { cls := .type "list", dict := none, data := .seq acc c, slots := #[] } → as.length = few xs ys →
      Pg xs ys s.heap.objs.size h' as → acc.toList = as.map Value.ref → Q (.ref s.heap.objs.size) { s with heap := h' }) :
    wpAny (model prog w) A (call (.type "list") [.ref z]) Q E s := by
  refine callType_codes (Q₁ := fun obj s₁ => obj = .ref s.heap.objs.size ∧ s₁ = { s with heap := s.heap.push { cls := .type "list", data := .seq #[] } }) PySem.F.called_list (PySem.F.typeCall_list_1 _) PySem.F.entry_list_init
    (code_list_new _ ⟨rfl, rfl⟩) fun obj s₁ h₁ => ?_
  obtain ⟨rfl, rfl⟩ := h₁
  have hS : (s.heap.push { cls := .type "list", data := .seq #[] }).get? s.heap.objs.size = some { cls := .type "list", data := .seq #[] } := Heap.get?_push_size _ rfl
  have k : ∀ b o, s.heap.get? b = some o → (s.heap.push { cls := .type "list", data := .seq #[] }).get? b = some o := fun b o e => Heap.get?_push_of_some _ e
  have tup : ∀ {l : Addr} {us : Array Value}, s.heap.IsTuple l us → (s.heap.push { cls := .type "list", data := .seq #[] }).IsTuple l us := fun t => let ⟨o, ho, r⟩ := t; ⟨o, k _ o ho, r⟩
  refine ⟨⟨_, hS, rfl⟩, PySem.F.args_list_init_2 _ _, z_init (A := A.in1) (xs := xs) (ys := ys) hh D B hn ⟨k _ _ hTI, h1.at fun o e => k _ o e, h2.at fun o e => k _ o e, tup t1, tup t2, .inl ⟨k _ _ hz, ?_⟩⟩ (k _ _ hz) hS fun h' acc c as hk hS' hl hG hacc => ?_⟩
  · obtain ⟨a, b, e⟩ := hTO
    exact ⟨a, b, k _ _ e⟩
  · exact ⟨rfl, hQ h' acc c as (fun b o b2 b3 b4 b5 e => hk b o (Nat.ne_of_lt (Heap.lt_size e)) b2 b3 b4 b5 (k _ _ e)) hS' hl hG hacc⟩
end
end Lz


set_option autoImplicit false
namespace Den
open PySem PySem.Spec L2
def layP : List Addr → List (List V) → Hp → Hp
  | a :: as, x :: xs, H => upd (layP as xs H) a (.tup x)
  | _, _, H => H
def pairsV : List V → List V → List (List V)
  | x :: xs, y :: ys => [x, y] :: pairsV xs ys
  | _, _ => []
section
variable {H : Hp} {b : Addr}
theorem layP_out : ∀ {as : List Addr} {xs : List (List V)}, b ∉ as → layP as xs H b = H b
  | [], xs, _ => by cases xs <;> rfl
  | a :: as, [], _ => rfl
  | a :: as, x :: xs, h => by
    have hne : b ≠ a := fun e => h (by rw [e]; exact List.mem_cons_self)
    rw [layP, upd_ne hne]
    exact layP_out fun z => h (List.mem_cons_of_mem _ z)
theorem layP_in : ∀ {as : List Addr} {xs : List (List V)} {j : Nat} {x : List V}, as.Nodup → as[j]? = some b → xs[j]? = some x → layP as xs H b = some (.tup x)
  | [], _, _, _, _, h, _ => by simp at h
  | a :: as, [], _, _, _, _, h => by simp at h
  | a :: as, y :: xs, 0, x, _, h1, h2 => by
    simp at h1 h2
    subst h1
    subst h2
    exact upd_same
  | a :: as, y :: xs, j + 1, x, nd, h1, h2 => by
    rw [List.nodup_cons] at nd
    simp at h1 h2
    have hne : b ≠ a := fun e => nd.1 (e ▸ List.mem_of_getElem? h1)
    rw [layP, upd_ne hne]
    exact layP_in nd.2 h1 h2
theorem pairsV_len : ∀ {xs ys : List V}, (pairsV xs ys).length = min xs.length ys.length
  | [], ys => by cases ys <;> simp [pairsV]
  | x :: xs, [] => by simp [pairsV]
  | x :: xs, y :: ys => by
    rw [pairsV, List.length_cons, pairsV_len, List.length_cons, List.length_cons]
    omega
theorem pairsV_get : ∀ {xs ys : List V} {j : Nat} {z : List V}, (pairsV xs ys)[j]? = some z → ∃ x y, xs[j]? = some x ∧ ys[j]? = some y ∧ z = [x, y]
  | [], ys, j, z, h => by cases ys <;> simp [pairsV] at h
  | x :: xs, [], j, z, h => by simp [pairsV] at h
  | x :: xs, y :: ys, 0, z, h => by
    simp [pairsV] at h
    exact ⟨x, y, rfl, rfl, h.symm⟩
  | x :: xs, y :: ys, j + 1, z, h => by
    obtain ⟨a, b, h1, h2, h3⟩ := pairsV_get (xs := xs) (ys := ys) (j := j) (z := z) (by simpa [pairsV] using h)
    exact ⟨a, b, by simpa using h1, by simpa using h2, h3⟩
end
section
variable {K : PySem.W.Frag} {G G' H : Hp}
theorem same_lay (hn : ∀ as : List Addr, True) {as : List Addr} {xs : List (List V)} (h : ∀ a ∈ as, H a = none) : Same H (layP as xs H) := fun b o e => by
  rw [layP_out fun z => by rw [h b z] at e; cases e]
  exact e
theorem dps_lay : ∀ {as : List Addr} {xs ys : List V} {d1 d2 : List D}, as.length = (pairsV xs ys).length → Same G G' → DpAll K G xs d1 → DpAll K G ys d2 → (∀ (j : Nat) (a : Addr) (x : List V), as[j]? = some a → (pairsV xs ys)[j]? = some x → G' a = some (.tup x)) →
    DpAll K G' (as.map V.ref) (zipD d1 d2)
  | [], _, _, _, _, hl, s, .nil, _, _ => .nil
  | [], _, _, _, _, hl, s, .cons _ _, .nil, _ => .nil
  | [], _, _, _, _, hl, s, .cons _ _, .cons _ _, _ => by simp [pairsV] at hl
  | a :: as, _, ys, _, _, hl, s, .nil, _, _ => by cases ys <;> simp [pairsV] at hl
  | a :: as, _, _, _, _, hl, s, .cons _ _, .nil, _ => by simp [pairsV] at hl
  | a :: as, _, _, _, _, hl, s, .cons v1 t1, .cons v2 t2, h => by
    refine .cons (.tup (SqT.of (h 0 a _ rfl rfl)) (.cons (dpMono s v1) (.cons (dpMono s v2) .nil))) (dps_lay (by simpa [pairsV] using hl) s t1 t2 fun j b x e1 e2 => h (j + 1) b x (by simpa using e1) (by simpa [pairsV] using e2))
theorem made_lz {p : Addr} {as : List Addr} {xs ys : List V} {d1 d2 : List D} (s : Same G H) (nd : (p :: as).Nodup) (hn : ∀ q ∈ p :: as, H q = none) (hl : as.length = (pairsV xs ys).length) (al1 : DpAll K G xs d1) (al2 : DpAll K G ys d2) :
    Made K G H (.ref p) (.ls (zipD d1 d2)) (layP as (pairsV xs ys) G) (upd (layP as (pairsV xs ys) H) p (.lst (as.map V.ref))) := by
  rw [List.nodup_cons] at nd
  have hna : ∀ a ∈ as, H a = none := fun a ha => hn a (List.mem_cons_of_mem _ ha)
  have gna : ∀ a ∈ as, G a = none := fun a ha => s.free (hna a ha)
  have hp : H p = none := hn p List.mem_cons_self
  have sg : Same G (layP as (pairsV xs ys) G) := same_lay (fun _ => trivial) gna
  refine ⟨sg, fun b o e => ?_, fun b o e => ?_, fun a q => layP_out fun z => q (hna a z), p, as.map V.ref, rfl, (layP_out nd.1).trans (s.free hp), upd_same, dps_lay hl sg al1 al2 fun j a x e1 e2 => layP_in nd.2 e1 e2, hp⟩
  · rw [upd_ne (ne_of_none e hp), layP_out fun z => by rw [hna b z] at e; cases e]
    exact e
  · have hb : b ≠ p := fun z => by
      rw [z, layP_out nd.1, s.free hp] at e
      cases e
    rw [upd_ne hb]
    by_cases ha : b ∈ as
    · obtain ⟨j, hj⟩ := List.mem_iff_getElem?.mp ha
      have hj2 : j < (pairsV xs ys).length := by rw [← hl]; exact (List.getElem?_eq_some_iff.mp hj).1
      have q := List.getElem?_eq_getElem hj2
      rw [layP_in nd.2 hj q] at e ⊢
      exact e
    · rw [layP_out ha] at e ⊢
      exact s b o e
end
theorem un_many {fs ex : List Addr} {H H' : Hp} {h h' : Heap} (k : ∀ b u, h.get? b = some u → h'.get? b = some u) (hf : ∀ b, h.objs.size ≤ b → H b = none) (he : ∀ b, b < h.objs.size → H' b = H b) : Un fs ex H H' h h' := by
  have lt : ∀ {b o}, H b = some o → b < h.objs.size := fun {b o} e => Classical.byContradiction fun z => by rw [hf b (Nat.le_of_not_lt z)] at e; cases e
  exact ⟨fun b u q _ _ _ => k b u q, fun b u q _ _ _ => ⟨u.slots, k b u q⟩, fun b u q n _ => (he b (Heap.lt_size q)).trans n, fun b u q _ => ⟨u, k b u q⟩, fun b xs q => (he b (lt q)).trans q, fun b u xs q => (he b (lt q)).trans q,
    fun b ps q => ⟨#[], by rw [he b (lt q), q]; simp⟩⟩
theorem hok_many {P : Program} {w : World} {H H' : Hp} {h h' : Heap} (x : HOk P w H h) (k : ∀ b u, h.get? b = some u → h'.get? b = some u) (he : ∀ b, b < h.objs.size → H' b = H b) (new : ∀ b u, h.objs.size ≤ b → H' b = some u → ObjOk P w H' h' b u) : HOk P w H' h' := fun b u e => by
  by_cases hb : b < h.objs.size
  · rw [he b hb] at e
    exact (x b u e).stay (fun c v _ q => k c v q) (fun c q => (he c (x.lt q)).trans q) fun c xs q => (he c (x.lt q)).trans q
  · exact new b u (Nat.le_of_not_lt hb) e
section
variable {X : Cx} {e e2 : Expr} {ta : TA} {f g : Fn RR}
def tLz (K : PySem.W.Frag) (ta : TA) : TE := fun σ H Q => ta σ H fun vs H1 => ∃ (a b : Addr) (xs ys : List V), vs = [.ref a, .ref b] ∧ SqT K H1 a xs ∧ SqT K H1 b ys ∧ min xs.length ys.length ≤ sizeLine ∧
  ∀ (p : Addr) (as : List Addr), (p :: as).Nodup → (∀ q ∈ p :: as, H1 q = none) → as.length = (pairsV xs ys).length → Q (.ref p) (upd (layP as (pairsV xs ys) H1) p (.lst (as.map V.ref)))
theorem pe_lz {p p2 q pos : Pos} (hc : X.calm = true) (hg : Gl X "list") (hm : X.mg "list" = none) (hg2 : Gl X "zip") (hm2 : X.mg "zip" = none) (ha : PA X [e, e2] ta)
    (hs : starEach [e, e2] X.env = (false, eval e X.env) :: starEach [e2] X.env) (hpl : (backTo q (starEach [e2] X.env)).any (·.1) = false)
    (na : starEach [Expr.Call (.Name "zip" p2) [e, e2] [] q] X.env = (false, eval (Expr.Call (.Name "zip" p2) [e, e2] [] q) X.env) :: starEach [] X.env) :
    PE X (.Call (.Name "list" p) [.Call (.Name "zip" p2) [e, e2] [] q] [] pos) (tLz X.K ta) := by
  refine ⟨fun pins s σ H Q I h => ?_⟩
  refine PyProof.Rows.Call_ (ld_blt I hg hm PyProof.Rows.boot_list (PyProof.Rows.callWith_type1 (PyProof.Rows.args_cons ?_ na) na))
  refine PyProof.Rows.Call_ (ld_blt I hg2 hm2 PyProof.Rows.boot_zip (PyProof.Rows.callWith_type1 (thn (ha.run q pins s σ H _ I h) fun us s1 ⟨vs, H1, I1, r1, q1⟩ => ?_) hs hpl))
  obtain ⟨a, b, xs, ys, rfl, hqx, hqy, hlen, q1⟩ := q1
  cases r1 with
  | cons r rr =>
    cases rr with
    | cons r' rr =>
      cases rr
      cases r
      cases r'
      obtain ⟨its, rv, t1, _⟩ := I1.tuple hqx
      obtain ⟨its2, rv2, t2, _⟩ := I1.tuple hqy
      obtain ⟨o1, ho1, t1r⟩ := id t1
      obtain ⟨o2, ho2, t2r⟩ := id t2
      have l1 := Heap.lt_size ho1
      have l2 := Heap.lt_size ho2
      have lx := rv.length
      have ly := rv2.length
      refine RZ.call_zipT (show s1.heap.IsTuple a its.toArray from t1) (show s1.heap.IsTuple b its2.toArray from t2) fun h' hz hTI hTO h1 h2 hsz hk => ?_
      refine PyProof.Rows.args_nil ?_
      have sz5 : h'.objs.size = s1.heap.objs.size + 5 := hsz
      have lt5 : ∀ n : Nat, n < 5 → s1.heap.objs.size + n < h'.objs.size := fun n hn => by rw [sz5]; exact Nat.add_lt_add_left hn _
      have lt0 : s1.heap.objs.size < h'.objs.size := lt5 0 (by decide)
      refine Lz.call_list_zip (s := { s1 with heap := h' }) (xs := its.toArray) (ys := its2.toArray) (I1.ok.hd hc) (PySem.W.ktu_apart s1.heap.objs.size a b l1 l2)
        ⟨lt5 4 (by decide), lt5 2 (by decide), lt5 3 (by decide), lt0, lt5 1 (by decide), Nat.lt_trans l1 lt0, Nat.lt_trans l2 lt0⟩ ?_ hz hTI ⟨_, _, hTO⟩ h1 h2 ⟨o1, hk _ _ ho1, t1r⟩ ⟨o2, hk _ _ ho2, t2r⟩ fun h2' acc c as hk2 hS hl hG hacc => ?_
      · unfold Lz.few
        simp only [List.size_toArray]
        omega
      · dsimp only at hk2 hS hG ⊢
        have nd : (h'.objs.size :: as).Nodup := List.nodup_cons.mpr ⟨fun z => Nat.lt_irrefl _ (hG.above _ z), hG.rise.imp fun z => Nat.ne_of_lt z⟩
        have big : ∀ q ∈ h'.objs.size :: as, s1.heap.objs.size ≤ q := fun q hq => by
          rcases List.mem_cons.mp hq with rfl | z
          · exact Nat.le_of_lt lt0
          · exact Nat.le_of_lt (Nat.lt_trans lt0 (hG.above q z))
        have kk : ∀ b o, s1.heap.get? b = some o → h2'.get? b = some o := fun b o q => by
          have lb := Heap.lt_size q
          exact hk2 b o (Nat.ne_of_lt (Nat.lt_of_lt_of_le lb (Nat.le_add_right _ _))) (Nat.ne_of_lt (Nat.lt_of_lt_of_le lb (Nat.le_add_right _ _))) (Nat.ne_of_lt lb) (Nat.ne_of_lt (Nat.lt_of_lt_of_le lb (Nat.le_add_right _ _))) (hk b o q)
        have hla : as.length = (pairsV xs ys).length := by
          rw [hl, pairsV_len]
          unfold Lz.few
          simp only [List.size_toArray]
          omega
        have he : ∀ b, b < s1.heap.objs.size → upd (layP as (pairsV xs ys) H1) h'.objs.size (.lst (as.map V.ref)) b = H1 b := fun b hb => by
          rw [upd_ne (Nat.ne_of_lt (Nat.lt_trans hb lt0)), layP_out fun z => Nat.lt_irrefl _ (Nat.lt_of_lt_of_le hb (big b (List.mem_cons_of_mem _ z)))]
        have hf : ∀ b, s1.heap.objs.size ≤ b → H1 b = none := fun b hb => I1.hok.fresh hb
        have fit : (as.map V.ref).length ≤ sizeLine := by
          rw [List.length_map, hla, pairsV_len]
          exact hlen
        have vals : ∀ l : List Addr, Vals (l.map V.ref) (l.map Value.ref) := fun l => by
          induction l with
          | nil => exact .nil
          | cons x l ih => exact .cons rfl ih
        refine ⟨.ref h'.objs.size, upd (layP as (pairsV xs ys) H1) h'.objs.size (.lst (as.map V.ref)), I1.un (h' := h2') (t' := s1.toks) (un_many kk hf he) (hok_many I1.hok kk he fun b u hb e => ?_), rfl, q1 _ as nd (fun q hq => hf q (big q hq)) hla⟩
        by_cases hbS : b = h'.objs.size
        · subst hbS
          rw [upd_same] at e
          cases e
          exact ⟨fit, acc.toList, c, by rw [hacc]; exact vals as, by rw [Array.toArray_toList]; exact hS⟩
        · rw [upd_ne hbS] at e
          by_cases hba : b ∈ as
          · obtain ⟨j, hj⟩ := List.mem_iff_getElem?.mp hba
            have hj2 : j < (pairsV xs ys).length := by rw [← hla]; exact (List.getElem?_eq_some_iff.mp hj).1
            have ez := List.getElem?_eq_getElem hj2
            rw [layP_in (List.nodup_cons.mp nd).2 hj ez] at e
            cases e
            obtain ⟨x, y, ex, ey, ezz⟩ := pairsV_get ez
            obtain ⟨u, v, eu, ev, ep⟩ := hG.pairs j b hj
            obtain ⟨u', hu', ru⟩ := rv.get ex
            obtain ⟨v', hv', rv'⟩ := rv2.get ey
            have e3 : u = u' := Option.some.inj (eu.symm.trans (by simpa using hu'))
            have e4 : v = v' := Option.some.inj (ev.symm.trans (by simpa using hv'))
            subst e3
            subst e4
            rw [ezz]
            exact ⟨by show 2 ≤ sizeLine; decide, [u, v], .cons ru (.cons rv' .nil), ⟨_, ep, rfl, _, rfl⟩⟩
          · rw [layP_out hba, hf b hb] at e
            cases e
def fLz (f g : Fn RR) : Fn RR := fun ρ => (fF f ρ).bind fun x => (fF g x.2).bind fun y => match x.1, y.1 with
  | .tuple xs, .tuple ys => if xs.length ≤ lim then some (.ls (zipD xs ys), y.2) else none
  | _, _ => none
theorem e_lz {p p2 q pos : Pos} (hc : X.calm = true) (hg : Gl X "list") (hm : X.mg "list" = none) (hg2 : Gl X "zip") (hm2 : X.mg "zip" = none) (ha : PE X e (tD X.K f)) (hb : PE X e2 (tD X.K g))
    (hs : starEach [e, e2] X.env = (false, eval e X.env) :: starEach [e2] X.env) (hs2 : starEach [e2] X.env = (false, eval e2 X.env) :: starEach [] X.env) (hpl : (backTo q (starEach [e2] X.env)).any (·.1) = false)
    (na : starEach [Expr.Call (.Name "zip" p2) [e, e2] [] q] X.env = (false, eval (Expr.Call (.Name "zip" p2) [e, e2] [] q) X.env) :: starEach [] X.env) :
    PE X (.Call (.Name "list" p) [.Call (.Name "zip" p2) [e, e2] [] q] [] pos) (tD X.K (fLz f g)) :=
  weakE (pe_lz hc hg hm hg2 hm2 (fs_cons (to_F ha) (fs_cons (to_F hb) fs_nil hs2) hs) hs hpl na) fun σ H Q ⟨G, ρ, r, ρ', Rl, q, k⟩ => by
    obtain ⟨x, e1, q⟩ := bindS q
    obtain ⟨y, e2, q⟩ := bindS q
    have ef : fsCons (fF f) (fsCons (fF g) fsNil) ρ = some ([x.1, y.1], y.2) := by simp [fsCons, fsNil, e1, e2]
    refine ⟨G, ρ, [x.1, y.1], y.2, Rl, ef, fun vs G1 H1 R1 S1 al => ?_⟩
    split at q
    · rename_i xs ys hx hy
      obtain ⟨hlim, q⟩ := iteS q
      cases q
      rw [hx, hy] at al
      cases al with
      | cons d1 t =>
        cases t with
        | cons d2 t =>
          cases t
          cases d1 with
          | tup hs1 al1 =>
            cases d2 with
            | tup hs2 al2 =>
              have hle := dpsLen al1
              refine ⟨_, _, _, _, rfl, same_tup R1.sub hs1, same_tup R1.sub hs2, by have := lim_le hlim; omega, fun p as nd hn hl => k _ _ _ (pst_trans S1 ((made_lz R1.sub nd hn hl al1 al2).pst R1))⟩
    · cases q
end
end Den


set_option autoImplicit false
namespace Lz
open PySem PySem.W
open PySem.Sem (wp)
structure Src (prog : Program) (w : World) (it l : Addr) (xs : Array Value) (P : Heap → Nat → Prop) : Prop where
  keep : ∀ {h h' : Heap} {i : Nat}, P h i → (∀ o, h.get? it = some o → h'.get? it = some o) → (∀ o, h.get? l = some o → h'.get? l = some o) → P h' i
  there : ∀ {h : Heap} {i : Nat}, P h i → ∃ o, h.get? it = some o ∧ ∀ v, o.data ≠ .cell v
  item : ∀ {A : Around} {s : Shared} {i : Nat} {x : Value} {Q E : Value → Shared → Prop}, P s.heap i → xs[i]? = some x → (∀ h', P h' (i + 1) → Heap.SameBut it s.heap h' → Q x { s with heap := h' }) →
    wpAny (model prog w) A (Builtin.SmallTypes.nextOf (.ref it)) Q E s
  done : ∀ {A : Around} {s : Shared} {i : Nat} {Q E : Value → Shared → Prop}, A.handled = none → P s.heap i → xs[i]? = none → (∀ h' e, Heap.ExtBut it s.heap h' → (∃ o, h'.get? e = some o ∧ o.cls = .type "StopIteration") → E (.ref e) { s with heap := h' }) →
    wpAny (model prog w) A (Builtin.SmallTypes.nextOf (.ref it)) Q E s
def PL (it l : Addr) (xs : Array Value) (h : Heap) (i : Nat) : Prop := h.IsListIter it l i ∧ h.IsList l xs
def PT (it l : Addr) (xs : Array Value) (h : Heap) (i : Nat) : Prop := h.IsTupleIter it l i ∧ h.IsTuple l xs
section
variable {prog : Program} {w : World} {it l : Addr} {xs : Array Value}
theorem src_list (ne : l ≠ it) : Src prog w it l xs (PL it l xs) where
  keep := fun p k1 k2 => ⟨p.1.at k1, p.2.at k2⟩
  there := fun p => let ⟨o, e, _, d⟩ := p.1; ⟨o, e, fun v q => by rw [d] at q; cases q⟩
  item := fun p hx hQ => wpAny_nextOf_list_item p.1 p.2 hx fun h' q sb => hQ h' ⟨q, p.2.at fun o e => sb.extBut _ o ne e⟩ sb
  done := fun hh p hx hE => wpAny_nextOf_list_end hh p.1 p.2 hx hE
theorem src_tup (ne : l ≠ it) : Src prog w it l xs (PT it l xs) where
  keep := fun p k1 k2 => ⟨p.1.at k1, let ⟨o, e, r⟩ := p.2; ⟨o, k2 o e, r⟩⟩
  there := fun p => let ⟨o, e, _, d⟩ := p.1; ⟨o, e, fun v q => by rw [d] at q; cases q⟩
  item := fun p hx hQ => RZ.nextOf_tuple_item p.1 p.2 hx fun h' q sb => hQ h' ⟨q, let ⟨o, e, r⟩ := p.2; ⟨o, sb.extBut _ o ne e, r⟩⟩ sb
  done := fun hh p hx hE => RZ.nextOf_tuple_end hh p.1 p.2 hx hE
end
section
variable {prog : Program} {w : World} {A : Around} {E : Value → Shared → Prop} {s : Shared} {z TI TO i1 i2 l1 l2 : Addr} {k1 k2 : Nat} {xs ys : Array Value} {x y a b : Value} {P1 P2 : Heap → Nat → Prop}
theorem any_item {Q : Option Value → Shared → Prop} (D : ZipApart z TI TO i1 i2 l1 l2) (S1 : Src prog w i1 l1 xs P1) (S2 : Src prog w i2 l2 ys P2)
    (hz : IsZip s.heap z TI TO .none) (hTI : IsPair s.heap TI (.ref i1) (.ref i2)) (hTO : IsPair s.heap TO a b) (h1 : P1 s.heap k1) (h2 : P2 s.heap k2) (hx : xs[k1]? = some x) (hy : ys[k2]? = some y)
    (hQ : ∀ h', IsZip h' z TI TO (rawInt s.heap.objs.size) → IsPair h' TO x y → P1 h' (k1 + 1) → P2 h' (k2 + 1) → IsPair h' s.heap.objs.size x y → h'.objs.size = s.heap.objs.size + 1 →
      (∀ c o, c ≠ z → c ≠ TO → c ≠ i1 → c ≠ i2 → s.heap.get? c = some o → h'.get? c = some o) → Q (some (.ref s.heap.objs.size)) { s with heap := h' }) :
    wpAny (model prog w) A (pyNext (.ref z)) Q E s := by
  have hTy : s.TypeIs (.ref z) "zip" := ⟨_, hz, rfl⟩
  unfold pyNext
  refine wpAny_bind (wpAny_attempt (wpAny_callSpecial?_slot (name := Str.ofString "__next__") hTy F.slot_zip_next (wpAny_call_entry F.slot_zip_next hTy F.entry_zip_next ?_ (F.args_zip_next_1 _))))
  show wpAny _ _ (field (.ref z) 2 >>= _) _ _ _
  refine wpAny_bind (wpAny_field hz rfl (x := .bool false) rfl ?_)
  show wpAny _ _ (field (.ref z) 3 >>= _) _ _ _
  refine wpAny_bind (wpAny_field hz rfl (x := .ref TI) rfl ?_)
  refine wpAny_bind (wpAny_seqItems hTI rfl ?_)
  show wpAny _ _ (Builtin.SmallTypes.ownedTupleIsFree (.ref z) >>= _) _ _ _
  refine wpAny_bind ?_
  unfold Builtin.SmallTypes.ownedTupleIsFree
  refine wpAny_bind (wpAny_field hz rfl (x := .none) rfl (wpAny_pure ?_))
  simp only [if_true]
  refine wpAny_bind (wpAny_rule ?_)
  refine wpAny_bind (wpAny_field hz rfl (x := .ref TO) rfl ?_)
  refine wpAny_bind (wpAny_setField_rec hz (by simp) fun ha hza sa => ?_)
  replace hza : IsZip ha z TI TO .ellipsis := hza
  refine wpAny_bind ?_
  simp only [List.zipIdx_cons, List.zipIdx_nil, List.forIn_cons, List.forIn_nil]
  refine wpAny_bind (wpAny_bind (wpAny_onRaise ?_))
  show wpAny _ _ (Builtin.SmallTypes.nextOf (.ref i1) >>= _) _ _ _
  refine wpAny_bind (S1.item (s := { s with heap := ha }) (S1.keep h1 (fun o e => sa.extBut _ o D.i1z e) fun o e => sa.extBut _ o D.l1z e) hx fun hb p1b sb => wpAny_pure ?_)
  have tob : IsPair hb TO a b := sb.extBut _ _ D.TOi1 (sa.extBut _ _ D.TOz hTO)
  refine wpAny_bind (wpAny_seqItems tob rfl ?_)
  refine wpAny_bind (wpAny_updateSeq_pair tob fun hc toc sc => ?_)
  replace toc : IsPair hc TO x b := toc
  refine wpAny_bind (wpAny_letGo (wpAny_pure ?_))
  refine wpAny_bind (wpAny_bind (wpAny_onRaise ?_))
  show wpAny _ _ (Builtin.SmallTypes.nextOf (.ref i2) >>= _) _ _ _
  refine wpAny_bind (S2.item (s := { s with heap := hc }) (S2.keep h2 (fun o e => sc.extBut _ o D.TOi2.symm (sb.extBut _ o D.i12.symm (sa.extBut _ o D.i2z e))) fun o e => sc.extBut _ o D.l2TO (sb.extBut _ o D.l2i1 (sa.extBut _ o D.l2z e))) hy fun hd p2d sd => wpAny_pure ?_)
  have tod : IsPair hd TO x b := sd.extBut _ _ D.TOi2 toc
  refine wpAny_bind (wpAny_seqItems tod rfl ?_)
  refine wpAny_bind (wpAny_updateSeq_pair tod fun he toe se => ?_)
  replace toe : IsPair he TO x y := toe
  refine wpAny_bind (wpAny_letGo (wpAny_pure (wpAny_pure ?_)))
  refine wpAny_bind (wpAny_seqItems toe rfl ?_)
  refine wpAny_bind (wpAny_newTuple ?_)
  have hsz : he.objs.size = s.heap.objs.size := by rw [se.1, sd.1, sc.1, sb.1, sa.1]
  have ze : IsZip he z TI TO .ellipsis := se.extBut _ _ D.TOz.symm (sd.extBut _ _ D.i2z.symm (sc.extBut _ _ D.TOz.symm (sb.extBut _ _ D.i1z.symm hza)))
  have ke : ∀ c o, c ≠ z → c ≠ TO → c ≠ i1 → c ≠ i2 → s.heap.get? c = some o → he.get? c = some o := fun c o c1 c2 c3 c4 e =>
    se.extBut _ _ c2 (sd.extBut _ _ c4 (sc.extBut _ _ c2 (sb.extBut _ _ c3 (sa.extBut _ _ c1 e))))
  have p1e : P1 he (k1 + 1) := S1.keep p1b (fun o e => se.extBut _ o D.TOi1.symm (sd.extBut _ o D.i12 (sc.extBut _ o D.TOi1.symm e))) fun o e => se.extBut _ o D.l1TO (sd.extBut _ o D.l1i2 (sc.extBut _ o D.l1TO e))
  have p2e : P2 he (k2 + 1) := S2.keep p2d (fun o e => se.extBut _ o D.TOi2.symm e) fun o e => se.extBut _ o D.l2TO e
  have zlt : z < he.objs.size := Heap.lt_size ze
  show wpAny _ _ (Builtin.SmallTypes.ownedTupleHandOut (.ref z) (.ref he.objs.size) >>= _) _ _ _
  refine wpAny_bind ?_
  unfold Builtin.SmallTypes.ownedTupleHandOut
  have zf : IsZip (he.push { cls := .type "tuple", data := .seq #[x, y] }) z TI TO .ellipsis := Heap.get?_push_of_some _ ze
  refine wpAny_bind (wpAny_setField_rec zf (by simp) fun hg zg sg => ?_)
  replace zg : IsZip hg z TI TO (rawInt he.objs.size) := zg
  refine wpAny_setField_rec zg (by simp) fun hi zi si => ?_
  replace zi : IsZip hi z TI TO (rawInt he.objs.size) := zi
  have up : ∀ c o, c ≠ z → he.get? c = some o → hi.get? c = some o := fun c o c1 e => si.extBut _ _ c1 (sg.extBut _ _ c1 (Heap.get?_push_of_some _ e))
  have ti : IsPair hi he.objs.size x y := si.extBut _ _ (Nat.ne_of_gt zlt) (sg.extBut _ _ (Nat.ne_of_gt zlt) (Heap.get?_push_size _ rfl))
  have zs : hi.objs.size = he.objs.size + 1 := by rw [si.1, sg.1, Heap.size_push]
  rw [hsz] at zi ti zs
  refine wpAny_pure ⟨_, rfl, wpAny_pure ?_⟩
  show Q (some (.ref he.objs.size)) _
  rw [hsz]
  exact hQ hi zi (up _ _ D.TOz toe) (S1.keep p1e (fun o e => up _ o D.i1z e) fun o e => up _ o D.l1z e) (S2.keep p2e (fun o e => up _ o D.i2z e) fun o e => up _ o D.l2z e) ti zs fun c o c1 c2 c3 c4 e => up c o c1 (ke c o c1 c2 c3 c4 e)
theorem any_end {Q : Option Value → Shared → Prop} (hh : A.handled = none) (D : ZipApart z TI TO i1 i2 l1 l2) (S1 : Src prog w i1 l1 xs P1) (S2 : Src prog w i2 l2 ys P2)
    (hz : IsZip s.heap z TI TO .none) (hTI : IsPair s.heap TI (.ref i1) (.ref i2)) (hTO : IsPair s.heap TO a b) (h1 : P1 s.heap k1) (h2 : P2 s.heap k2) (hend : xs[k1]? = none ∨ ys[k2]? = none)
    (hQ : ∀ h', (∀ c o, c ≠ z → c ≠ TO → c ≠ i1 → c ≠ i2 → s.heap.get? c = some o → h'.get? c = some o) → Q none { s with heap := h' }) : wpAny (model prog w) A (pyNext (.ref z)) Q E s := by
  have hTy : s.TypeIs (.ref z) "zip" := ⟨_, hz, rfl⟩
  unfold pyNext
  refine wpAny_bind (wpAny_attempt (wpAny_callSpecial?_slot (name := Str.ofString "__next__") hTy F.slot_zip_next (wpAny_call_entry F.slot_zip_next hTy F.entry_zip_next ?_ (F.args_zip_next_1 _))))
  show wpAny _ _ (field (.ref z) 2 >>= _) _ _ _
  refine wpAny_bind (wpAny_field hz rfl (x := .bool false) rfl ?_)
  show wpAny _ _ (field (.ref z) 3 >>= _) _ _ _
  refine wpAny_bind (wpAny_field hz rfl (x := .ref TI) rfl ?_)
  refine wpAny_bind (wpAny_seqItems hTI rfl ?_)
  show wpAny _ _ (Builtin.SmallTypes.ownedTupleIsFree (.ref z) >>= _) _ _ _
  refine wpAny_bind ?_
  unfold Builtin.SmallTypes.ownedTupleIsFree
  refine wpAny_bind (wpAny_field hz rfl (x := .none) rfl (wpAny_pure ?_))
  simp only [if_true]
  refine wpAny_bind (wpAny_rule ?_)
  refine wpAny_bind (wpAny_field hz rfl (x := .ref TO) rfl ?_)
  refine wpAny_bind (wpAny_setField_rec hz (by simp) fun ha hza sa => ?_)
  replace hza : IsZip ha z TI TO .ellipsis := hza
  refine wpAny_bind ?_
  simp only [List.zipIdx_cons, List.zipIdx_nil, List.forIn_cons, List.forIn_nil]
  refine wpAny_bind (wpAny_bind (wpAny_onRaise ?_))
  show wpAny _ _ (Builtin.SmallTypes.nextOf (.ref i1) >>= _) _ _ _
  cases hx : xs[k1]? with
  | none =>
    refine wpAny_bind (S1.done (s := { s with heap := ha }) hh (S1.keep h1 (fun o e => sa.extBut _ o D.i1z e) fun o e => sa.extBut _ o D.l1z e) hx fun hb e sb he => ?_)
    obtain ⟨oe, hoe, hce⟩ := he
    have zb : IsZip hb z TI TO .ellipsis := sb _ _ D.i1z.symm hza
    have hez : e ≠ z := fun x => by subst x; rw [zb] at hoe; cases hoe; simp at hce
    refine wpAny_setField_rec zb (by simp) fun hc _ sc => ?_
    exact wpAny_bind (wpAny_isInstance (T := "StopIteration") (b := true) ⟨oe, sc.extBut _ _ hez hoe, hce⟩ isSubtype_stop (wpAny_pure (hQ hc fun c o c1 _ c3 _ x => sc.extBut _ _ c1 (sb _ _ c3 (sa.extBut _ _ c1 x)))))
  | some x =>
    have hy : ys[k2]? = none := by rcases hend with h | h; rw [hx] at h; cases h; exact h
    refine wpAny_bind (S1.item (s := { s with heap := ha }) (S1.keep h1 (fun o e => sa.extBut _ o D.i1z e) fun o e => sa.extBut _ o D.l1z e) hx fun hb p1b sb => wpAny_pure ?_)
    have tob : IsPair hb TO a b := sb.extBut _ _ D.TOi1 (sa.extBut _ _ D.TOz hTO)
    refine wpAny_bind (wpAny_seqItems tob rfl ?_)
    refine wpAny_bind (wpAny_updateSeq_pair tob fun hc toc sc => ?_)
    refine wpAny_bind (wpAny_letGo (wpAny_pure ?_))
    refine wpAny_bind (wpAny_bind (wpAny_onRaise ?_))
    show wpAny _ _ (Builtin.SmallTypes.nextOf (.ref i2) >>= _) _ _ _
    refine wpAny_bind (S2.done (s := { s with heap := hc }) hh (S2.keep h2 (fun o e => sc.extBut _ o D.TOi2.symm (sb.extBut _ o D.i12.symm (sa.extBut _ o D.i2z e))) fun o e => sc.extBut _ o D.l2TO (sb.extBut _ o D.l2i1 (sa.extBut _ o D.l2z e))) hy fun hd e sd he => ?_)
    obtain ⟨oe, hoe, hce⟩ := he
    have zd : IsZip hd z TI TO .ellipsis := sd _ _ D.i2z.symm (sc.extBut _ _ D.TOz.symm (sb.extBut _ _ D.i1z.symm hza))
    have hez : e ≠ z := fun x => by subst x; rw [zd] at hoe; cases hoe; simp at hce
    refine wpAny_setField_rec zd (by simp) fun hf _ sf => ?_
    exact wpAny_bind (wpAny_isInstance (T := "StopIteration") (b := true) ⟨oe, sf.extBut _ _ hez hoe, hce⟩ isSubtype_stop (wpAny_pure (hQ hf fun c o c1 c2 c3 c4 x => sf.extBut _ _ c1 (sd _ _ c4 (sc.extBut _ _ c2 (sb.extBut _ _ c3 (sa.extBut _ _ c1 x)))))))
end
abbrev mH1 (h : Heap) (l1 : Addr) : Heap := h.push { cls := .type "list_iterator", data := .fields #[.ref l1, .int 0 0] }
abbrev mH2 (h : Heap) (l1 l2 : Addr) : Heap := (mH1 h l1).push { cls := .type "tuple_iterator", data := .fields #[.ref l2, .int 0 0] }
abbrev mH3 (h : Heap) (l1 l2 : Addr) : Heap := (mH2 h l1 l2).push { cls := .type "tuple", data := .seq #[.ref h.objs.size, .ref (mH1 h l1).objs.size] }
abbrev mH4 (h : Heap) (l1 l2 : Addr) : Heap := (mH3 h l1 l2).push { cls := .type "tuple", data := .seq #[.none, .none] }
abbrev mH5 (h : Heap) (l1 l2 : Addr) : Heap := (mH4 h l1 l2).push { cls := .type "zip", data := .fields #[.none, .bool false, .bool false, .ref (mH2 h l1 l2).objs.size, .ref (mH3 h l1 l2).objs.size] }
theorem meets_zipM_new (l1 l2 : Addr) (xs ys : Array Value) :
    Meets (Builtin.«zip.__new__» ⟨[.type "zip", .ref l1, .ref l2], []⟩) (fun _ R s => s.heap.IsList l1 xs ∧ s.heap.IsTuple l2 ys ∧
      R (.ok (.ret (.ref (mH4 s.heap l1 l2).objs.size))) { s with heap := mH5 s.heap l1 l2 }) :=
  .of_wp fun prog w A R s h => by
    obtain ⟨hp, g, d, tk, os⟩ := s; obtain ⟨hl1, hl2, h⟩ := h
    have hsub := sub_zip
    have hL1 : Heap.IsList (Shared.heap ⟨hp, g, d, tk, os⟩) l1 xs := hl1
    have hL2 : Heap.IsTuple (Shared.heap ⟨hp.push { cls := .type "list_iterator", data := .fields #[.ref l1, .int 0 0] }, g, d, tk, os⟩) l2 ys := Heap.IsTuple.push hl2 _
    wp_walk using wpAny_pyIter_list hL1, wpAny_pyIter_tuple hL2
    exact ⟨_, rfl, h⟩
section
variable {prog : Program} {w : World} {A : Around} {E : Value → Shared → Prop} {s : Shared}
theorem call_zipM {l1 l2 : Addr} {xs ys : Array Value} {Q : Value → Shared → Prop} (hl1 : s.heap.IsList l1 xs) (hl2 : s.heap.IsTuple l2 ys)
    (h : ∀ h', IsZip h' (s.heap.objs.size + 4) (s.heap.objs.size + 2) (s.heap.objs.size + 3) .none → IsPair h' (s.heap.objs.size + 2) (.ref s.heap.objs.size) (.ref (s.heap.objs.size + 1)) →
      IsPair h' (s.heap.objs.size + 3) .none .none → h'.IsListIter s.heap.objs.size l1 0 → h'.IsTupleIter (s.heap.objs.size + 1) l2 0 → h'.objs.size = s.heap.objs.size + 5 →
      (∀ c o, s.heap.get? c = some o → h'.get? c = some o) → Q (.ref (s.heap.objs.size + 4)) { s with heap := h' }) :
    wpAny (model prog w) A (call (.type "zip") [.ref l1, .ref l2]) Q E s := by
  refine callType_new F.called_zip (by decide) (F.typeCall_zip_2 _ _) (F.newCall_zip_2 _ _) (fun obj => F.args_object_init_3 obj _ _) F.entry_zip_new
    (meets_zipM_new l1 l2 xs ys) ⟨hl1, hl2, ?_⟩
  have z1 : (mH1 s.heap l1).objs.size = s.heap.objs.size + 1 := Heap.size_push ..
  have z2 : (mH2 s.heap l1 l2).objs.size = s.heap.objs.size + 2 := by rw [Heap.size_push, z1]
  have z3 : (mH3 s.heap l1 l2).objs.size = s.heap.objs.size + 3 := by rw [Heap.size_push, z2]
  have z4 : (mH4 s.heap l1 l2).objs.size = s.heap.objs.size + 4 := by rw [Heap.size_push, z3]
  have z5 : (mH5 s.heap l1 l2).objs.size = s.heap.objs.size + 5 := by rw [Heap.size_push, z4]
  have up : ∀ {h : Heap} {c : Addr} {o : Obj} (n : Obj), h.get? c = some o → (h.push n).get? c = some o := fun n e => Heap.get?_push_of_some n e
  have g5 : (mH5 s.heap l1 l2).get? (mH4 s.heap l1 l2).objs.size = some _ := Heap.get?_push_size _ rfl
  have g4 : (mH5 s.heap l1 l2).get? (mH3 s.heap l1 l2).objs.size = some _ := up _ (Heap.get?_push_size _ rfl)
  have g3 : (mH5 s.heap l1 l2).get? (mH2 s.heap l1 l2).objs.size = some _ := up _ (up _ (Heap.get?_push_size _ rfl))
  have g2 : (mH5 s.heap l1 l2).get? (mH1 s.heap l1).objs.size = some _ := up _ (up _ (up _ (Heap.get?_push_size _ rfl)))
  have g1 : (mH5 s.heap l1 l2).get? s.heap.objs.size = some _ := up _ (up _ (up _ (up _ (Heap.get?_push_size _ rfl))))
  show _ ∧ _
  rw [z2, z3, z4] at g5
  rw [z1, z2] at g3
  rw [z3] at g4
  rw [z1] at g2
  rw [z4]
  exact ⟨⟨_, g5, rfl⟩, h _ g5 g3 g4 ⟨_, g1, rfl, rfl⟩ ⟨_, g2, rfl, rfl⟩ z5 fun c o x => up _ (up _ (up _ (up _ (up _ x))))⟩
end
end Lz


set_option autoImplicit false
namespace Lz
open PySem PySem.Spec PyProof.Rows L2
def ItzM (K : PySem.W.Frag) (a b : Addr) : It :=
  ⟨fun i H => ∃ (xs ys : List V) (x y : V), SqL K H a xs ∧ SqT K H b ys ∧ xs[i]? = some x ∧ ys[i]? = some y,
    fun i H v H' => ∃ T x y, v = .ref T ∧ H T = none ∧ H' = upd H T (.tup [x, y]) ∧ (∀ xs, SqL K H a xs → xs[i]? = some x) ∧ ∀ ys, SqT K H b ys → ys[i]? = some y,
    fun i H => ∃ xs ys : List V, SqL K H a xs ∧ SqT K H b ys ∧ (xs.length ≤ i ∨ ys.length ≤ i)⟩
theorem turn_zipM {P : Program} {w : World} {K : PySem.W.Frag} {elts : List Expr} {kk : Nat} {tpos : Pos} {a b z TI TO i1 i2 : Addr} (D : ZipApart z TI TO i1 i2 a b) :
    Turn P w K (.Tuple elts kk tpos) (ItzM K a b) [z, TI, TO, i1, i2] z (fun i h => IsZip h z TI TO .none ∧ IsPair h TI (.ref i1) (.ref i2) ∧ (∃ x y, IsPair h TO x y) ∧ h.IsListIter i1 a i ∧ h.IsTupleIter i2 b i) where
  mem := by simp
  obj := fun i h st c hc => by
    obtain ⟨hz, hTI, ⟨x, y, hTO⟩, ⟨o1, e1, _, d1⟩, ⟨o2, e2, _, d2⟩⟩ := st
    simp only [List.mem_cons, List.not_mem_nil, or_false] at hc
    rcases hc with q | q | q | q | q
    · rw [q]; exact ⟨_, hz, fun v q => nomatch q⟩
    · rw [q]; exact ⟨_, hTI, fun v q => nomatch q⟩
    · rw [q]; exact ⟨_, hTO, fun v q => nomatch q⟩
    · exact ⟨o1, by rw [q]; exact e1, fun v q => by rw [d1] at q; cases q⟩
    · exact ⟨o2, by rw [q]; exact e2, fun v q => by rw [d2] at q; cases q⟩
  keep := fun i h h' st k => by
    obtain ⟨hz, hTI, ⟨x, y, hTO⟩, h1, h2⟩ := st
    exact ⟨k z (by simp) _ hz, k TI (by simp) _ hTI, ⟨x, y, k TO (by simp) _ hTO⟩, h1.at fun o q => k i1 (by simp) o q, h2.at fun o q => k i2 (by simp) o q⟩
  item := by
    intro X hP hw hK hc i pins s σ H E I hf st hg
    subst hP hw hK
    obtain ⟨hz, hTI, ⟨x0, y0, hTO⟩, h1, h2⟩ := st
    obtain ⟨xs, ys, x, y, hqx, hqy, hx, hy⟩ := hg
    obtain ⟨its, rv, p, _⟩ := I.list hqx
    obtain ⟨its2, rv2, p2, _⟩ := I.tuple hqy
    obtain ⟨u, hu, ru⟩ := rv.get hx
    obtain ⟨v, hv, rv'⟩ := rv2.get hy
    have zl : z < s.heap.objs.size := Heap.lt_size hz
    have below : ∀ c ∈ [z, TI, TO, i1, i2], c < s.heap.objs.size := fun c hc => by
      simp only [List.mem_cons, List.not_mem_nil, or_false] at hc
      rcases hc with q | q | q | q | q
      · rw [q]; exact zl
      · rw [q]; exact Heap.lt_size hTI
      · rw [q]; exact Heap.lt_size hTO
      · rw [q]; obtain ⟨_, e, _⟩ := h1; exact Heap.lt_size e
      · rw [q]; obtain ⟨_, e, _⟩ := h2; exact Heap.lt_size e
    refine any_item D (src_list (xs := its.toArray) D.l1i1) (src_tup (xs := its2.toArray) D.l2i2) hz hTI hTO ⟨h1, p.isList⟩ ⟨h2, p2⟩ (x := u) (y := v) (by simpa using hu) (by simpa using hv) fun h' z' TO' q1 q2 hT hsz hk => ?_
    refine ⟨_, rfl, wpAny_letOwnedTupleGo_zip (s := { s with heap := h' }) z' fun h'' z'' sb => ?_⟩
    have hT2 : h''.get? s.heap.objs.size = some { cls := .type "tuple", data := .seq #[u, v] } := (sb.2 _ (Nat.ne_of_gt zl)).trans hT
    have new : ObjOk X.prog X.w (upd H s.heap.objs.size (.tup [x, y])) h'' s.heap.objs.size (.tup [x, y]) :=
      ⟨by show 2 ≤ sizeLine; decide, [u, v], .cons ru (.cons rv' .nil), ⟨_, hT2, rfl, _, rfl⟩⟩
    have I1 : Inv X pins σ (upd H s.heap.objs.size (.tup [x, y])) { s with heap := h'' } :=
      I.turnedNew (t' := s.toks) (ch := [z, TI, TO, i1, i2]) (fun c o hb q => by
        simp only [List.mem_cons, List.not_mem_nil, or_false, not_or] at hb
        obtain ⟨b1, b2, b3, b4, b5⟩ := hb
        exact (sb.2 c b1).trans (hk c o b1 b3 b4 b5 q)) hf (Nat.le_refl _) new
    refine ⟨.ref s.heap.objs.size, _, I1, rfl, ⟨_, x, y, rfl, I.hok.fresh (Nat.le_refl _), rfl, fun l hl => by rw [I.list_inj hl hqx]; exact hx, fun l hl => by rw [I.tuple_inj hl hqy]; exact hy⟩, ⟨z'', ?_, ⟨u, v, ?_⟩, ?_, ?_⟩, fun c hcm => ?_⟩
    · exact (sb.2 _ D.TIz).trans (hk _ _ D.TIz D.TITO D.TIi1 D.TIi2 hTI)
    · exact (sb.2 _ D.TOz).trans TO'
    · exact q1.1.at fun o q => (sb.2 _ D.i1z).trans q
    · exact q2.1.at fun o q => (sb.2 _ D.i2z).trans q
    · rw [upd_ne (Nat.ne_of_lt (below c hcm))]
      exact (hf c hcm).1
  done := by
    intro X hP hw hK hc i pins s σ H E I hf st hg
    subst hP hw hK
    obtain ⟨hz, hTI, ⟨x0, y0, hTO⟩, h1, h2⟩ := st
    obtain ⟨xs, ys, hqx, hqy, hend⟩ := hg
    obtain ⟨its, rv, p, _⟩ := I.list hqx
    obtain ⟨its2, rv2, p2, _⟩ := I.tuple hqy
    have l1 := rv.length
    have l2 := rv2.length
    have he : its.toArray[i]? = none ∨ its2.toArray[i]? = none := by
      rcases hend with q | q
      · exact .inl (by simp; omega)
      · exact .inr (by simp; omega)
    exact any_end (I.ok.hd hc) D (src_list (xs := its.toArray) D.l1i1) (src_tup (xs := its2.toArray) D.l2i2) hz hTI hTO ⟨h1, p.isList⟩ ⟨h2, p2⟩ he fun h' hk => ⟨rfl, I.turnedL (t' := s.toks) (ch := [z, TI, TO, i1, i2]) (fun c o hb q => by
      simp only [List.mem_cons, List.not_mem_nil, or_false, not_or] at hb
      obtain ⟨b1, b2, b3, b4, b5⟩ := hb
      exact hk c o b1 b3 b4 b5 q) hf⟩
  self := fun A i s Q E st h => wpAny_pyIter_zip st.1 h
def iZipM (K : PySem.W.Frag) (ta : TA) : TI := fun σ H R => ta σ H fun vs H1 => ∃ a b xs ys, vs = [.ref a, .ref b] ∧
  ((SqL K H1 a xs ∧ SqL K H1 b ys ∧ R (Itz K a b) H1) ∨ (SqT K H1 a xs ∧ SqT K H1 b ys ∧ R (RZ.ItzT K a b) H1) ∨ (SqL K H1 a xs ∧ SqT K H1 b ys ∧ R (ItzM K a b) H1))
theorem pi_zipM {X : Cx} {e e2 : Expr} {ta : TA} {p pos tpos : Pos} {elts : List Expr} {kk : Nat} (hg : Gl X "zip") (hm : X.mg "zip" = none) (ha : PA X [e, e2] ta)
    (hs : starEach [e, e2] X.env = (false, eval e X.env) :: starEach [e2] X.env) (hpl : (backTo pos (starEach [e2] X.env)).any (·.1) = false) :
    PI X (.Tuple elts kk tpos) (.Call (.Name "zip" p) [e, e2] [] pos) (iZipM X.K ta) := by
  refine ⟨fun pins s σ H R I h => ?_⟩
  refine Call_ (ld_blt I hg hm PyProof.Rows.boot_zip (PyProof.Rows.callWith_type1 (thn (ha.run pos pins s σ H _ I h) fun us s1 ⟨vs, H1, I1, r1, q1⟩ => ?_) hs hpl))
  obtain ⟨a, b, xs, ys, ex, q1⟩ := q1
  subst ex
  cases r1 with
  | cons r rr =>
    cases rr with
    | cons r' rr =>
      cases rr
      cases r
      cases r'
      have fresh : ∀ c, c ∈ [s1.heap.objs.size + 4, s1.heap.objs.size + 2, s1.heap.objs.size + 3, s1.heap.objs.size, s1.heap.objs.size + 1] → FpOk X pins H1 c := fun c hcm => by
        have hle : s1.heap.objs.size ≤ c := by
          simp only [List.mem_cons, List.not_mem_nil, or_false] at hcm
          rcases hcm with q | q | q | q | q
          · rw [q]; exact Nat.le_add_right _ _
          · rw [q]; exact Nat.le_add_right _ _
          · rw [q]; exact Nat.le_add_right _ _
          · rw [q]; exact Nat.le_refl _
          · rw [q]; exact Nat.le_add_right _ _
        exact I1.fpOk hle (I1.hok.fresh hle)
      rcases q1 with ⟨hqx, hqy, q⟩ | ⟨hqx, hqy, q⟩ | ⟨hqx, hqy, q⟩
      · obtain ⟨its, rv, p1, _⟩ := I1.list hqx
        obtain ⟨its2, rv2, p2, _⟩ := I1.list hqy
        refine call_zip_2 p1.isList p2.isList fun h' hz hTI hTO h1 h2 hsz hk => wpAny_pyIter_zip hz ?_
        exact ⟨s1.heap.objs.size + 4, [s1.heap.objs.size + 4, s1.heap.objs.size + 2, s1.heap.objs.size + 3, s1.heap.objs.size, s1.heap.objs.size + 1], _, _, H1, rfl, I1.kept (t' := s1.toks) hk, turn_zip (PySem.W.ktu_apart s1.heap.objs.size a b p1.lt p2.lt), ⟨hz, hTI, ⟨_, _, hTO⟩, h1, h2⟩, fresh, q⟩
      · obtain ⟨its, rv, p1, _⟩ := I1.tuple hqx
        obtain ⟨its2, rv2, p2, _⟩ := I1.tuple hqy
        obtain ⟨o1, ho1, _⟩ := id p1
        obtain ⟨o2, ho2, _⟩ := id p2
        refine RZ.call_zipT (show s1.heap.IsTuple a its.toArray from p1) (show s1.heap.IsTuple b its2.toArray from p2) fun h' hz hTI hTO h1 h2 hsz hk => wpAny_pyIter_zip hz ?_
        exact ⟨s1.heap.objs.size + 4, [s1.heap.objs.size + 4, s1.heap.objs.size + 2, s1.heap.objs.size + 3, s1.heap.objs.size, s1.heap.objs.size + 1], _, _, H1, rfl, I1.kept (t' := s1.toks) hk, RZ.turn_zipT (PySem.W.ktu_apart s1.heap.objs.size a b (Heap.lt_size ho1) (Heap.lt_size ho2)), ⟨hz, hTI, ⟨_, _, hTO⟩, h1, h2⟩, fresh, q⟩
      · obtain ⟨its, rv, p1, _⟩ := I1.list hqx
        obtain ⟨its2, rv2, p2, _⟩ := I1.tuple hqy
        obtain ⟨o2, ho2, _⟩ := id p2
        refine call_zipM p1.isList (show s1.heap.IsTuple b its2.toArray from p2) fun h' hz hTI hTO h1 h2 hsz hk => wpAny_pyIter_zip hz ?_
        exact ⟨s1.heap.objs.size + 4, [s1.heap.objs.size + 4, s1.heap.objs.size + 2, s1.heap.objs.size + 3, s1.heap.objs.size, s1.heap.objs.size + 1], _, _, H1, rfl, I1.kept (t' := s1.toks) hk, turn_zipM (PySem.W.ktu_apart s1.heap.objs.size a b p1.lt (Heap.lt_size ho2)), ⟨hz, hTI, ⟨_, _, hTO⟩, h1, h2⟩, fresh, q⟩
end Lz
namespace Den
open PySem PySem.Spec L2
theorem yl_zipM {K : PySem.W.Frag} {G : Hp} {a b : Addr} {xs ys : List V} {ds es : List D} (ha : SqL K G a xs) (al : DpAll K G xs ds) (hb : SqT K G b ys) (bl : DpAll K G ys es) : Yl K G (Lz.ItzM K a b) (zipD ds es) where
  go := fun i d H s e => by
    obtain ⟨d1, d2, h1, h2, _⟩ := zipD_get e
    obtain ⟨v, e1, _⟩ := dpsGet al h1
    obtain ⟨u, e2, _⟩ := dpsGet bl h2
    exact ⟨xs, ys, v, u, s.seq ha, same_tup s hb, e1, e2⟩
  yl := fun i d G' H x H2 s s2 e y => by
    obtain ⟨d1, d2, h1, h2, rfl⟩ := zipD_get e
    obtain ⟨v, e1, v1⟩ := dpsGet al h1
    obtain ⟨u, e2, u1⟩ := dpsGet bl h2
    obtain ⟨T, x', y', rfl, n, rfl, f1, f2⟩ := y
    have q1 := f1 xs ((s.trans s2).seq ha)
    have q2 := f2 ys (same_tup (s.trans s2) hb)
    rw [e1] at q1
    rw [e2] at q2
    cases q1
    cases q2
    exact ⟨_, .tup s2 n (.cons (dpMono s v1) (.cons (dpMono s u1) .nil))⟩
  st := fun i H s e => ⟨xs, ys, s.seq ha, same_tup s hb, by
    rw [zipD_len, ← dpsLen al, ← dpsLen bl] at e
    omega⟩
section
variable {X : Cx} {a b : Expr} {f g : Fn RR} {p pos : Pos}
def fZip (f g : Fn RR) : Fn (List D) := fun ρ => (fF f ρ).bind fun x => (fF g x.2).bind fun y => match x.1, y.1 with
  | .list xs, .list ys => some (zipD xs ys, y.2)
  | .tuple xs, .tuple ys => some (zipD xs ys, y.2)
  | .list xs, .tuple ys => some (zipD xs ys, y.2)
  | _, _ => none
theorem i_zip {elts : List Expr} {kk : Nat} {tpos : Pos} (hg : Gl X "zip") (hm : X.mg "zip" = none) (ha : PE X a (tD X.K f)) (hb : PE X b (tD X.K g)) (hs : starEach [a, b] X.env = (false, eval a X.env) :: starEach [b] X.env) (hs2 : starEach [b] X.env = (false, eval b X.env) :: starEach [] X.env)
    (hpl : (backTo pos (starEach [b] X.env)).any (·.1) = false) : PI X (.Tuple elts kk tpos) (.Call (.Name "zip" p) [a, b] [] pos) (tItr X.K (fZip f g)) :=
  weakI (Lz.pi_zipM hg hm (fs_cons (to_F ha) (fs_cons (to_F hb) fs_nil hs2) hs) hs hpl) fun σ H R ⟨G, ρ, ds, ρ', Rl, q, k⟩ => by
    obtain ⟨x, e1, q⟩ := bindS q
    obtain ⟨y, e2, q⟩ := bindS q
    have ef : fsCons (fF f) (fsCons (fF g) fsNil) ρ = some ([x.1, y.1], y.2) := by simp [fsCons, fsNil, e1, e2]
    refine ⟨G, ρ, [x.1, y.1], y.2, Rl, ef, fun vs G1 H1 R1 S1 al => ?_⟩
    split at q
    · rename_i xs ys hx hy
      cases q
      rw [hx, hy] at al
      cases al with
      | cons d1 t =>
        cases t with
        | cons d2 t =>
          cases t
          cases d1 with
          | lst hs1 al1 =>
            cases d2 with
            | lst hs2 al2 => exact ⟨_, _, _, _, rfl, .inl ⟨R1.sub.seq hs1, R1.sub.seq hs2, k G1 H1 _ R1 S1 (yl_zipL hs1 al1 hs2 al2)⟩⟩
    · rename_i xs ys hx hy
      cases q
      rw [hx, hy] at al
      cases al with
      | cons d1 t =>
        cases t with
        | cons d2 t =>
          cases t
          cases d1 with
          | tup hs1 al1 =>
            cases d2 with
            | tup hs2 al2 => exact ⟨_, _, _, _, rfl, .inr (.inl ⟨same_tup R1.sub hs1, same_tup R1.sub hs2, k G1 H1 _ R1 S1 (yl_zipT hs1 al1 hs2 al2)⟩)⟩
    · rename_i xs ys hx hy
      cases q
      rw [hx, hy] at al
      cases al with
      | cons d1 t =>
        cases t with
        | cons d2 t =>
          cases t
          cases d1 with
          | lst hs1 al1 =>
            cases d2 with
            | tup hs2 al2 => exact ⟨_, _, _, _, rfl, .inr (.inr ⟨R1.sub.seq hs1, same_tup R1.sub hs2, k G1 H1 _ R1 S1 (yl_zipM hs1 al1 hs2 al2)⟩)⟩
    · cases q
end
end Den


set_option autoImplicit false
namespace Den
open PySem PySem.Spec L2
mutual
def flatD : D → Bool
  | .list _ => false
  | .dict _ => false
  | .tuple xs => flatDs xs
  | _ => true
def flatDs : List D → Bool
  | [] => true
  | x :: xs => flatD x && flatDs xs
end
def flatR : RR → Bool
  | .va d => flatD d
  | .ls ds => flatDs ds
  | .br _ => false
section
variable {K : PySem.W.Frag} {G G' : Hp} {p : Addr} {xs : List V}
def dropH (G : Hp) (p : Addr) : Hp := fun a => if a = p then none else G a
theorem dropH_ne {a : Addr} (h : a ≠ p) : dropH G p a = G a := if_neg h
theorem dropH_at : dropH G p p = none := if_pos rfl
theorem sqT_drop {b : Addr} {ys : List V} (hp : G p = some (.lst xs)) (h : SqT K G b ys) : SqT K (dropH G p) b ys := by
  rcases h with h | h
  · rcases h with h | ⟨o, h⟩
    · exact .inl (.inl ((dropH_ne fun e => by rw [e, hp] at h; cases h).trans h))
    · exact .inl (.inr ⟨o, (dropH_ne fun e => by rw [e, hp] at h; cases h).trans h⟩)
  · exact .inr h
mutual
theorem flat_dp (hp : G p = some (.lst xs)) : ∀ {v : V} {d : D}, Dp K G v d → flatD d = true → Dp K (dropH G p) v d
  | _, .list ds, h, f => by simp [flatD] at f
  | _, .dict ds, h, f => by simp [flatD] at f
  | _, .tuple ds, h, f => by
    cases h with
    | tup sq al => exact .tup (sqT_drop hp sq) (flat_dps hp al (by simpa [flatD] using f))
  | _, .int i, h, _ => by cases h with | int => exact .int _
  | _, .bool b, h, _ => by cases h with | bl => exact .bl _
  | _, .str z, h, _ => by cases h with | str => exact .str _
  | _, .none, h, _ => by cases h with | non => exact .non
theorem flat_dps (hp : G p = some (.lst xs)) : ∀ {vs : List V} {ds : List D}, DpAll K G vs ds → flatDs ds = true → DpAll K (dropH G p) vs ds
  | _, [], h, _ => by cases h with | nil => exact .nil
  | _, d :: ds, h, f => by
    cases h with
    | cons h t =>
      simp only [flatDs, Bool.and_eq_true] at f
      exact .cons (flat_dp hp h f.1) (flat_dps hp t f.2)
end
end
section
variable {X : Cx} {f : Addr} {fd : FuncData} {ps : List Str} {k : Nat} {d : FD} {x : Str} {p pos : Pos} {e : Expr}
theorem iteG {α : Type} {c : Prop} [Decidable c] {a : Option α} {b : α} (h : (if c then a else none) = some b) : c ∧ a = some b := by
  by_cases hc : c
  · rw [if_pos hc] at h
    exact ⟨hc, h⟩
  · rw [if_neg hc] at h
    cases h
def fCallL (d : FD) (i : Nat) (fa : Fn RR) : Fn RR := fun ρ => if (items ρ i).isSome = true then (fF fa ρ).bind fun x => (items x.2 i).bind fun es => if d.mt = false ∧ d.np = 2 then (d.run [] [x.1, .list es]).bind fun z => if flatR z.1 = true then some (z.1, x.2) else none else none else none
theorem callL_ok {i : Nat} {fa : Fn RR} {σ : St} {H : Hp} {Q : VK} (h : tD X.K (fCallL d i fa) σ H Q) : tCl (spD X.K d) (tCons (tF X.K (fF fa)) (tCons (tVar i) tNil)) σ H Q := by
  obtain ⟨G, ρ, r, ρ', R, q, kk⟩ := h
  unfold fCallL at q
  obtain ⟨hi, q⟩ := iteG q
  obtain ⟨y, e1, q⟩ := bindS q
  obtain ⟨es, e2, q⟩ := bindS q
  obtain ⟨hc, q⟩ := iteG q
  obtain ⟨z, e3, q⟩ := bindS q
  obtain ⟨hf, q⟩ := iteG q
  cases q
  refine ⟨G, ρ, y.1, y.2, R, e1, fun v1 G1 H1 R1 S1 d1 => ?_⟩
  obtain ⟨a, xs, e4, g4, e5, al, ow, o⟩ := items_ok R1 e2
  have same : Same (upd G1 a (.lst xs)) H1 := fun b u q => by
    by_cases hb : b = a
    · subst hb
      rw [upd_same] at q
      cases q
      exact e5
    · rw [upd_ne hb] at q
      exact R1.sub b u q
  have up : Same G1 (upd G1 a (.lst xs)) := same_upd g4
  refine ⟨.ref a, e4, ⟨hc.2.symm, upd G1 a (.lst xs), [], [y.1, .list es], z.1, z.2, ?_, e3, fun v G' H' R2 S2 hv => ?_⟩⟩
  · rw [parL_mt hc.1]
    exact rel_par same (.cons (dpMono up d1) (.cons (.lst (SqL.of upd_same) (dpsMono up al)) .nil))
  · rw [parL_mt hc.1] at S2 hv
    have no : ∀ b, ¬ Ow ([v1, V.ref a].map some) (parL false [] [y.1, .list es]) b := fun b w => by
      have := (ow_parL w).1
      cases this
    have hp : G' a = some (.lst xs) := S2.gg a _ upd_same
    have hh : Same H1 H' := fun b u q => S2.keep b u q (no b)
    have m : Made X.K G1 H1 v z.1 (dropH G' a) H' := by
      refine ⟨fun b u q => ?_, hh, fun b u q => ?_, fun b q => ?_, ?_⟩
      · have hb : b ≠ a := fun w => by rw [w, g4] at q; cases q
        rw [dropH_ne hb]
        exact S2.gg b u ((upd_ne hb).trans q)
      · by_cases hb : b = a
        · rw [hb, dropH_at] at q
          cases q
        · rw [dropH_ne hb] at q
          exact R2.sub b u q
      · by_cases hb : b = a
        · rw [hb, dropH_at, g4]
        · rw [dropH_ne hb, S2.gnew b q (no b), upd_ne hb]
      · cases hz : z.1 with
        | va d' =>
          rw [hz] at hv hf
          exact flat_dp hp hv hf
        | br j =>
          rw [hz] at hv
          exact hv.elim
        | ls ds' =>
          rw [hz] at hv hf
          obtain ⟨q', ys, rfl, g, e6, al3, n⟩ := hv
          have hq : H1 q' = none := by
            rcases n with n | n
            · exact n
            · exact (ls_parL n).elim
          have hne : q' ≠ a := fun w => by rw [w, e5] at hq; cases hq
          exact ⟨q', ys, rfl, (dropH_ne hne).trans g, e6, flat_dps hp al3 hf, hq⟩
    exact kk v (dropH G' a) H' (pst_trans S1 (m.pst R1))
theorem e_callL {i : Nat} {y : Str} {yp : Pos} {fa : Fn RR} (F : FnG X.prog X.w X.K X.mg X.base k f fd ps (spD X.K d)) (hr : Room k X.A) (hgd : X.A.guards = some []) (hg : Gl X x) (hm : X.mg x = some (.ref f)) (hk : PySem.W.keepIn X.K (.ref f) = true) (hb : Binds X.K fd ps [])
    (hN : X.N[i]? = some y) (hv : Vis X.env.scope y) (hd : (y == ("__debug__" : Str)) = false) (hcd : (y == ("__classdict__" : Str)) = false)
    (ha : PE X e (tD X.K fa)) (hs : starEach [e, Expr.Name y yp] X.env = (false, eval e X.env) :: starEach [Expr.Name y yp] X.env) (hdb : (x == ("__debug__" : Str)) = false) (hpl : (backTo pos (starEach [Expr.Name y yp] X.env)).any (·.1) = false) :
    PE X (.Call (.Name x p) [e, .Name y yp] [] pos) (tD X.K (fCallL d i fa)) :=
  weakE (e_call0 F hr hgd hg hm hk hb (pa_cons (to_F ha) (pa_cons (pe_var hN hv hd hcd) pa_nil rfl) hs) hdb hs hpl) fun σ H Q h => callL_ok h
end
end Den


set_option autoImplicit false
namespace Den
open PySem PySem.Spec L2

inductive Cm where
  | eq | ne | lt | le | gt | ge | isin | notin | is | isnot
inductive Bo where
  | add | sub | mul | div | mod | pow
inductive Bi where
  | len | abs | int | max | min | sum | any | all | tuple | list | sorted | repr | str | dict
inductive Mu where
  | append | insert
inductive Tg where
  | nm (i : Nat)
  | tp (ts : List Tg)
mutual
inductive C where
  | var (i : Nat)
  | int (i : Int) | str (x : Str) | bool (b : Bool) | non
  | glo (j : Nat)
  | tup (es : Cs) | lst (es : Cs)
  | bin (o : Bo) (a b : C) | neg (a : C) | not (a : C)
  | and (es : Cs) | or (es : Cs)
  | cmp (o : Cm) (a b : C)
  | ite (c a b : C)
  | call (j : Nat) (es : Cs)
  | callM (j i : Nat) (es : Cs)
  | blt (b : Bi) (es : Cs)
  | mut (m : Mu) (i : Nat) (es : Cs)
  | ix (a b : C)
  | sl (a : C) (lo hi : Co)
  | lc (own : List (Str × Nat)) (elt : C) (tg : Tg) (it : Ci) (ifs : Co)
  | lr (a : C)
  | lz (a b : C)
  | callL (j i : Nat) (a : C)
  | tupD (ds : Cd) | lstD (ds : Cd)
  | isi (a : C) (t : Ty)
  | chn (o1 o2 : Cm) (a b c : C)
  | ext (i : Nat) (a : C)
  | tr (a : C)
  | rep (a b : C)
  | lc2 (own : List (Str × Nat)) (elt : C) (tg : Tg) (it : Ci) (ifs : Co) (tg1 : Tg) (it1 : Ci) (ifs1 : Co)
  | pop (i : Nat)
  | bits (a : C)
  | dsel (k1 k2 k3 : Str) (v1 v2 v3 : Int) (a : C)
  | dct0
  | rev (a : C)
  | tin (neg : Bool) (a : C) (i : Nat)
  | tget (a b : C) (i : Nat)
  | call2 (j i l : Nat) (a b : C)
  | set3 (own : List (Str × Nat)) (elt : C) (tg : Tg) (it : Ci) (tg1 : Tg) (it1 : Ci) (tg2 : Tg) (it2 : Ci)
  | din (neg : Bool) (a : C) (i : Nat)
  | dsort (i : Nat)
inductive Cd where
  | nil
  | one (c : C) (ds : Cd)
  | star (c : C) (ds : Cd)
inductive Cs where
  | nil
  | cons (c : C) (cs : Cs)
inductive Co where
  | no
  | so (c : C)
inductive Ci where
  | seq (a : C) | rng1 (a : C) | rng2 (a b : C) | enum (a : C)
  | zip (a b : C) | rngD (a b c : C)
end
mutual
inductive S where
  | set (i : Nat) (c : C)
  | asg (t : Tg) (c : C)
  | par (i j : Nat) (a b : C)
  | par3 (i j l : Nat) (a b c : C)
  | setIx (i : Nat) (x c : C)
  | dput (i : Nat) (x c : C)
  | dnew1 (i : Nat) (x c : C)
  | tput (i : Nat) (x c : C)
  | tnew3 (i j l : Nat) (b c : C)
  | tnewS (j l : Nat) (t : Tg) (c b k v : C)
  | par2 (i j : Nat) (b c : C)
  | augIx (i : Nat) (x c : C)
  | aug (i : Nat) (sub : Bool) (c : C)
  | exp (c : C)
  | ife (c : C) (a b : Ss)
  | fors (t : Tg) (it : Ci) (b : Ss)
  | whl (c : C) (b : Ss)
  | ret (c : C) | retN | bk | ct | pass
inductive Ss where
  | nil
  | cons (s : S) (ss : Ss)
end
structure Gam where
  fns : List (Str × FD)
  cs : List (Str × D)
  nob : List Str
  fns2 : List (Str × FD2)

def opB : Bo → D → D → Option RR
  | .add => φAdd | .sub => φSub | .mul => φMul | .div => φDiv | .mod => φMod | .pow => φPow
def opC : Cm → D → D → Option RR
  | .eq => φEq | .ne => φNe | .lt => φCmp fun i j => decide (i < j) | .le => φCmp fun i j => decide (i ≤ j) | .gt => φCmp fun i j => decide (j < i) | .ge => φCmp fun i j => decide (j ≤ i)
  | .isin => φIn | .notin => φNotIn | .is => φIs | .isnot => φIsNot
def opI : Bi → List D → Option RR
  | .len => φLen | .abs => φAbs | .int => φInt | .max => φMax | .min => φMin | .sum => φSum | .any => φAny | .all => φAll | .tuple => φTuple | .list => φList | .sorted => φSorted | .repr => φRepr | .str => φStr | .dict => φDict
def opM : Mu → List D → List D → Option (List D × RR)
  | .append => φApp | .insert => φIns
mutual
def Tg.den : Tg → D → Lo → Option Lo
  | .nm i => gNm i
  | .tp ts => gTp ts.length (Tg.dens ts)
def Tg.dens : List Tg → List D → Lo → Option Lo
  | [] => gsNil
  | t :: ts => gsCons t.den (Tg.dens ts)
def Tg.slots : Tg → List Nat
  | .nm i => [i]
  | .tp ts => Tg.slotsL ts
def Tg.slotsL : List Tg → List Nat
  | [] => []
  | t :: ts => t.slots ++ Tg.slotsL ts
end
mutual
def C.den (Γ : Gam) : C → Fn RR
  | .var i => fVar i
  | .int i => fC (.int i)
  | .str x => fC (.str x)
  | .bool b => fC (.bool b)
  | .non => fC .none
  | .glo j => match Γ.cs[j]? with
    | some p => fC p.2
    | none => fun _ => none
  | .tup es => fTup (es.denF Γ)
  | .lst es => fLst (es.denF Γ)
  | .bin o a b => f2 (opB o) (a.den Γ) (b.den Γ)
  | .neg a => f1 φNeg (a.den Γ)
  | .not a => fNotV (a.den Γ)
  | .and es => es.denA Γ
  | .or es => es.denO Γ
  | .cmp o a b => f2 (opC o) (a.den Γ) (b.den Γ)
  | .ite c a b => fIf (c.denT Γ) (a.den Γ) (b.den Γ)
  | .call j es => match Γ.fns[j]? with
    | some p => fCall p.2 (es.denF Γ)
    | none => fun _ => none
  | .callM j i es => match Γ.fns[j]? with
    | some p => fCallM p.2 i (es.denF Γ)
    | none => fun _ => none
  | .blt b es => fL (opI b) (es.denV Γ)
  | .mut m i es => fMut i (opM m) (es.denF Γ)
  | .ix a b => f2 φIx (a.den Γ) (b.den Γ)
  | .sl a lo hi => fSl (a.den Γ) (lo.den Γ) (hi.den Γ)
  | .lc own elt tg it ifs => fLc (own.map (·.2)) (it.den Γ) tg.den (ifs.denT Γ) (elt.den Γ)
  | .lr a => fLr (fsCons (fV (a.den Γ)) fsNil)
  | .lz a b => fLz (a.den Γ) (b.den Γ)
  | .callL j i a => match Γ.fns[j]? with
    | some p => fCallL p.2 i (a.den Γ)
    | none => fun _ => none
  | .tupD ds => fTup (ds.denD Γ)
  | .lstD ds => fLst (ds.denD Γ)
  | .isi a t => f1 (φIsi t) (a.den Γ)
  | .chn o1 o2 a b c => fCh (opC o1) (opC o2) (a.den Γ) (b.den Γ) (c.den Γ)
  | .ext i a => fExt i (a.den Γ)
  | .tr a => fTr (fsCons (fV (a.den Γ)) fsNil)
  | .rep a b => fRep (a.den Γ) (b.den Γ)
  | .lc2 own elt tg it ifs tg1 it1 ifs1 => fLc2 (own.map (·.2)) tg1.slots (it.den Γ) tg.den (ifs.denT Γ) (it1.den Γ) tg1.den (ifs1.denT Γ) (elt.den Γ)
  | .pop i => fPop i
  | .bits a => f1 φBits (a.den Γ)
  | .dsel k1 k2 k3 v1 v2 v3 a => fDsel k1 k2 k3 v1 v2 v3 (a.den Γ)
  | .dct0 => fDct0
  | .rev a => f1 φRev (a.den Γ)
  | .tin neg a i => fTin neg (a.den Γ) i
  | .tget a b i => fTget i (a.den Γ) (b.den Γ)
  | .call2 j i l a b => match Γ.fns2[j]? with
    | some p => fCall2 p.2 i l (a.den Γ) (b.den Γ)
    | none => fun _ => none
  | .set3 own elt tg it tg1 it1 tg2 it2 => fSet3 (own.map (·.2)) (tg1.slots ++ tg2.slots) tg2.slots (it.den Γ) tg.den (it1.den Γ) tg1.den (it2.den Γ) tg2.den (fV (elt.den Γ))
  | .din neg a i => fDin neg (a.den Γ) i
  | .dsort i => fDsort i
def C.denT (Γ : Gam) : C → FT
  | .and es => es.denAT Γ
  | .or es => es.denOT Γ
  | .not a => fNot (a.denT Γ)
  | .var i => fT (fVar i)
  | .cmp o a b => fT (f2 (opC o) (a.den Γ) (b.den Γ))
  | .call j es => fT (match Γ.fns[j]? with
    | some p => fCall p.2 (es.denF Γ)
    | none => fun _ => none)
  | .callM j i es => fT (match Γ.fns[j]? with
    | some p => fCallM p.2 i (es.denF Γ)
    | none => fun _ => none)
  | .blt b es => fT (fL (opI b) (es.denV Γ))
  | .ix a b => fT (f2 φIx (a.den Γ) (b.den Γ))
  | .lc own elt tg it ifs => fT (fLc (own.map (·.2)) (it.den Γ) tg.den (ifs.denT Γ) (elt.den Γ))
  | .isi a t => fT (f1 (φIsi t) (a.den Γ))
  | .din neg a i => fT (fDin neg (a.den Γ) i)
  | .tin neg a i => fT (fTin neg (a.den Γ) i)
  | .chn o1 o2 a b c => fT (fCh (opC o1) (opC o2) (a.den Γ) (b.den Γ) (c.den Γ))
  | _ => fun _ => none
def Cd.denD (Γ : Gam) : Cd → Fn (List D)
  | .nil => fsNil
  | .one c ds => fsCons (fF (c.den Γ)) (ds.denD Γ)
  | .star c ds => fsStar (fF (c.den Γ)) (ds.denD Γ)
def Cs.denF (Γ : Gam) : Cs → Fn (List D)
  | .nil => fsNil
  | .cons c cs => fsCons (fF (c.den Γ)) (cs.denF Γ)
def Cs.denV (Γ : Gam) : Cs → Fn (List RR)
  | .nil => fsNil
  | .cons c cs => fsCons (fV (c.den Γ)) (cs.denV Γ)
def Cs.denA (Γ : Gam) : Cs → Fn RR
  | .nil => fun _ => none
  | .cons c .nil => c.den Γ
  | .cons c cs => fAndV (c.den Γ) (cs.denA Γ)
def Cs.denO (Γ : Gam) : Cs → Fn RR
  | .nil => fun _ => none
  | .cons c .nil => c.den Γ
  | .cons c cs => fOrV (c.den Γ) (cs.denO Γ)
def Cs.denAT (Γ : Gam) : Cs → FT
  | .nil => fun _ => none
  | .cons c .nil => c.denT Γ
  | .cons c cs => fAnd (c.denT Γ) (cs.denAT Γ)
def Cs.denOT (Γ : Gam) : Cs → FT
  | .nil => fun _ => none
  | .cons c .nil => c.denT Γ
  | .cons c cs => fOr (c.denT Γ) (cs.denOT Γ)
def Co.den (Γ : Gam) : Co → Option (Fn RR)
  | .no => none
  | .so c => some (c.den Γ)
def Co.denT (Γ : Gam) : Co → FT
  | .no => fYes
  | .so c => c.denT Γ
def Ci.den (Γ : Gam) : Ci → Fn (List D)
  | .seq a => fIt (a.den Γ)
  | .rng1 a => fR1 (fsCons (fV (a.den Γ)) fsNil)
  | .rng2 a b => fR1 (fsCons (fV (a.den Γ)) (fsCons (fV (b.den Γ)) fsNil))
  | .enum a => fEn (a.den Γ)
  | .zip a b => fZip (a.den Γ) (b.den Γ)
  | .rngD a b c => fR3 (fsCons (fV (a.den Γ)) (fsCons (fV (b.den Γ)) (fsCons (fV (c.den Γ)) fsNil)))
end
mutual
def S.den (Γ : Gam) : S → FS
  | .set i c => fSet i (c.den Γ)
  | .asg t c => fAsg (c.den Γ) t.den
  | .par i j a b => fPar i j (a.den Γ) (b.den Γ)
  | .par3 i j l a b c => fPar3 i j l (a.den Γ) (b.den Γ) (c.den Γ)
  | .setIx i x c => fSetIx i (x.den Γ) (c.den Γ)
  | .dput i x c => fDput i (x.den Γ) (c.den Γ)
  | .dnew1 i x c => fDnew1 i (x.den Γ) (c.den Γ)
  | .tput i x c => fTput i (x.den Γ) (c.den Γ)
  | .tnewS j l t c b k v => fTnewS j l t.den (c.den Γ) (b.den Γ) (k.den Γ) (v.den Γ)
  | .tnew3 i j l b c => fTnew3 i j l (b.den Γ) (c.den Γ)
  | .par2 i j b c => fPar i j (b.den Γ) (c.den Γ)
  | .augIx i x c => fAugIx i (x.den Γ) (c.den Γ)
  | .aug i sub c => fAug i (fun n m => if sub then n - m else n + m) (c.den Γ)
  | .exp c => fDrop (c.den Γ)
  | .ife c a b => fIfS (c.denT Γ) (a.den Γ) (b.den Γ)
  | .fors t it b => fFor (it.den Γ) t.den (b.den Γ)
  | .whl c b => fWh (c.denT Γ) (b.den Γ)
  | .ret c => fRet (c.den Γ)
  | .retN => fRetN
  | .bk => fBk
  | .ct => fCt
  | .pass => fNop
def Ss.den (Γ : Gam) : Ss → FS
  | .nil => fNop
  | .cons s ss => fSeq (s.den Γ) (ss.den Γ)
end
end Den


set_option autoImplicit false
namespace Den
open PySem PySem.Spec L2

structure Ct where
  N : List Str
  sc : Scope
  fnc : Str → Bool
def gl (ct : Ct) (x : Str) : Bool := decide (ct.sc.names.lookup x = some .globalImplicit)
def visB (ct : Ct) (x : Str) : Bool := match ct.sc.names.lookup x with
  | some .local => true
  | some .cell => true
  | some .free => true
  | _ => false
def okName (x : Str) : Bool := !(x == ("__debug__" : Str)) && !(x == ("__classdict__" : Str)) && !(x == ("__name__" : Str))
def sto (ct : Ct) (x : Str) : Bool := match ct.sc.names.lookup x with
  | some .local => true
  | some .cell => ct.fnc x
  | _ => false
def isVar (ct : Ct) (i : Nat) (x : Str) : Bool := decide (ct.N[i]? = some x) && visB ct x && okName x
def isBlt (Γ : Gam) (ct : Ct) (x : Str) : Bool := gl ct x && decide (x ∈ Γ.nob) && okName x
def isFn (Γ : Gam) (ct : Ct) (j : Nat) (x : Str) : Bool := gl ct x && okName x && (match Γ.fns[j]? with
  | some p => decide (p.1 = x)
  | none => false)
def isFn2 (Γ : Gam) (ct : Ct) (j : Nat) (x : Str) : Bool := gl ct x && okName x && (match Γ.fns2[j]? with
  | some p => decide (p.1 = x)
  | none => false)
def bos : Bo → Operator
  | .add => .Add | .sub => .Sub | .mul => .Mult | .div => .FloorDiv | .mod => .Mod | .pow => .Pow
def cms : Cm → CmpOp
  | .eq => .Eq | .ne => .NotEq | .lt => .Lt | .le => .LtE | .gt => .Gt | .ge => .GtE | .isin => .In | .notin => .NotIn | .is => .Is | .isnot => .IsNot
def bin : Bi → Str
  | .len => "len" | .abs => "abs" | .int => "int" | .max => "max" | .min => "min" | .sum => "sum" | .any => "any" | .all => "all" | .tuple => "tuple" | .list => "list" | .sorted => "sorted" | .repr => "repr" | .str => "str" | .dict => "dict"
def mun : Mu → Str
  | .append => "append" | .insert => "insert"
def isDct0 : Expr → Bool
  | .Dict [] [] _ => true
  | _ => false
theorem isDct0_ok {e : Expr} (h : isDct0 e = true) : ∃ pos, e = .Dict [] [] pos := by
  unfold isDct0 at h
  split at h
  · exact ⟨_, rfl⟩
  · cases h
def notStar : Expr → Bool
  | .Starred .. => false
  | _ => true
def noSet : Expr → Bool
  | .Set .. => false
  | _ => true
def noComp : Expr → Bool
  | .ListComp .. => false
  | .SetComp .. => false
  | .DictComp .. => false
  | _ => true
def notTup : Expr → Bool
  | .Tuple .. => false
  | .List .. => false
  | _ => true
def plainT : Expr → Bool
  | .Name .. => true
  | .Call .. => true
  | .Subscript .. => true
  | .ListComp .. => true
  | _ => false
def pix : Expr → Bool
  | .Name .. => true
  | .Constant .. => true
  | .BinOp .. => true
  | .UnaryOp .. => true
  | .Call .. => true
  | .Subscript .. => true
  | _ => false
def isD3 (k1 k2 k3 : Str) (v1 v2 v3 : Int) : Expr → Bool
  | .Dict [some (.Constant (.str x1) _ _), some (.Constant (.str x2) _ _), some (.Constant (.str x3) _ _)] [.Constant (.int y1) _ _, .Constant (.int y2) _ _, .Constant (.int y3) _ _] _ =>
    decide (k1 = x1) && decide (k2 = x2) && decide (k3 = x3) && decide (v1 = y1) && decide (v2 = y2) && decide (v3 = y3) && decide (k1 ≠ k2) && decide (k1 ≠ k3) && decide (k2 ≠ k3)
  | _ => false
def isRevS : Expr → Bool
  | .Slice none none (some (.UnaryOp .USub (.Constant (.int 1) _ _) _)) _ => true
  | _ => false
def isTupE : Expr → Bool
  | .Tuple .. => true
  | _ => false
mutual
def Tg.chk (ct : Ct) : Tg → Expr → Bool
  | .nm i, .Name x _ => decide (ct.N[i]? = some x) && sto ct x
  | .tp ts, .Tuple es _ _ => Tg.chks ct ts es && decide (ts.length = es.length)
  | _, _ => false
def Tg.chks (ct : Ct) : List Tg → List Expr → Bool
  | [], [] => true
  | t :: ts, e :: es => notStar e && t.chk ct e && Tg.chks ct ts es
  | _, _ => false
end
set_option maxHeartbeats 4000000
def blkCt (ct : Ct) (scope : Scope) : Ct := ⟨ct.N, relS scope ct.sc, fun x => scope.names.lookup x == some .cell⟩
mutual
def C.chk (Γ : Gam) (ct : Ct) (t : Bool) : C → Expr → Bool
  | .var i, .Name x _ => isVar ct i x
  | .int i, .Constant (.int j) _ _ => decide (i = j) && !t
  | .str i, .Constant (.str j) _ _ => decide (i = j) && !t
  | .bool i, .Constant (.bool j) _ _ => decide (i = j) && !t
  | .non, .Constant .none _ _ => !t
  | .glo j, .Name x _ => gl ct x && okName x && !t && (match Γ.cs[j]? with
    | some p => decide (p.1 = x)
    | none => false)
  | .tup es, .Tuple l _ _ => es.chkF Γ ct l && !t
  | .lst es, .List l _ => es.chkF Γ ct l && !t
  | .bin o a b, .BinOp x op y _ => decide (bos o = op) && a.chk Γ ct false x && b.chk Γ ct false y && !t
  | .neg a, .UnaryOp .USub x _ => a.chk Γ ct false x && !t
  | .not a, .UnaryOp .Not x _ => a.chk Γ ct t x
  | .and es, .BoolOp .And l _ => es.chkB Γ ct t l
  | .or es, .BoolOp .Or l _ => es.chkB Γ ct t l
  | .cmp o a b, .Compare x [op] [y] _ => decide (cms o = op) && a.chk Γ ct false x && b.chk Γ ct false y && !(behindInMarks op y)
  | .ite c a b, .IfExp c' a' b' _ => c.chk Γ ct true c' && a.chk Γ ct false a' && b.chk Γ ct false b' && !t
  | .call j es, .Call (.Name x _) l [] _ => isFn Γ ct j x && !l.isEmpty && es.chkF Γ ct l
  | .callM j i es, .Call (.Name x _) (.Name y _ :: l) [] _ => isFn Γ ct j x && isVar ct i y && es.chkF Γ ct l
  | .blt b es, .Call (.Name x _) l [] _ => isBlt Γ ct x && decide (bin b = x) && !l.isEmpty && es.chkF Γ ct l
  | .mut m i es, .Call (.Attribute (.Name x _) nm apos) l [] pos => isVar ct i x && decide (mun m = nm) && !l.isEmpty && decide (l.length < 25) && (apos.endLine == pos.line) && es.chkF Γ ct l && !t
  | .ix a b, .Subscript x y _ => a.chk Γ ct false x && b.chk Γ ct false y && pix y
  | .sl a lo hi, .Subscript x (.Slice l h none _) _ => a.chk Γ ct false x && lo.chkP Γ ct l && hi.chkP Γ ct h && !t
  | .lc own elt tg it ifs, .ListComp e [⟨t', i, fs, as⟩] scope _ => decide (as = 0) && blkC ct.N ct.sc scope own && it.chk Γ ct t' i && noSet i && tg.chk (blkCt ct scope) t' && tg.slots.all (fun j => decide (j ∈ own.map (·.2))) && elt.chk Γ (blkCt ct scope) false e && ifs.chkI Γ (blkCt ct scope) fs
  | .lr a, .Call (.Name x _) [.Call (.Name y _) [e] [] _] [] _ => isBlt Γ ct x && decide (x = ("list" : Str)) && isBlt Γ ct y && decide (y = ("range" : Str)) && notStar e && a.chk Γ ct false e && !t
  | .callL j i a, .Call (.Name x _) [e, .Name y _] [] _ => isFn Γ ct j x && isVar ct i y && notStar e && a.chk Γ ct false e && !t
  | .lz a b, .Call (.Name x _) [.Call (.Name y _) [e, e2] [] _] [] _ => isBlt Γ ct x && decide (x = ("list" : Str)) && isBlt Γ ct y && decide (y = ("zip" : Str)) && notStar e && notStar e2 && a.chk Γ ct false e && b.chk Γ ct false e2 && !t
  | .rep a b, .BinOp x .Mult y _ => a.chk Γ ct false x && b.chk Γ ct false y && !t
  | .tupD ds, .Tuple l _ _ => ds.chkD Γ ct l && !t
  | .lstD ds, .List l _ => ds.chkD Γ ct l && !t
  | .isi a ty, .Call (.Name x _) [e, .Name y _] [] _ => isBlt Γ ct x && decide (x = ("isinstance" : Str)) && notStar e && isBlt Γ ct y && decide (tyS ty = y) && a.chk Γ ct false e
  | .chn o1 o2 a b c, .Compare x [op1, op2] [y, z] _ => decide (cms o1 = op1) && decide (cms o2 = op2) && a.chk Γ ct false x && b.chk Γ ct false y && c.chk Γ ct false z && !(lastMarks [op1, op2] [y, z])
  | .ext i a, .Call (.Attribute (.Name x _) nm apos) [e] [] pos => isVar ct i x && decide (("extend" : Str) = nm) && notStar e && (apos.endLine == pos.line) && a.chk Γ ct false e && !t
  | .tr a, .Call (.Name x _) [.Call (.Name y _) [e] [] _] [] _ => isBlt Γ ct x && decide (x = ("tuple" : Str)) && isBlt Γ ct y && decide (y = ("range" : Str)) && notStar e && a.chk Γ ct false e && !t
  | .lc2 own elt tg it ifs tg1 it1 ifs1, .ListComp e [⟨t', i, fs, as⟩, ⟨t1', i1, fs1, as1⟩] scope _ => (decide (as = 0) && decide (as1 = 0)) && blkC ct.N ct.sc scope own && (it.chk Γ ct t' i && noSet i && noSet i1) && (tg.chk (blkCt ct scope) t' && tg1.chk (blkCt ct scope) t1') && (tg.slots.all (fun j => decide (j ∈ own.map (·.2))) && tg1.slots.all (fun j => decide (j ∈ own.map (·.2)))) && elt.chk Γ (blkCt ct scope) false e && (ifs.chkI Γ (blkCt ct scope) fs && ifs1.chkI Γ (blkCt ct scope) fs1) && it1.chk Γ (blkCt ct scope) t1' i1 && !t
  | .din false a i, .Compare x [.In] [.Name y p] _ => isVar ct i y && a.chk Γ ct false x && !(behindInMarks .In (.Name y p))
  | .din true a i, .Compare x [.NotIn] [.Name y p] _ => isVar ct i y && a.chk Γ ct false x && !(behindInMarks .NotIn (.Name y p))
  | .dsort i, .Call (.Name x _) [.Name y _] [] _ => isBlt Γ ct x && decide (x = ("sorted" : Str)) && isVar ct i y && !t
  | .dsel k1 k2 k3 v1 v2 v3 a, e0 => match e0 with
    | .Subscript d e _ => isD3 k1 k2 k3 v1 v2 v3 d && a.chk Γ ct false e && pix e && !t
    | _ => false
  | .dct0, e => isDct0 e && !t
  | .bits a, .Call (.Attribute (.BinOp x op y p) nm apos) [] [] pos => decide (("bit_length" : Str) = nm) && (apos.endLine == pos.line) && a.chk Γ ct false (.BinOp x op y p) && !t
  | .tin false a i, .Compare x [.In] [.Name y p] _ => isVar ct i y && a.chk Γ ct false x && !(behindInMarks .In (.Name y p))
  | .tin true a i, .Compare x [.NotIn] [.Name y p] _ => isVar ct i y && a.chk Γ ct false x && !(behindInMarks .NotIn (.Name y p))
  | .tget a b i, .Call (.Attribute (.Name x _) nm apos) [e1, e2] [] pos => isVar ct i x && decide (("get" : Str) = nm) && notStar e1 && notStar e2 && (apos.endLine == pos.line) && a.chk Γ ct false e1 && b.chk Γ ct false e2 && !t
  | .call2 j i l a b, .Call (.Name x _) [.Name y _, e1, e2, .Name z _] [] _ => isFn2 Γ ct j x && isVar ct i y && isVar ct l z && notStar e1 && notStar e2 && a.chk Γ ct false e1 && b.chk Γ ct false e2 && !t
  | .set3 own elt tg it tg1 it1 tg2 it2, .Call (.Name x _) [.SetComp e [⟨t0, i0, [], a0⟩, ⟨t1, i1, [], a1⟩, ⟨t2, i2, [], a2⟩] scope _] [] _ => (isBlt Γ ct x && decide (x = ("sorted" : Str))) && (decide (a0 = 0) && decide (a1 = 0) && decide (a2 = 0)) && blkC ct.N ct.sc scope own && (it.chk Γ ct t0 i0 && it1.chk Γ (blkCt ct scope) t1 i1 && it2.chk Γ (blkCt ct scope) t2 i2) &&
      (noSet i0 && noSet i1 && noSet i2) && (tg.chk (blkCt ct scope) t0 && tg1.chk (blkCt ct scope) t1 && tg2.chk (blkCt ct scope) t2) && (tg.slots.all (fun j => decide (j ∈ own.map (·.2))) && (tg1.slots ++ tg2.slots).all (fun j => decide (j ∈ own.map (·.2)))) && elt.chk Γ (blkCt ct scope) false e && !t
  | .rev a, e0 => match e0 with
    | .Subscript x sl _ => isRevS sl && a.chk Γ ct false x && !t
    | _ => false
  | .pop i, .Call (.Attribute (.Name x _) nm apos) [] [] pos => isVar ct i x && decide (("pop" : Str) = nm) && (apos.endLine == pos.line) && !t
  | _, _ => false
def Cd.chkD (Γ : Gam) (ct : Ct) : Cd → List Expr → Bool
  | .nil, [] => true
  | .one c ds, e :: es => notStar e && c.chk Γ ct false e && ds.chkD Γ ct es
  | .star c ds, .Starred e _ :: es => c.chk Γ ct false e && ds.chkD Γ ct es
  | _, _ => false
def Cs.chkF (Γ : Gam) (ct : Ct) : Cs → List Expr → Bool
  | .nil, [] => true
  | .cons c cs, e :: es => notStar e && c.chk Γ ct false e && cs.chkF Γ ct es
  | _, _ => false
def Cs.chkB (Γ : Gam) (ct : Ct) (t : Bool) : Cs → List Expr → Bool
  | .cons c .nil, [e] => c.chk Γ ct t e
  | .cons c (.cons c2 cs), e :: e2 :: es => c.chk Γ ct t e && (Cs.cons c2 cs).chkB Γ ct t (e2 :: es)
  | _, _ => false
def Co.chkP (Γ : Gam) (ct : Ct) : Co → Option Expr → Bool
  | .no, none => true
  | .so c, some e => c.chk Γ ct false e
  | _, _ => false
def Co.chkI (Γ : Gam) (ct : Ct) : Co → List Expr → Bool
  | .no, [] => true
  | .so c, [e] => c.chk Γ ct true e
  | _, _ => false
def Ci.chk (Γ : Gam) (ct : Ct) : Ci → Expr → Expr → Bool
  | .seq a, _, e => a.chk Γ ct false e
  | .rng1 a, _, .Call (.Name x _) [e] [] _ => isBlt Γ ct x && decide (x = ("range" : Str)) && notStar e && a.chk Γ ct false e
  | .rng2 a b, _, .Call (.Name x _) [e, e2] [] _ => isBlt Γ ct x && decide (x = ("range" : Str)) && notStar e && notStar e2 && a.chk Γ ct false e && b.chk Γ ct false e2
  | .enum a, tg, .Call (.Name x _) [e] [] _ => isBlt Γ ct x && decide (x = ("enumerate" : Str)) && notStar e && a.chk Γ ct false e && isTupE tg
  | .zip a b, tg, .Call (.Name x _) [e, e2] [] _ => isBlt Γ ct x && decide (x = ("zip" : Str)) && notStar e && notStar e2 && a.chk Γ ct false e && b.chk Γ ct false e2 && isTupE tg
  | .rngD a b c, _, .Call (.Name x _) [e, e2, e3] [] _ => isBlt Γ ct x && decide (x = ("range" : Str)) && (notStar e && notStar e2 && notStar e3) && a.chk Γ ct false e && b.chk Γ ct false e2 && c.chk Γ ct false e3
  | _, _, _ => false
end
def swapB (ct : Ct) (y : Str) (py : Pos) : Expr → Bool
  | .ListComp _ _ scope pos => decide (ct.sc.names.lookup y = some .local) && (py.line == pos.line) && !(scope.names.any fun (n, k) => n == y && (k == .local || k == .cell))
  | _ => false
def sw2B (ct : Ct) (x y : Str) (px py : Pos) (vs : List Expr) : Bool := decide (ct.sc.names.lookup x = some .local) && decide (ct.sc.names.lookup y = some .local) && (px.line == py.line) && decide (x ≠ y) && vs.all notStar && !(vs.all (foldedForSure 8)) && !(vs.all (constantsAlone 8))
def sw3B (ct : Ct) (x y z : Str) (px py pz : Pos) (vs : List Expr) : Bool := (decide (ct.sc.names.lookup x = some .local) && decide (ct.sc.names.lookup y = some .local) && decide (ct.sc.names.lookup z = some .local)) && ((px.line == py.line) && (px.line == pz.line)) && (decide (x ≠ y) && decide (x ≠ z) && decide (y ≠ z)) && vs.all notStar && !(vs.all (foldedForSure 8)) && !(vs.all (constantsAlone 8))
def locName (ct : Ct) : Expr → Bool
  | .Name x _ => decide (ct.sc.names.lookup x = some .local)
  | _ => false
def asOne (ct : Ct) (tg e : Expr) : Bool := notTup e || match tg, e with
  | .Tuple ts _ _, .Tuple vs _ _ => !(ts.length == 2 || ts.length == 3) || (ts.any fun t => !(locName ct t)) || vs.all (foldedForSure 8)
  | _, _ => false
def chkNewS (Γ : Gam) (ct : Ct) (j l : Nat) (t : Tg) (c b k v : C) : Expr → Expr → Bool
  | .Tuple [.Tuple es ket pe, .Name y py, .Name z pz] kt pt, .Tuple [ec, eb, .Dict [some ek] [ev] dp] k2 pt2 =>
    (decide (ct.N[j]? = some y) && decide (ct.N[l]? = some z)) && (sto ct y && sto ct z) && t.chk ct (.Tuple es ket pe) && (notStar ec && notStar eb) && (c.chk Γ ct false ec && b.chk Γ ct false eb && k.chk Γ ct false ek && v.chk Γ ct false ev) &&
      asOne ct (.Tuple [.Tuple es ket pe, .Name y py, .Name z pz] kt pt) (.Tuple [ec, eb, .Dict [some ek] [ev] dp] k2 pt2)
  | _, _ => false
mutual
def S.chk (Γ : Gam) (ct : Ct) : S → Stmt → Bool
  | .set i c, .Assign [.Name x px] e _ => decide (ct.N[i]? = some x) && sto ct x && c.chk Γ ct false e && (noComp e || match e with
    | .ListComp .. => true
    | _ => false)
  | .asg t c, .Assign [tg] e _ => t.chk ct tg && c.chk Γ ct false e && noComp e && asOne ct tg e && isTupE tg
  | .par i j a b, .Assign [.Tuple [.Name x px, .Name y py] _ _] (.Tuple [e1, e2] _ _) _ => decide (ct.N[i]? = some x) && decide (ct.N[j]? = some y) && decide (i ≠ j) && sw2B ct x y px py [e1, e2] && a.chk Γ ct false e1 && b.chk Γ ct false e2 && notStar e1 && notStar e2
  | .par3 i j l a b c, .Assign [.Tuple [.Name x px, .Name y py, .Name z pz] _ _] (.Tuple [e1, e2, e3] _ _) _ => (decide (ct.N[i]? = some x) && decide (ct.N[j]? = some y) && decide (ct.N[l]? = some z)) && (decide (i ≠ j) && decide (i ≠ l) && decide (j ≠ l)) && sw3B ct x y z px py pz [e1, e2, e3] &&
      (a.chk Γ ct false e1 && b.chk Γ ct false e2 && c.chk Γ ct false e3) && (notStar e1 && notStar e2 && notStar e3)
  | .setIx i x c, .Assign [.Subscript (.Name y _) ix _] e _ => isVar ct i y && pix ix && x.chk Γ ct false ix && c.chk Γ ct false e && noComp e
  | .dput i x c, .Assign [.Subscript (.Name y _) ix _] e _ => isVar ct i y && x.chk Γ ct false ix && c.chk Γ ct false e && noComp e
  | .tput i x c, .Assign [.Subscript (.Name y _) ix _] e _ => isVar ct i y && x.chk Γ ct false ix && c.chk Γ ct false e && noComp e
  | .tnewS j l t c b k v, .Assign [tg] e _ => chkNewS Γ ct j l t c b k v tg e
  | .tnew3 i j l b c, .Assign [.Tuple [.Name x px, .Name y py, .Name z pz] kt pt] (.Tuple [.Dict [] [] dp, e2, e3] k2 pt2) _ => (decide (ct.N[i]? = some x) && decide (ct.N[j]? = some y) && decide (ct.N[l]? = some z)) && (sto ct x && sto ct y && sto ct z) && (notStar e2 && notStar e3) && (b.chk Γ ct false e2 && c.chk Γ ct false e3) &&
      asOne ct (.Tuple [.Name x px, .Name y py, .Name z pz] kt pt) (.Tuple [.Dict [] [] dp, e2, e3] k2 pt2)
  | .par2 i j b c, .Assign [.Tuple [.Name x px, .Name y py] kt pt] (.Tuple [e2, e3] k2 pt2) _ => (decide (ct.N[i]? = some x) && decide (ct.N[j]? = some y)) && (sto ct x && sto ct y) && (notStar e2 && notStar e3) && (b.chk Γ ct false e2 && c.chk Γ ct false e3) &&
      asOne ct (.Tuple [.Name x px, .Name y py] kt pt) (.Tuple [e2, e3] k2 pt2)
  | .dnew1 i x c, .Assign [.Name y _] (.Dict [some k] [e] _) _ => decide (ct.N[i]? = some y) && sto ct y && x.chk Γ ct false k && c.chk Γ ct false e
  | .augIx i x c, .AugAssign (.Subscript (.Name y _) ix _) .Add e _ => isVar ct i y && pix ix && x.chk Γ ct false ix && c.chk Γ ct false e
  | .aug i false c, .AugAssign (.Name y _) .Add e _ => decide (ct.N[i]? = some y) && sto ct y && c.chk Γ ct false e
  | .aug i true c, .AugAssign (.Name y _) .Sub e _ => decide (ct.N[i]? = some y) && sto ct y && c.chk Γ ct false e
  | .exp c, .Expr e _ => c.chk Γ ct false e && noComp e
  | .ife c a b, .If e x y _ => c.chk Γ ct true e && a.chk Γ ct x && b.chk Γ ct y
  | .fors t it b, .For tg i body [] _ => t.chk ct tg && it.chk Γ ct tg i && noSet i && b.chk Γ ct body
  | .whl c b, .While e body [] _ => c.chk Γ ct true e && b.chk Γ ct body
  | .ret c, .Return (some e) _ => c.chk Γ ct false e
  | .retN, .Return none _ => true
  | .bk, .Break _ => true
  | .ct, .Continue _ => true
  | .pass, .Pass _ => true
  | _, _ => false
def Ss.chk (Γ : Gam) (ct : Ct) : Ss → List Stmt → Bool
  | .nil, [] => true
  | .cons s ss, x :: xs => s.chk Γ ct x && ss.chk Γ ct xs
  | _, _ => false
end

theorem star_cons {e : Expr} {es : List Expr} {env : Env} (h : notStar e = true) : starEach (e :: es) env = (false, eval e env) :: starEach es env := by
  cases e <;> first | rfl | cases h
theorem set_iter {e : Expr} {env : Env} (h : noSet e = true) (x : Value) : foldedSetIterable e env x = pure x := by
  cases e <;> first | rfl | cases h
theorem swaps_no {e : Expr} {t : Option Expr} {l : Nat} {env : Env} (h : noComp e = true) : swapsWith e t l env = pure false := by
  cases e <;> first | rfl | cases h
theorem plain_test {e : Expr} {env : Env} (h : plainT e = true) (whole : Sem Value) : isTrue e env whole = (do let v ← whole; standAt e.pos; holding [v] (truthy v)) := by
  cases e <;> first | rfl | cases h
theorem isD3_ok {k1 k2 k3 : Str} {v1 v2 v3 : Int} {d : Expr} (h : isD3 k1 k2 k3 v1 v2 v3 d = true) : (∃ j1 j2 j3 l1 l2 l3 p1 p2 p3 q1 q2 q3 dp, d = .Dict [some (.Constant (.str k1) j1 p1), some (.Constant (.str k2) j2 p2), some (.Constant (.str k3) j3 p3)] [.Constant (.int v1) l1 q1, .Constant (.int v2) l2 q2, .Constant (.int v3) l3 q3] dp) ∧ k1 ≠ k2 ∧ k1 ≠ k3 ∧ k2 ≠ k3 := by
  unfold isD3 at h
  split at h
  · simp only [Bool.and_eq_true, decide_eq_true_eq] at h
    obtain ⟨⟨⟨⟨⟨⟨⟨⟨h1, h2⟩, h3⟩, h4⟩, h5⟩, h6⟩, h7⟩, h8⟩, h9⟩ := h
    subst h1 h2 h3 h4 h5 h6
    exact ⟨⟨_, _, _, _, _, _, _, _, _, _, _, _, _, rfl⟩, h7, h8, h9⟩
  · cases h
theorem isRevS_ok {e : Expr} (h : isRevS e = true) : ∃ k p1 p2 p3, e = .Slice none none (some (.UnaryOp .USub (.Constant (.int 1) k p1) p2)) p3 := by
  unfold isRevS at h
  split at h
  · exact ⟨_, _, _, _, rfl⟩
  · cases h
theorem pix_nosl {e : Expr} (h : pix e = true) : NoSl e := by
  cases e <;> first | (cases h; done) | (intro ov iv; rfl)
theorem pix_ok {e : Expr} (h : pix e = true) : PlainIx e := by
  intro o i
  cases e <;> first | rfl | cases h
theorem aug_ok {e : Expr} (h : pix e = true) (ov iv new : Value) : augStore e ov iv new = (do holding [new, ov, iv] (setItem ov iv new); release [new, ov, iv] []; pure .next) := by
  cases e <;> first | rfl | cases h
theorem sto_ix {e o : Expr} {env : Env} {sp : Pos} (h : pix e = true) (v : Value) : assign (.Subscript o e sp) env v = (do
      let ov ← holding [v] (eval o env)
      let iv ← holding [v, ov] (eval e env)
      standAt sp
      holding [v, ov, iv] (setItem ov iv v)
      release [v, ov, iv] []) := by
  cases e <;> first | rfl | cases h
theorem asg_cons {e : Expr} {es : List Expr} {env : Env} (h : notStar e = true) : (assignEach (e :: es) env).map (·.2) = assign e env :: (assignEach es env).map (·.2) := by
  cases e <;> first | rfl | cases h
theorem swap_none {t e : Expr} {env : Env} (h : notTup e = true) : swappedStores [t] e env = pure none := by
  cases e <;> first | (cases t <;> rfl) | cases h
theorem swap_none2 {o i e : Expr} {p : Pos} {env : Env} : swappedStores [.Subscript o i p] e env = pure none := by
  cases e <;> rfl
theorem asg_len {ct : Ct} {env : Env} : ∀ {ts : List Tg} {es : List Expr}, Tg.chks ct ts es = true → (assignEach es env).length = es.length ∧ (assignEach es env).findIdx? (·.1) = none
  | [], [], _ => ⟨rfl, rfl⟩
  | t :: ts, e :: es, h => by
    unfold Tg.chks at h
    simp only [Bool.and_eq_true] at h
    obtain ⟨⟨h1, _⟩, h3⟩ := h
    obtain ⟨q1, q2⟩ := asg_len (env := env) h3
    have e0 : assignEach (e :: es) env = (false, assign e env) :: assignEach es env := by
      cases e <;> first | rfl | cases h1
    rw [e0]
    exact ⟨by simp [q1], by simp [List.findIdx?_cons, q2]⟩
  | [], _ :: _, h => by cases h
  | _ :: _, [], h => by cases h
theorem noStars {Γ : Gam} {ct : Ct} : ∀ {cs : Cs} {es : List Expr}, cs.chkF Γ ct es = true → ∀ e ∈ es, notStar e = true
  | .nil, [], _ => fun _ z => by cases z
  | .cons c cs, e :: es, h => by
    unfold Cs.chkF at h
    simp only [Bool.and_eq_true] at h
    intro x hx
    rcases List.mem_cons.mp hx with z | z
    · rw [z]; exact h.1.1
    · exact noStars h.2 x z
  | .nil, _ :: _, h => by cases h
  | .cons _ _, [], h => by cases h
theorem star_any {env : Env} {pos : Pos} : ∀ {es : List Expr}, (∀ e ∈ es, notStar e = true) → (starEach es env).all (fun x => !x.1) = true ∧ (starEach es env).length = es.length
  | [], _ => ⟨rfl, rfl⟩
  | e :: es, h => by
    obtain ⟨q1, q2⟩ := star_any (env := env) (pos := pos) (es := es) fun x hx => h x (List.mem_cons_of_mem _ hx)
    rw [star_cons (h e List.mem_cons_self)]
    exact ⟨by simpa using q1, by simp [q2]⟩
end Den


set_option autoImplicit false
namespace Den
open PySem PySem.Spec L2

structure OkX (Γ : Gam) (ct : Ct) (X : Cx) : Prop where
  N : X.N = ct.N
  sc : X.env.scope = ct.sc
  kd : ct.sc.kind = .function
  fnc : ∀ x, ct.fnc x = true → X.fn x = true
  nd : X.N.Nodup
  calm : X.calm = true
  xe : X.xe = fun _ _ => False
  gd : X.A.guards = some []
  un : X.A.units + 70 < cLine
  nob : ∀ x ∈ Γ.nob, X.mg x = none
  cs : ∀ p ∈ Γ.cs, ∃ v u, X.mg p.1 = some u ∧ RelV v u ∧ Lit X.K v p.2
  fns : ∀ p ∈ Γ.fns, ∃ k f fd ps, FnG X.prog X.w X.K X.mg X.base k f fd ps (spD X.K p.2) ∧ Room k X.A ∧ X.mg p.1 = some (.ref f) ∧ PySem.W.keepIn X.K (.ref f) = true ∧ Binds X.K fd ps []
  fns2 : ∀ p ∈ Γ.fns2, ∃ k f fd ps, FnG X.prog X.w X.K X.mg X.base k f fd ps (spD2 X.K p.2) ∧ Room k X.A ∧ X.mg p.1 = some (.ref f) ∧ PySem.W.keepIn X.K (.ref f) = true ∧ Binds X.K fd ps []
section
variable {Γ : Gam} {ct : Ct} {X : Cx}
theorem OkX.gl (ok : OkX Γ ct X) {x : Str} (h : gl ct x = true) : Gl X x := by
  have q : ct.sc.names.lookup x = some .globalImplicit := of_decide_eq_true h
  show X.env.scope.names.lookup x = _
  rw [ok.sc]
  exact q
theorem OkX.vis (ok : OkX Γ ct X) {x : Str} (h : visB ct x = true) : Vis X.env.scope x := by
  unfold visB at h
  unfold Vis
  rw [ok.sc]
  split at h
  · rename_i q; exact .inl q
  · rename_i q; exact .inr (.inl q)
  · rename_i q; exact .inr (.inr q)
  · cases h
theorem OkX.sto (ok : OkX Γ ct X) {x : Str} (h : sto ct x = true) : L2.Loc X.env.scope x ∧ (X.fn x = true ∨ X.env.scope.names.lookup x = some .local) := by
  unfold Den.sto at h
  unfold L2.Loc
  rw [ok.sc]
  split at h
  · rename_i q; exact ⟨.inl q, .inr q⟩
  · rename_i q; exact ⟨.inr q, .inl (ok.fnc x h)⟩
  · cases h
theorem okName_ok {x : Str} (h : okName x = true) : (x == ("__debug__" : Str)) = false ∧ (x == ("__classdict__" : Str)) = false ∧ x ≠ "__name__" := by
  unfold okName at h
  simp only [Bool.and_eq_true, Bool.not_eq_true'] at h
  exact ⟨h.1.1, h.1.2, fun z => by
    have q := h.2
    rw [z] at q
    simp at q⟩
theorem OkX.isVar (ok : OkX Γ ct X) {i : Nat} {x : Str} (h : isVar ct i x = true) : X.N[i]? = some x ∧ Vis X.env.scope x ∧ (x == ("__debug__" : Str)) = false ∧ (x == ("__classdict__" : Str)) = false := by
  unfold Den.isVar at h
  simp only [Bool.and_eq_true, decide_eq_true_eq] at h
  obtain ⟨⟨h1, h2⟩, h3⟩ := h
  obtain ⟨h4, h5, _⟩ := okName_ok h3
  exact ⟨by rw [ok.N]; exact h1, ok.vis h2, h4, h5⟩
theorem OkX.isBlt (ok : OkX Γ ct X) {x : Str} (h : isBlt Γ ct x = true) : Gl X x ∧ X.mg x = none ∧ (x == ("__debug__" : Str)) = false ∧ x ≠ "__name__" := by
  unfold Den.isBlt at h
  simp only [Bool.and_eq_true, decide_eq_true_eq] at h
  obtain ⟨⟨h1, h2⟩, h3⟩ := h
  obtain ⟨h4, _, h6⟩ := okName_ok h3
  exact ⟨ok.gl h1, ok.nob x h2, h4, h6⟩
theorem OkX.isFn (ok : OkX Γ ct X) {j : Nat} {x : Str} (h : isFn Γ ct j x = true) : Gl X x ∧ (x == ("__debug__" : Str)) = false ∧ ∃ d, Γ.fns[j]? = some (x, d) := by
  unfold Den.isFn at h
  simp only [Bool.and_eq_true] at h
  obtain ⟨⟨h1, h2⟩, h3⟩ := h
  obtain ⟨h4, _, _⟩ := okName_ok h2
  refine ⟨ok.gl h1, h4, ?_⟩
  split at h3
  · rename_i p q
    have e : p.1 = x := of_decide_eq_true h3
    exact ⟨p.2, by rw [q, ← e]⟩
  · cases h3
theorem OkX.isFn2 (ok : OkX Γ ct X) {j : Nat} {x : Str} (h : isFn2 Γ ct j x = true) : Gl X x ∧ (x == ("__debug__" : Str)) = false ∧ ∃ d, Γ.fns2[j]? = some (x, d) := by
  unfold Den.isFn2 at h
  simp only [Bool.and_eq_true] at h
  obtain ⟨⟨h1, h2⟩, h3⟩ := h
  obtain ⟨h4, _, _⟩ := okName_ok h2
  refine ⟨ok.gl h1, h4, ?_⟩
  split at h3
  · rename_i p q
    have e : p.1 = x := of_decide_eq_true h3
    exact ⟨p.2, by rw [q, ← e]⟩
  · cases h3
theorem OkX.blk (ok : OkX Γ ct X) {scope : Scope} {own : List (Str × Nat)} (b : blkC ct.N ct.sc scope own = true) (s : Shared) (H : Hp) (Cc : Addr) (cl : List (Str × Addr)) (fp : List Addr) :
    OkX Γ (blkCt ct scope) (X.blk s H scope (compEnvC scope cl Cc X.env) fp) := by
  have kd := (blkOk_by b).kind
  refine ⟨ok.N, ?_, kd, fun x h => h, ok.nd, ok.calm, rfl, ok.gd, ok.un, ok.nob, ok.cs, ok.fns, ok.fns2⟩
  show relS scope X.env.scope = relS scope ct.sc
  rw [ok.sc]
theorem OkX.blkOk (ok : OkX Γ ct X) {scope : Scope} {own : List (Str × Nat)} (b : blkC ct.N ct.sc scope own = true) : BlkOk X.N X.env.scope scope own := by
  rw [ok.N, ok.sc]
  exact blkOk_by b
theorem none_T {e : Expr} : PT X e (tT X.K fun _ => none) := ⟨fun _ _ _ _ _ _ h => by obtain ⟨_, _, _, _, _, q, _⟩ := h; cases q⟩
theorem opB_ok (ok : OkX Γ ct X) : ∀ o : Bo, OpR X (binaryOp (bos o)) (rD X.K (opB o))
  | .add => o_add
  | .sub => o_sub
  | .mul => o_mul
  | .div => o_div
  | .mod => o_mod
  | .pow => o_pow
theorem opC_ok (ok : OkX Γ ct X) : ∀ o : Cm, OpR X (compareOp (cms o)) (rD X.K (opC o))
  | .eq => o_eq (by have := ok.un; omega)
  | .ne => o_ne (by have := ok.un; omega)
  | .lt => o_cmp op_lt
  | .le => o_cmp op_le
  | .gt => o_cmp op_gt
  | .ge => o_cmp op_ge
  | .isin => o_in (by have := ok.un; omega)
  | .notin => o_notIn (by have := ok.un; omega)
  | .is => o_is
  | .isnot => o_isNot
theorem opC_bool : ∀ (o : Cm) (d e : D) (r : RR), opC o d e = some r → ∃ b, r = .va (.bool b) := by
  intro o d e r h
  cases o <;> simp only [opC, φEq, φNe, φCmp, φIn, φNotIn, φIs, φIsNot] at h <;> (repeat' (split at h)) <;> first | cases h | skip
  all_goals first | exact ⟨_, rfl⟩ | (cases h; exact ⟨_, rfl⟩)
theorem e_blt {b : Bi} {x : Str} {p pos : Pos} {e : Expr} {es : List Expr} {fs : Fn (List RR)} (ok : OkX Γ ct X) (h : isBlt Γ ct x = true) (hb : bin b = x) (ha : PA X (e :: es) (tVs X.K fs))
    (he : starEach (e :: es) X.env = (false, eval e X.env) :: starEach es X.env) (hpl : (backTo pos (starEach es X.env)).any (·.1) = false) : PE X (.Call (.Name x p) (e :: es) [] pos) (tD X.K (fL (opI b) fs)) := by
  obtain ⟨g, m, db, nm⟩ := ok.isBlt h
  have un := ok.un
  have go : ∀ {id : String}, CallR X (.builtin id) (rL X.K (opI b)) → bootBuiltins x = some (.builtin id) → PE X (.Call (.Name x p) (e :: es) [] pos) (tD X.K (fL (opI b) fs)) :=
    fun c hv => weakE (pe_callB c g m hv ha nm db he hpl) fun _ _ _ q => wL q
  have goT : ∀ {T : String}, CallR X (.type T) (rL X.K (opI b)) → bootBuiltins x = some (.type T) → PE X (.Call (.Name x p) (e :: es) [] pos) (tD X.K (fL (opI b) fs)) :=
    fun c hv => weakE (pe_callTy c g m hv ha nm db he hpl) fun _ _ _ q => wL q
  subst hb
  cases b with
  | len => exact go c_len (by decide +kernel)
  | abs => exact go c_abs (by decide +kernel)
  | int => exact goT c_int (by decide +kernel)
  | max => exact go (c_max ok.calm) (by decide +kernel)
  | min => exact go (c_min ok.calm) (by decide +kernel)
  | sum => exact go (c_sum ok.calm) (by decide +kernel)
  | any => exact go (c_any ok.calm) (by decide +kernel)
  | all => exact go (c_all ok.calm) (by decide +kernel)
  | tuple => exact goT c_tuple (by decide +kernel)
  | list => exact goT c_list (by decide +kernel)
  | sorted => exact go (c_sorted (by omega)) (by decide +kernel)
  | repr => exact go (c_repr ok.gd (by omega)) (by decide +kernel)
  | str => exact goT c_str (by decide +kernel)
  | dict => exact goT (c_dict ok.calm) (by decide +kernel)
theorem plainArgs {l : List Expr} {env : Env} {pos : Pos} (h : ∀ e ∈ l, notStar e = true) : (backTo pos (starEach l env)).any (·.1) = false := by
  have q := (star_any (env := env) (pos := pos) h).1
  unfold backTo
  rw [List.any_map]
  rw [List.any_eq_false]
  intro x hx
  have q2 := List.all_eq_true.mp q x hx
  simp only [Bool.not_eq_true'] at q2
  simp [q2]
theorem fewArgs {l : List Expr} {env : Env} {pos : Pos} (h : ∀ e ∈ l, notStar e = true) (hl : l.length < 25) : ((backTo pos (starEach l env)).all (fun x => !x.1) && (backToKw pos (keywordEach [] env)).all (fun x => x.1.isSome)
      && decide (l.length + ([] : List Keyword).length + (if ([] : List Keyword).isEmpty then 0 else 1) < 30)) = true := by
  have q := (star_any (env := env) (pos := pos) h).1
  have e1 : (backTo pos (starEach l env)).all (fun x => !x.1) = true := by
    unfold backTo
    rw [List.all_map]
    rw [List.all_eq_true]
    intro x hx
    have q2 := List.all_eq_true.mp q x hx
    simpa using q2
  rw [e1]
  have e2 : decide (l.length + ([] : List Keyword).length + (if ([] : List Keyword).isEmpty then 0 else 1) < 30) = true := by
    apply decide_eq_true
    simp
    omega
  rw [e2]
  rfl
mutual
theorem tg_ok (ok : OkX Γ ct X) : ∀ (t : Tg) (e : Expr), t.chk ct e = true → PG X e (tTg X.K t.den t.slots)
  | .nm i, e, h => by
    cases e with
    | Name x pos =>
      have q : (decide (ct.N[i]? = some x) && Den.sto ct x) = true := by simpa only [Tg.chk] using h
      simp only [Bool.and_eq_true, decide_eq_true_eq] at q
      obtain ⟨a, b⟩ := ok.sto q.2
      exact g_name ok.nd (by rw [ok.N]; exact q.1) a b
    | _ => simp only [Tg.chk] at h; cases h
  | .tp ts, e, h => by
    cases e with
    | Tuple es k pos =>
      have q : (Tg.chks ct ts es && decide (ts.length = es.length)) = true := by simpa only [Tg.chk] using h
      simp only [Bool.and_eq_true, decide_eq_true_eq] at q
      obtain ⟨a, b⟩ := asg_len (env := X.env) q.1
      exact g_tup ok.calm (tgs_ok ok ts es q.1) (by rw [a]; exact q.2.symm) b
    | _ => simp only [Tg.chk] at h; cases h
theorem tgs_ok (ok : OkX Γ ct X) : ∀ (ts : List Tg) (es : List Expr), Tg.chks ct ts es = true → PGs X es (tTgs X.K (Tg.dens ts) (Tg.slotsL ts))
  | [], [], _ => gs_nil
  | t :: ts, e :: es, h => by
    simp only [Tg.chks, Bool.and_eq_true] at h
    exact gs_cons (tg_ok ok t e h.1.2) (tgs_ok ok ts es h.2) (asg_cons h.1.1)
  | [], _ :: _, h => by simp [Tg.chks] at h
  | _ :: _, [], h => by simp [Tg.chks] at h
end
end
end Den


set_option autoImplicit false
set_option maxHeartbeats 4000000
namespace Den
open PySem PySem.Spec L2
section
variable {Γ : Gam}
theorem pw_last {op : BoolOp} {e : Expr} {X : Cx} {f : FT} {pos : Pos} (h : PT X e (tT X.K f)) : PW X (.BoolOp op [e] pos) (tT X.K f) := by
  cases op with
  | And => exact pw_and1 h
  | Or => exact pw_or1 h
theorem notStar_of_pos {Γ : Gam} {ct : Ct} {es : Cs} {l : List Expr} (h : es.chkF Γ ct l = true) (hl : (!l.isEmpty) = true) : ∃ e r, l = e :: r ∧ notStar e = true ∧ ∀ x ∈ r, notStar x = true := by
  have q := noStars h
  cases l with
  | nil => cases hl
  | cons e r => exact ⟨e, r, rfl, q e List.mem_cons_self, fun x hx => q x (List.mem_cons_of_mem _ hx)⟩
theorem inv_rng1 {Γ : Gam} {ct : Ct} {a : C} {tg e : Expr} (h : (Ci.rng1 a).chk Γ ct tg e = true) : ∃ x p e1 pos, e = .Call (.Name x p) [e1] [] pos ∧ isBlt Γ ct x = true ∧ x = ("range" : Str) ∧ notStar e1 = true ∧ a.chk Γ ct false e1 = true := by
  cases e with
  | Call fe l kw pos =>
    cases fe with
    | Name x p =>
      match l, kw with
      | [e1], [] =>
        simp only [Ci.chk, Bool.and_eq_true, decide_eq_true_eq] at h
        exact ⟨x, p, e1, pos, rfl, h.1.1.1, h.1.1.2, h.1.2, h.2⟩
      | [], _ => simp [Ci.chk] at h
      | _ :: _ :: _, _ => simp [Ci.chk] at h
      | [_], _ :: _ => simp [Ci.chk] at h
    | _ => simp [Ci.chk] at h
  | _ => simp [Ci.chk] at h
theorem inv_rng2 {Γ : Gam} {ct : Ct} {a b : C} {tg e : Expr} (h : (Ci.rng2 a b).chk Γ ct tg e = true) : ∃ x p e1 e2 pos, e = .Call (.Name x p) [e1, e2] [] pos ∧ isBlt Γ ct x = true ∧ x = ("range" : Str) ∧ notStar e1 = true ∧ notStar e2 = true ∧ a.chk Γ ct false e1 = true ∧ b.chk Γ ct false e2 = true := by
  cases e with
  | Call fe l kw pos =>
    cases fe with
    | Name x p =>
      match l, kw with
      | [e1, e2], [] =>
        simp only [Ci.chk, Bool.and_eq_true, decide_eq_true_eq] at h
        exact ⟨x, p, e1, e2, pos, rfl, h.1.1.1.1.1, h.1.1.1.1.2, h.1.1.1.2, h.1.1.2, h.1.2, h.2⟩
      | [], _ => simp [Ci.chk] at h
      | [_], _ => simp [Ci.chk] at h
      | _ :: _ :: _ :: _, _ => simp [Ci.chk] at h
      | [_, _], _ :: _ => simp [Ci.chk] at h
    | _ => simp [Ci.chk] at h
  | _ => simp [Ci.chk] at h
theorem inv_enum {Γ : Gam} {ct : Ct} {a : C} {tg e : Expr} (h : (Ci.enum a).chk Γ ct tg e = true) : ∃ x p e1 pos es k tp, e = .Call (.Name x p) [e1] [] pos ∧ isBlt Γ ct x = true ∧ x = ("enumerate" : Str) ∧ notStar e1 = true ∧ a.chk Γ ct false e1 = true ∧ tg = .Tuple es k tp := by
  cases e with
  | Call fe l kw pos =>
    cases fe with
    | Name x p =>
      match l, kw with
      | [e1], [] =>
        simp only [Ci.chk, Bool.and_eq_true, decide_eq_true_eq] at h
        have ht : ∃ es k tp, tg = .Tuple es k tp := by
          cases tg with
          | Tuple es k tp => exact ⟨es, k, tp, rfl⟩
          | _ => cases h.2
        obtain ⟨es, k, tp, ht⟩ := ht
        exact ⟨x, p, e1, pos, es, k, tp, rfl, h.1.1.1.1, h.1.1.1.2, h.1.1.2, h.1.2, ht⟩
      | [], _ => simp [Ci.chk] at h
      | _ :: _ :: _, _ => simp [Ci.chk] at h
      | [_], _ :: _ => simp [Ci.chk] at h
    | _ => simp [Ci.chk] at h
  | _ => simp [Ci.chk] at h
theorem inv_callL {Γ : Gam} {ct : Ct} {t : Bool} {a : C} {j i : Nat} {e : Expr} (h : (C.callL j i a).chk Γ ct t e = true) : ∃ x p e1 y yp pos, e = .Call (.Name x p) [e1, .Name y yp] [] pos ∧ isFn Γ ct j x = true ∧ isVar ct i y = true ∧ notStar e1 = true ∧ a.chk Γ ct false e1 = true := by
  unfold C.chk at h
  split at h <;> first
    | (cases h; done)
    | (simp only [Bool.and_eq_true, decide_eq_true_eq, Bool.not_eq_true'] at h; rename_i j2 i2 a2 x p e1 y yp pos q; cases q; exact ⟨x, p, e1, y, yp, pos, rfl, h.1.1.1.1, h.1.1.1.2, h.1.1.2, h.1.2⟩)
    | (rename_i q _; cases q; done)
    | (rename_i q; cases q; done)
    | (simp_all; done)
theorem inv_lz {Γ : Gam} {ct : Ct} {t : Bool} {a b : C} {e : Expr} (h : (C.lz a b).chk Γ ct t e = true) : ∃ x p y p2 e2 e3 pos2 pos, e = .Call (.Name x p) [.Call (.Name y p2) [e2, e3] [] pos2] [] pos ∧ isBlt Γ ct x = true ∧ x = ("list" : Str) ∧ isBlt Γ ct y = true ∧ y = ("zip" : Str) ∧ notStar e2 = true ∧ notStar e3 = true ∧ a.chk Γ ct false e2 = true ∧ b.chk Γ ct false e3 = true := by
  unfold C.chk at h
  split at h <;> first
    | (cases h; done)
    | (simp only [Bool.and_eq_true, decide_eq_true_eq, Bool.not_eq_true'] at h; rename_i a2 b2 x p y p2 e2 e3 pos2 pos q; cases q; exact ⟨x, p, y, p2, e2, e3, pos2, pos, rfl, h.1.1.1.1.1.1.1.1, h.1.1.1.1.1.1.1.2, h.1.1.1.1.1.1.2, h.1.1.1.1.1.2, h.1.1.1.1.2, h.1.1.1.2, h.1.1.2, h.1.2⟩)
    | (rename_i q _; cases q; done)
    | (rename_i q; cases q; done)
    | (simp_all; done)
theorem inv_lr {Γ : Gam} {ct : Ct} {t : Bool} {a : C} {e : Expr} (h : (C.lr a).chk Γ ct t e = true) : ∃ x p y p2 e2 pos2 pos, e = .Call (.Name x p) [.Call (.Name y p2) [e2] [] pos2] [] pos ∧ isBlt Γ ct x = true ∧ x = ("list" : Str) ∧ isBlt Γ ct y = true ∧ y = ("range" : Str) ∧ notStar e2 = true ∧ a.chk Γ ct false e2 = true := by
  unfold C.chk at h
  split at h <;> first
    | (cases h; done)
    | (simp only [Bool.and_eq_true, decide_eq_true_eq, Bool.not_eq_true'] at h; rename_i a2 x p y p2 e2 pos2 pos q; cases q; exact ⟨x, p, y, p2, e2, pos2, pos, rfl, h.1.1.1.1.1.1, h.1.1.1.1.1.2, h.1.1.1.1.2, h.1.1.1.2, h.1.1.2, h.1.2⟩)
    | (rename_i q _; cases q; done)
    | (rename_i q; cases q; done)
    | (simp_all; done)
theorem inv_tr {Γ : Gam} {ct : Ct} {t : Bool} {a : C} {e : Expr} (h : (C.tr a).chk Γ ct t e = true) : ∃ x p y p2 e2 pos2 pos, e = .Call (.Name x p) [.Call (.Name y p2) [e2] [] pos2] [] pos ∧ isBlt Γ ct x = true ∧ x = ("tuple" : Str) ∧ isBlt Γ ct y = true ∧ y = ("range" : Str) ∧ notStar e2 = true ∧ a.chk Γ ct false e2 = true := by
  unfold C.chk at h
  split at h <;> first
    | (cases h; done)
    | (simp only [Bool.and_eq_true, decide_eq_true_eq, Bool.not_eq_true'] at h; rename_i a2 x p y p2 e2 pos2 pos q; cases q; exact ⟨x, p, y, p2, e2, pos2, pos, rfl, h.1.1.1.1.1.1, h.1.1.1.1.1.2, h.1.1.1.1.2, h.1.1.1.2, h.1.1.2, h.1.2⟩)
    | (rename_i q _; cases q; done)
    | (rename_i q; cases q; done)
    | (simp_all; done)
theorem inv_isi {Γ : Gam} {ct : Ct} {t : Bool} {a : C} {ty : Ty} {e : Expr} (h : (C.isi a ty).chk Γ ct t e = true) : ∃ x p y p2 e2 pos, e = .Call (.Name x p) [e2, .Name y p2] [] pos ∧ isBlt Γ ct x = true ∧ x = ("isinstance" : Str) ∧ notStar e2 = true ∧ isBlt Γ ct y = true ∧ tyS ty = y ∧ a.chk Γ ct false e2 = true := by
  unfold C.chk at h
  split at h <;> first
    | (cases h; done)
    | (simp only [Bool.and_eq_true, decide_eq_true_eq, Bool.not_eq_true'] at h; rename_i a2 ty2 x p e2 y p2 pos q; cases q; exact ⟨x, p, y, p2, e2, pos, rfl, h.1.1.1.1.1, h.1.1.1.1.2, h.1.1.1.2, h.1.1.2, h.1.2, h.2⟩)
    | (rename_i q _; cases q; done)
    | (rename_i q; cases q; done)
    | (simp_all; done)
theorem inv_ext {Γ : Gam} {ct : Ct} {t : Bool} {a : C} {i : Nat} {e : Expr} (h : (C.ext i a).chk Γ ct t e = true) : ∃ x p nm apos e2 pos, e = .Call (.Attribute (.Name x p) nm apos) [e2] [] pos ∧ isVar ct i x = true ∧ ("extend" : Str) = nm ∧ notStar e2 = true ∧ (apos.endLine == pos.line) = true ∧ a.chk Γ ct false e2 = true := by
  unfold C.chk at h
  split at h <;> first
    | (cases h; done)
    | (simp only [Bool.and_eq_true, decide_eq_true_eq, Bool.not_eq_true'] at h; rename_i i2 a2 x p nm apos e2 pos q; cases q; exact ⟨x, p, nm, apos, e2, pos, rfl, h.1.1.1.1.1, h.1.1.1.1.2, h.1.1.1.2, h.1.1.2, h.1.2⟩)
    | (rename_i q _; cases q; done)
    | (rename_i q; cases q; done)
    | (simp_all; done)
theorem inv_pop {Γ : Gam} {ct : Ct} {t : Bool} {i : Nat} {e : Expr} (h : (C.pop i).chk Γ ct t e = true) : ∃ x p apos pos, e = .Call (.Attribute (.Name x p) "pop" apos) [] [] pos ∧ isVar ct i x = true ∧ (apos.endLine == pos.line) = true := by
  unfold C.chk at h
  split at h <;> first
    | (cases h; done)
    | (simp only [Bool.and_eq_true, decide_eq_true_eq, Bool.not_eq_true'] at h; rename_i i2 x p nm apos pos q; cases q; obtain ⟨⟨⟨h1, h2⟩, h3⟩, _⟩ := h; subst h2; exact ⟨x, p, apos, pos, rfl, h1, h3⟩)
    | (rename_i q _; cases q; done)
    | (rename_i q; cases q; done)
    | (simp_all; done)
theorem inv_tin {Γ : Gam} {ct : Ct} {t neg : Bool} {a : C} {i : Nat} {e : Expr} (h : (C.tin neg a i).chk Γ ct t e = true) : ∃ x y p pos, e = .Compare x [if neg then .NotIn else .In] [.Name y p] pos ∧ isVar ct i y = true ∧ a.chk Γ ct false x = true ∧ behindInMarks (if neg then .NotIn else .In) (.Name y p) = false := by
  unfold C.chk at h
  split at h <;> first
    | (cases h; done)
    | (simp only [Bool.and_eq_true, decide_eq_true_eq, Bool.not_eq_true'] at h; rename_i a2 i2 x y p pos q; cases q; exact ⟨x, y, p, pos, rfl, h.1.1, h.1.2, h.2⟩)
    | (rename_i q _; cases q; done)
    | (rename_i q; cases q; done)
    | (simp_all; done)
theorem inv_tget {Γ : Gam} {ct : Ct} {t : Bool} {a b : C} {i : Nat} {e : Expr} (h : (C.tget a b i).chk Γ ct t e = true) : ∃ x p apos e1 e2 pos, e = .Call (.Attribute (.Name x p) "get" apos) [e1, e2] [] pos ∧ isVar ct i x = true ∧ notStar e1 = true ∧ notStar e2 = true ∧ (apos.endLine == pos.line) = true ∧ a.chk Γ ct false e1 = true ∧ b.chk Γ ct false e2 = true := by
  unfold C.chk at h
  split at h <;> first
    | (cases h; done)
    | (simp only [Bool.and_eq_true, decide_eq_true_eq, Bool.not_eq_true'] at h; rename_i a2 b2 i2 x p nm apos e1 e2 pos q; cases q; obtain ⟨⟨⟨⟨⟨⟨⟨h1, h2⟩, h3⟩, h4⟩, h5⟩, h6⟩, h7⟩, _⟩ := h; subst h2; exact ⟨x, p, apos, e1, e2, pos, rfl, h1, h3, h4, h5, h6, h7⟩)
    | (rename_i q _; cases q; done)
    | (rename_i q; cases q; done)
    | (simp_all; done)
theorem inv_call2 {Γ : Gam} {ct : Ct} {t : Bool} {a b : C} {j i l : Nat} {e : Expr} (h : (C.call2 j i l a b).chk Γ ct t e = true) : ∃ x p y yp e1 e2 z zp pos, e = .Call (.Name x p) [.Name y yp, e1, e2, .Name z zp] [] pos ∧ isFn2 Γ ct j x = true ∧ isVar ct i y = true ∧ isVar ct l z = true ∧ notStar e1 = true ∧ notStar e2 = true ∧ a.chk Γ ct false e1 = true ∧ b.chk Γ ct false e2 = true := by
  unfold C.chk at h
  split at h <;> first
    | (cases h; done)
    | (simp only [Bool.and_eq_true, decide_eq_true_eq, Bool.not_eq_true'] at h; rename_i j2 i2 l2 a2 b2 x p y yp e1 e2 z zp pos q; cases q; obtain ⟨⟨⟨⟨⟨⟨⟨h1, h2⟩, h3⟩, h4⟩, h5⟩, h6⟩, h7⟩, _⟩ := h; exact ⟨x, p, y, yp, e1, e2, z, zp, pos, rfl, h1, h2, h3, h4, h5, h6, h7⟩)
    | (rename_i q _; cases q; done)
    | (rename_i q; cases q; done)
    | (simp_all; done)
theorem inv_set3 {Γ : Gam} {ct : Ct} {t : Bool} {own : List (Str × Nat)} {elt : C} {tg : Tg} {it : Ci} {tg1 : Tg} {it1 : Ci} {tg2 : Tg} {it2 : Ci} {e : Expr} (h : (C.set3 own elt tg it tg1 it1 tg2 it2).chk Γ ct t e = true) :
    ∃ p el t0 i0 t1 i1 t2 i2 scope spos pos, e = .Call (.Name "sorted" p) [SC3 el t0 i0 t1 i1 t2 i2 scope spos] [] pos ∧ isBlt Γ ct "sorted" = true ∧ blkC ct.N ct.sc scope own = true ∧ (it.chk Γ ct t0 i0 = true ∧ it1.chk Γ (blkCt ct scope) t1 i1 = true ∧ it2.chk Γ (blkCt ct scope) t2 i2 = true) ∧ (noSet i0 = true ∧ noSet i1 = true ∧ noSet i2 = true) ∧
    (tg.chk (blkCt ct scope) t0 = true ∧ tg1.chk (blkCt ct scope) t1 = true ∧ tg2.chk (blkCt ct scope) t2 = true) ∧ (∀ j ∈ tg.slots, j ∈ own.map (·.2)) ∧ (∀ j ∈ tg1.slots ++ tg2.slots, j ∈ own.map (·.2)) ∧ elt.chk Γ (blkCt ct scope) false el = true := by
  unfold C.chk at h
  split at h <;> first
    | (cases h; done)
    | (rename_i own2 elt2 tg2' it2' tg12 it12 tg22 it22 x p el t0 i0 a0 t1 i1 a1 t2 i2 a2 scope spos pos q
       cases q
       simp only [Bool.and_eq_true, decide_eq_true_eq, Bool.not_eq_true', List.all_eq_true] at h
       obtain ⟨⟨⟨⟨⟨⟨⟨⟨⟨h1, h2⟩, ⟨⟨z0, z1⟩, z2⟩⟩, h4⟩, ⟨⟨h5, h6⟩, h7⟩⟩, ⟨⟨h8, h9⟩, h10⟩⟩, ⟨⟨h11, h12⟩, h13⟩⟩, ⟨h14, h15⟩⟩, h16⟩, _⟩ := h
       subst h2 z0 z1 z2
       exact ⟨p, el, t0, i0, t1, i1, t2, i2, scope, spos, pos, rfl, h1, h4, ⟨h5, h6, h7⟩, ⟨h8, h9, h10⟩, ⟨h11, h12, h13⟩, h14, h15, h16⟩)
    | (rename_i q _; cases q; done)
    | (rename_i q; cases q; done)
    | (simp_all; done)
theorem inv_rev {Γ : Gam} {ct : Ct} {t : Bool} {a : C} {e : Expr} (h : (C.rev a).chk Γ ct t e = true) : ∃ x k p1 p2 p3 pos, e = .Subscript x (.Slice none none (some (.UnaryOp .USub (.Constant (.int 1) k p1) p2)) p3) pos ∧ a.chk Γ ct false x = true := by
  cases e with
  | Subscript x sl pos =>
    simp only [C.chk, Bool.and_eq_true] at h
    obtain ⟨⟨h1, h2⟩, _⟩ := h
    obtain ⟨k, p1, p2, p3, rfl⟩ := isRevS_ok h1
    exact ⟨x, k, p1, p2, p3, pos, rfl, h2⟩
  | _ => simp [C.chk] at h
theorem inv_dsel {Γ : Gam} {ct : Ct} {t : Bool} {k1 k2 k3 : Str} {v1 v2 v3 : Int} {a : C} {e : Expr} (h : (C.dsel k1 k2 k3 v1 v2 v3 a).chk Γ ct t e = true) : ∃ d x pos, e = .Subscript d x pos ∧ isD3 k1 k2 k3 v1 v2 v3 d = true ∧ a.chk Γ ct false x = true ∧ pix x = true := by
  cases e with
  | Subscript d x pos =>
    simp only [C.chk, Bool.and_eq_true] at h
    obtain ⟨⟨⟨h1, h2⟩, h3⟩, _⟩ := h
    exact ⟨d, x, pos, rfl, h1, h2, h3⟩
  | _ => simp [C.chk] at h
theorem inv_dct0 {Γ : Gam} {ct : Ct} {t : Bool} {e : Expr} (h : (C.dct0).chk Γ ct t e = true) : ∃ pos, e = .Dict [] [] pos := by
  simp only [C.chk, Bool.and_eq_true] at h
  exact isDct0_ok h.1
theorem inv_bits {Γ : Gam} {ct : Ct} {t : Bool} {a : C} {e : Expr} (h : (C.bits a).chk Γ ct t e = true) : ∃ x op y p apos pos, e = .Call (.Attribute (.BinOp x op y p) "bit_length" apos) [] [] pos ∧ (apos.endLine == pos.line) = true ∧ a.chk Γ ct false (.BinOp x op y p) = true := by
  unfold C.chk at h
  split at h <;> first
    | (cases h; done)
    | (simp only [Bool.and_eq_true, decide_eq_true_eq, Bool.not_eq_true'] at h; rename_i a2 x op y p nm apos pos q; cases q; obtain ⟨⟨⟨h1, h2⟩, h3⟩, _⟩ := h; subst h1; exact ⟨x, op, y, p, apos, pos, rfl, h2, h3⟩)
    | (rename_i q _; cases q; done)
    | (rename_i q; cases q; done)
    | (simp_all; done)
theorem inv_din {Γ : Gam} {ct : Ct} {t neg : Bool} {a : C} {i : Nat} {e : Expr} (h : (C.din neg a i).chk Γ ct t e = true) : ∃ x y p pos, e = .Compare x [if neg then .NotIn else .In] [.Name y p] pos ∧ isVar ct i y = true ∧ a.chk Γ ct false x = true ∧ behindInMarks (if neg then .NotIn else .In) (.Name y p) = false := by
  unfold C.chk at h
  split at h <;> first
    | (cases h; done)
    | (simp only [Bool.and_eq_true, decide_eq_true_eq, Bool.not_eq_true'] at h; rename_i a2 i2 x y p pos q; cases q; exact ⟨x, y, p, pos, rfl, h.1.1, h.1.2, h.2⟩)
    | (rename_i q _; cases q; done)
    | (rename_i q; cases q; done)
    | (simp_all; done)
theorem inv_dsort {Γ : Gam} {ct : Ct} {t : Bool} {i : Nat} {e : Expr} (h : (C.dsort i).chk Γ ct t e = true) : ∃ x p y p2 pos, e = .Call (.Name x p) [.Name y p2] [] pos ∧ isBlt Γ ct x = true ∧ x = ("sorted" : Str) ∧ isVar ct i y = true := by
  unfold C.chk at h
  split at h <;> first
    | (cases h; done)
    | (simp only [Bool.and_eq_true, decide_eq_true_eq, Bool.not_eq_true'] at h; rename_i i2 x p y p2 pos q; cases q; exact ⟨x, p, y, p2, pos, rfl, h.1.1.1, h.1.1.2, h.1.2⟩)
    | (rename_i q _; cases q; done)
    | (rename_i q; cases q; done)
    | (simp_all; done)
theorem inv_lc2 {Γ : Gam} {ct : Ct} {t : Bool} {own : List (Str × Nat)} {elt : C} {tg : Tg} {it : Ci} {ifs : Co} {tg1 : Tg} {it1 : Ci} {ifs1 : Co} {e : Expr} (h : (C.lc2 own elt tg it ifs tg1 it1 ifs1).chk Γ ct t e = true) :
    ∃ el t' i fs t1' i1 fs1 scope pos, e = .ListComp el [⟨t', i, fs, 0⟩, ⟨t1', i1, fs1, 0⟩] scope pos ∧ blkC ct.N ct.sc scope own = true ∧ it.chk Γ ct t' i = true ∧ noSet i = true ∧ noSet i1 = true ∧ tg.chk (blkCt ct scope) t' = true ∧ tg1.chk (blkCt ct scope) t1' = true ∧
    (∀ j ∈ tg.slots, j ∈ own.map (·.2)) ∧ (∀ j ∈ tg1.slots, j ∈ own.map (·.2)) ∧ elt.chk Γ (blkCt ct scope) false el = true ∧ ifs.chkI Γ (blkCt ct scope) fs = true ∧ ifs1.chkI Γ (blkCt ct scope) fs1 = true ∧ it1.chk Γ (blkCt ct scope) t1' i1 = true := by
  unfold C.chk at h
  split at h <;> first
    | (cases h; done)
    | (simp only [Bool.and_eq_true, decide_eq_true_eq, Bool.not_eq_true'] at h
       rename_i own2 elt2 tg2 it2 ifs2 tg12 it12 ifs12 el t' i fs as t1' i1 fs1 as1 scope pos q
       cases q
       obtain ⟨⟨⟨⟨⟨⟨⟨⟨⟨a0, a1⟩, h1⟩, ⟨h2, h3⟩, h3'⟩, h4, h4'⟩, h5, h5'⟩, h6⟩, h7, h7'⟩, h8⟩, _⟩ := h
       subst a0
       subst a1
       exact ⟨el, t', i, fs, t1', i1, fs1, scope, pos, rfl, h1, h2, h3, h3', h4, h4', fun j hj => of_decide_eq_true (List.all_eq_true.mp h5 j hj), fun j hj => of_decide_eq_true (List.all_eq_true.mp h5' j hj), h6, h7, h7', h8⟩)
    | (rename_i q _; cases q; done)
    | (rename_i q; cases q; done)
    | (simp_all; done)
theorem inv_chn {Γ : Gam} {ct : Ct} {t : Bool} {o1 o2 : Cm} {a b c : C} {e : Expr} (h : (C.chn o1 o2 a b c).chk Γ ct t e = true) : ∃ x op1 op2 y z pos, e = .Compare x [op1, op2] [y, z] pos ∧ cms o1 = op1 ∧ cms o2 = op2 ∧ a.chk Γ ct false x = true ∧ b.chk Γ ct false y = true ∧ c.chk Γ ct false z = true ∧ lastMarks [op1, op2] [y, z] = false := by
  unfold C.chk at h
  split at h <;> first
    | (cases h; done)
    | (simp only [Bool.and_eq_true, decide_eq_true_eq, Bool.not_eq_true'] at h; rename_i o3 o4 a2 b2 c2 x op1 op2 y z pos q; cases q; exact ⟨x, op1, op2, y, z, pos, rfl, h.1.1.1.1.1, h.1.1.1.1.2, h.1.1.1.2, h.1.1.2, h.1.2, h.2⟩)
    | (rename_i q _; cases q; done)
    | (rename_i q; cases q; done)
    | (simp_all; done)
theorem inv_zip {Γ : Gam} {ct : Ct} {a b : C} {tg e : Expr} (h : (Ci.zip a b).chk Γ ct tg e = true) : ∃ x p e1 e2 pos es k tp, e = .Call (.Name x p) [e1, e2] [] pos ∧ isBlt Γ ct x = true ∧ x = ("zip" : Str) ∧ notStar e1 = true ∧ notStar e2 = true ∧ a.chk Γ ct false e1 = true ∧ b.chk Γ ct false e2 = true ∧ tg = .Tuple es k tp := by
  cases e with
  | Call fe l kw pos =>
    cases fe with
    | Name x p =>
      match l, kw with
      | [e1, e2], [] =>
        simp only [Ci.chk, Bool.and_eq_true, decide_eq_true_eq] at h
        have ht : ∃ es k tp, tg = .Tuple es k tp := by
          cases tg with
          | Tuple es k tp => exact ⟨es, k, tp, rfl⟩
          | _ => cases h.2
        obtain ⟨es, k, tp, ht⟩ := ht
        exact ⟨x, p, e1, e2, pos, es, k, tp, rfl, h.1.1.1.1.1.1, h.1.1.1.1.1.2, h.1.1.1.1.2, h.1.1.1.2, h.1.1.2, h.1.2, ht⟩
      | [], _ => simp [Ci.chk] at h
      | [_], _ => simp [Ci.chk] at h
      | _ :: _ :: _ :: _, _ => simp [Ci.chk] at h
      | [_, _], _ :: _ => simp [Ci.chk] at h
    | _ => simp [Ci.chk] at h
  | _ => simp [Ci.chk] at h
theorem inv_rngD {Γ : Gam} {ct : Ct} {a b c : C} {tg e : Expr} (h : (Ci.rngD a b c).chk Γ ct tg e = true) : ∃ x p e1 e2 e3 pos, e = .Call (.Name x p) [e1, e2, e3] [] pos ∧ isBlt Γ ct x = true ∧ x = ("range" : Str) ∧ notStar e1 = true ∧ notStar e2 = true ∧ notStar e3 = true ∧ a.chk Γ ct false e1 = true ∧ b.chk Γ ct false e2 = true ∧ c.chk Γ ct false e3 = true := by
  cases e with
  | Call fe l kw pos =>
    cases fe with
    | Name x p =>
      match l, kw with
      | [e1, e2, e3], [] =>
        simp only [Ci.chk, Bool.and_eq_true, decide_eq_true_eq] at h
        exact ⟨x, p, e1, e2, e3, pos, rfl, h.1.1.1.1.1, h.1.1.1.1.2, h.1.1.1.2.1.1, h.1.1.1.2.1.2, h.1.1.1.2.2, h.1.1.2, h.1.2, h.2⟩
      | [], _ => simp [Ci.chk] at h
      | [_], _ => simp [Ci.chk] at h
      | [_, _], _ => simp [Ci.chk] at h
      | _ :: _ :: _ :: _ :: _, _ => simp [Ci.chk] at h
      | [_, _, _], _ :: _ => simp [Ci.chk] at h
    | _ => simp [Ci.chk] at h
  | _ => simp [Ci.chk] at h
mutual
theorem snd : ∀ (c : C) (ct : Ct) (X : Cx) (e : Expr), OkX Γ ct X → (c.chk Γ ct false e = true → PE X e (tD X.K (c.den Γ))) ∧ (c.chk Γ ct true e = true → PT X e (tT X.K (c.denT Γ)))
  | .var i, ct, X, e, ok => by
    cases e with
    | Name x pos =>
      have go : isVar ct i x = true → PE X (.Name x pos) (tD X.K (fVar i)) := fun q => by
        obtain ⟨a, b, c, d⟩ := ok.isVar q
        exact e_var a b c d
      exact ⟨fun h => go (by simpa only [C.chk] using h), fun h => t_val (go (by simpa only [C.chk] using h)) (plain_test rfl)⟩
    | _ => exact ⟨fun h => (by simp [C.chk] at h), fun h => (by simp [C.chk] at h)⟩
  | .int i, ct, X, e, ok => by
    refine ⟨fun h => ?_, fun h => none_T⟩
    cases e with
    | Constant v k pos =>
      cases v with
      | int j =>
        simp only [C.chk, Bool.and_eq_true, decide_eq_true_eq] at h
        rw [← h.1]
        exact e_lit pe_int (.int i)
      | _ => simp [C.chk] at h
    | _ => simp [C.chk] at h
  | .str i, ct, X, e, ok => by
    refine ⟨fun h => ?_, fun h => none_T⟩
    cases e with
    | Constant v k pos =>
      cases v with
      | str j =>
        simp only [C.chk, Bool.and_eq_true, decide_eq_true_eq] at h
        rw [← h.1]
        exact e_lit pe_str (.str i)
      | _ => simp [C.chk] at h
    | _ => simp [C.chk] at h
  | .bool i, ct, X, e, ok => by
    refine ⟨fun h => ?_, fun h => none_T⟩
    cases e with
    | Constant v k pos =>
      cases v with
      | bool j =>
        simp only [C.chk, Bool.and_eq_true, decide_eq_true_eq] at h
        rw [← h.1]
        exact e_lit pe_bl (.bl i)
      | _ => simp [C.chk] at h
    | _ => simp [C.chk] at h
  | .non, ct, X, e, ok => by
    refine ⟨fun h => ?_, fun h => none_T⟩
    cases e with
    | Constant v k pos =>
      cases v with
      | none => exact e_lit pe_non .non
      | _ => simp [C.chk] at h
    | _ => simp [C.chk] at h
  | .glo j, ct, X, e, ok => by
    refine ⟨fun h => ?_, fun h => none_T⟩
    cases e with
    | Name x pos =>
      simp only [C.chk, Bool.and_eq_true] at h
      obtain ⟨⟨⟨h1, h2⟩, _⟩, h3⟩ := h
      split at h3
      · rename_i p q
        have e1 : p.1 = x := of_decide_eq_true h3
        obtain ⟨v, u, a, b, c⟩ := ok.cs p (List.mem_of_getElem? q)
        rw [e1] at a
        have q2 : C.den Γ (.glo j) = fC p.2 := by simp only [C.den, q]
        rw [q2]
        exact e_lit (pe_glob (ok.gl h1) a b (okName_ok h2).1) c
      · cases h3
    | _ => simp [C.chk] at h
  | .tup es, ct, X, e, ok => by
    refine ⟨fun h => ?_, fun h => none_T⟩
    cases e with
    | Tuple l k pos =>
      simp only [C.chk, Bool.and_eq_true] at h
      exact e_tup (sndF es ct X l ok h.1)
    | _ => simp [C.chk] at h
  | .lst es, ct, X, e, ok => by
    refine ⟨fun h => ?_, fun h => none_T⟩
    cases e with
    | List l pos =>
      simp only [C.chk, Bool.and_eq_true] at h
      exact e_lst (sndF es ct X l ok h.1)
    | _ => simp [C.chk] at h
  | .bin o a b, ct, X, e, ok => by
    refine ⟨fun h => ?_, fun h => none_T⟩
    cases e with
    | BinOp x op y pos =>
      simp only [C.chk, Bool.and_eq_true, decide_eq_true_eq] at h
      obtain ⟨⟨⟨h1, h2⟩, h3⟩, _⟩ := h
      rw [← h1]
      exact e_bin (opB_ok ok o) ((snd a ct X x ok).1 h2) ((snd b ct X y ok).1 h3)
    | _ => simp [C.chk] at h
  | .neg a, ct, X, e, ok => by
    refine ⟨fun h => ?_, fun h => none_T⟩
    cases e with
    | UnaryOp op x pos =>
      cases op with
      | USub =>
        simp only [C.chk, Bool.and_eq_true] at h
        exact e_un o_neg ((snd a ct X x ok).1 h.1)
      | _ => simp [C.chk] at h
    | _ => simp [C.chk] at h
  | .not a, ct, X, e, ok => by
    cases e with
    | UnaryOp op x pos =>
      cases op with
      | Not => exact ⟨fun h => e_not ((snd a ct X x ok).1 (by simpa only [C.chk] using h)), fun h => t_not ((snd a ct X x ok).2 (by simpa only [C.chk] using h))⟩
      | _ => exact ⟨fun h => (by simp [C.chk] at h), fun h => (by simp [C.chk] at h)⟩
    | _ => exact ⟨fun h => (by simp [C.chk] at h), fun h => (by simp [C.chk] at h)⟩
  | .and es, ct, X, e, ok => by
    cases e with
    | BoolOp op l pos =>
      cases op with
      | And => exact ⟨fun h => (sndA es ct X l pos ok).1 (by simpa only [C.chk] using h), fun h => ((sndA es ct X l pos ok).2 (by simpa only [C.chk] using h)).pt⟩
      | _ => exact ⟨fun h => (by simp [C.chk] at h), fun h => (by simp [C.chk] at h)⟩
    | _ => exact ⟨fun h => (by simp [C.chk] at h), fun h => (by simp [C.chk] at h)⟩
  | .or es, ct, X, e, ok => by
    cases e with
    | BoolOp op l pos =>
      cases op with
      | Or => exact ⟨fun h => (sndOr es ct X l pos ok).1 (by simpa only [C.chk] using h), fun h => ((sndOr es ct X l pos ok).2 (by simpa only [C.chk] using h)).pt⟩
      | _ => exact ⟨fun h => (by simp [C.chk] at h), fun h => (by simp [C.chk] at h)⟩
    | _ => exact ⟨fun h => (by simp [C.chk] at h), fun h => (by simp [C.chk] at h)⟩
  | .cmp o a b, ct, X, e, ok => by
    cases e with
    | Compare x ops ys pos =>
      match ops, ys with
      | [op], [y] =>
        have go : ∀ t, C.chk Γ ct t (.cmp o a b) (.Compare x [op] [y] pos) = true → cms o = op ∧ PE X x (tD X.K (a.den Γ)) ∧ PE X y (tD X.K (b.den Γ)) ∧ behindInMarks op y = false := fun t h => by
          simp only [C.chk, Bool.and_eq_true, decide_eq_true_eq, Bool.not_eq_true'] at h
          obtain ⟨⟨⟨h1, h2⟩, h3⟩, h4⟩ := h
          exact ⟨h1, (snd a ct X x ok).1 h2, (snd b ct X y ok).1 h3, h4⟩
        refine ⟨fun h => ?_, fun h => ?_⟩
        · obtain ⟨h1, h2, h3, h4⟩ := go _ h
          subst h1
          exact e_cmp (opC_ok ok o) h2 h3 h4
        · obtain ⟨h1, h2, h3, h4⟩ := go _ h
          subst h1
          exact t_cmp (opC_ok ok o) h2 h3 h4 (opC_bool o)
      | [], _ => exact ⟨fun h => (by simp [C.chk] at h), fun h => (by simp [C.chk] at h)⟩
      | [_], [] => exact ⟨fun h => (by simp [C.chk] at h), fun h => (by simp [C.chk] at h)⟩
      | [_], _ :: _ :: _ => exact ⟨fun h => (by simp [C.chk] at h), fun h => (by simp [C.chk] at h)⟩
      | _ :: _ :: _, _ => exact ⟨fun h => (by simp [C.chk] at h), fun h => (by simp [C.chk] at h)⟩
    | _ => exact ⟨fun h => (by simp [C.chk] at h), fun h => (by simp [C.chk] at h)⟩
  | .ite c a b, ct, X, e, ok => by
    refine ⟨fun h => ?_, fun h => none_T⟩
    cases e with
    | IfExp x y z pos =>
      simp only [C.chk, Bool.and_eq_true] at h
      obtain ⟨⟨⟨h1, h2⟩, h3⟩, _⟩ := h
      exact e_if ((snd c ct X x ok).2 h1) ((snd a ct X y ok).1 h2) ((snd b ct X z ok).1 h3)
    | _ => simp [C.chk] at h
  | .call j es, ct, X, e, ok => by
    have go : ∀ t, C.chk Γ ct t (.call j es) e = true → PE X e (tD X.K (C.den Γ (.call j es))) ∧ plainT e = true := fun t h => by
      cases e with
      | Call fe l kw pos =>
        cases fe with
        | Name x p =>
          cases kw with
          | nil =>
            simp only [C.chk, Bool.and_eq_true] at h
            obtain ⟨⟨h1, h2⟩, h3⟩ := h
            obtain ⟨a, r, rfl, h4, h5⟩ := notStar_of_pos h3 h2
            obtain ⟨g, db, d, q⟩ := ok.isFn h1
            obtain ⟨k, f, fd, ps, F, hr, hm, hk, hb⟩ := ok.fns _ (List.mem_of_getElem? q)
            have q2 : C.den Γ (.call j es) = fCall d (es.denF Γ) := by simp only [C.den, q]
            rw [q2]
            exact ⟨e_call F hr ok.gd g hm hk hb (sndF es ct X _ ok h3) db (star_cons h4) (plainArgs h5), rfl⟩
          | cons _ _ => simp [C.chk] at h
        | _ => simp [C.chk] at h
      | _ => simp [C.chk] at h
    refine ⟨fun h => (go _ h).1, fun h => ?_⟩
    obtain ⟨h1, h2⟩ := go _ h
    have q : C.denT Γ (.call j es) = fT (C.den Γ (.call j es)) := by simp only [C.den, C.denT]
    rw [q]
    exact t_val h1 (plain_test h2)
  | .callM j i es, ct, X, e, ok => by
    have go : ∀ t, C.chk Γ ct t (.callM j i es) e = true → PE X e (tD X.K (C.den Γ (.callM j i es))) ∧ plainT e = true := fun t h => by
      cases e with
      | Call fe l kw pos =>
        cases fe with
        | Name x p =>
          cases kw with
          | nil =>
            cases l with
            | nil => simp [C.chk] at h
            | cons b l =>
              cases b with
              | Name y yp =>
                simp only [C.chk, Bool.and_eq_true] at h
                obtain ⟨⟨h1, h2⟩, h3⟩ := h
                obtain ⟨g, db, d, q⟩ := ok.isFn h1
                obtain ⟨k, f, fd, ps, F, hr, hm, hk, hb⟩ := ok.fns _ (List.mem_of_getElem? q)
                obtain ⟨v1, v2, v3, v4⟩ := ok.isVar h2
                have q2 : C.den Γ (.callM j i es) = fCallM d i (es.denF Γ) := by simp only [C.den, q]
                rw [q2]
                exact ⟨e_callM F hr ok.gd g hm hk hb v1 v2 v3 v4 (sndF es ct X _ ok h3) db (plainArgs (noStars h3)), rfl⟩
              | _ => simp [C.chk] at h
          | cons _ _ => simp [C.chk] at h
        | _ => simp [C.chk] at h
      | _ => simp [C.chk] at h
    refine ⟨fun h => (go _ h).1, fun h => ?_⟩
    obtain ⟨h1, h2⟩ := go _ h
    have q : C.denT Γ (.callM j i es) = fT (C.den Γ (.callM j i es)) := by simp only [C.den, C.denT]
    rw [q]
    exact t_val h1 (plain_test h2)
  | .blt b es, ct, X, e, ok => by
    have go : ∀ t, C.chk Γ ct t (.blt b es) e = true → PE X e (tD X.K (C.den Γ (.blt b es))) ∧ plainT e = true := fun t h => by
      cases e with
      | Call fe l kw pos =>
        cases fe with
        | Name x p =>
          cases kw with
          | nil =>
            simp only [C.chk, Bool.and_eq_true, decide_eq_true_eq] at h
            obtain ⟨⟨⟨h1, h2⟩, h3⟩, h4⟩ := h
            obtain ⟨a, r, rfl, h5, h6⟩ := notStar_of_pos h4 h3
            have q2 : C.den Γ (.blt b es) = fL (opI b) (es.denV Γ) := by simp only [C.den]
            rw [q2]
            exact ⟨e_blt ok h1 h2 (sndV es ct X _ ok h4) (star_cons h5) (plainArgs h6), rfl⟩
          | cons _ _ => simp [C.chk] at h
        | _ => simp [C.chk] at h
      | _ => simp [C.chk] at h
    refine ⟨fun h => (go _ h).1, fun h => ?_⟩
    obtain ⟨h1, h2⟩ := go _ h
    have q : C.denT Γ (.blt b es) = fT (C.den Γ (.blt b es)) := by simp only [C.den, C.denT]
    rw [q]
    exact t_val h1 (plain_test h2)
  | .mut m i es, ct, X, e, ok => by
    refine ⟨fun h => ?_, fun h => none_T⟩
    cases e with
    | Call fe l kw pos =>
      cases fe with
      | Attribute o nm apos =>
        cases o with
        | Name x p =>
          cases kw with
          | nil =>
            simp only [C.chk, Bool.and_eq_true, decide_eq_true_eq] at h
            obtain ⟨⟨⟨⟨⟨⟨h1, h2⟩, h3⟩, h4⟩, h5⟩, h6⟩, _⟩ := h
            obtain ⟨a, r, rfl, h7, h8⟩ := notStar_of_pos h6 h3
            obtain ⟨v1, v2, v3, v4⟩ := ok.isVar h1
            subst h2
            have hF := sndF es ct X _ ok h6
            have few := fewArgs (env := X.env) (pos := pos) (noStars h6) h4
            have q2 : C.den Γ (.mut m i es) = fMut i (opM m) (es.denF Γ) := by simp only [C.den]
            rw [q2]
            cases m with
            | append => exact e_mut PySem.F.slot_list_append PySem.F.type_list_append m_app v1 v2 v3 v4 hF few h5 (star_cons h7) (plainArgs h8)
            | insert => exact e_mut PySem.F.slot_list_insert PySem.F.type_list_insert m_ins v1 v2 v3 v4 hF few h5 (star_cons h7) (plainArgs h8)
          | cons _ _ => simp [C.chk] at h
        | _ => simp [C.chk] at h
      | _ => simp [C.chk] at h
    | _ => simp [C.chk] at h
  | .ix a b, ct, X, e, ok => by
    have go : ∀ t, C.chk Γ ct t (.ix a b) e = true → PE X e (tD X.K (C.den Γ (.ix a b))) ∧ plainT e = true := fun t h => by
      cases e with
      | Subscript x y pos =>
        simp only [C.chk, Bool.and_eq_true] at h
        obtain ⟨⟨h1, h2⟩, h3⟩ := h
        have q2 : C.den Γ (.ix a b) = f2 φIx (a.den Γ) (b.den Γ) := by simp only [C.den]
        rw [q2]
        exact ⟨e_ix o_ix ((snd a ct X x ok).1 h1) ((snd b ct X y ok).1 h2) (pix_ok h3), rfl⟩
      | _ => simp [C.chk] at h
    refine ⟨fun h => (go _ h).1, fun h => ?_⟩
    obtain ⟨h1, h2⟩ := go _ h
    have q : C.denT Γ (.ix a b) = fT (C.den Γ (.ix a b)) := by simp only [C.den, C.denT]
    rw [q]
    exact t_val h1 (plain_test h2)
  | .sl a lo hi, ct, X, e, ok => by
    refine ⟨fun h => ?_, fun h => none_T⟩
    cases e with
    | Subscript x y pos =>
      cases y with
      | Slice l u st p =>
        cases st with
        | none =>
          simp only [C.chk, Bool.and_eq_true] at h
          obtain ⟨⟨⟨h1, h2⟩, h3⟩, _⟩ := h
          exact e_sl ((snd a ct X x ok).1 h1) (sndP lo ct X l ok h2) (sndP hi ct X u ok h3)
        | some _ => simp [C.chk] at h
      | _ => simp [C.chk] at h
    | _ => simp [C.chk] at h
  | .lc own elt tg it ifs, ct, X, e, ok => by
    have go : ∀ t, C.chk Γ ct t (.lc own elt tg it ifs) e = true → PE X e (tD X.K (C.den Γ (.lc own elt tg it ifs))) ∧ plainT e = true := fun t h => by
      cases e with
      | ListComp el gs scope pos =>
        match gs with
        | [⟨t', i, fs, as⟩] =>
          simp only [C.chk, Bool.and_eq_true, decide_eq_true_eq] at h
          obtain ⟨⟨⟨⟨⟨⟨⟨has, h1⟩, h2⟩, h3⟩, h4⟩, h5⟩, h6⟩, h7⟩ := h
          subst has
          have q2 : C.den Γ (.lc own elt tg it ifs) = fLc (own.map (·.2)) (it.den Γ) tg.den (ifs.denT Γ) (elt.den Γ) := by simp only [C.den]
          rw [q2]
          refine ⟨e_lc (ws := tg.slots) ok.calm ok.nd (sndI it ct X t' i ok h2) (ok.blkOk h1) (fun j hj => of_decide_eq_true (List.all_eq_true.mp h5 j hj)) (fun s H Cc cl fp => ?_) (fun s H Cc cl fp => ?_) (fun s H Cc cl fp => ?_) (set_iter h3), rfl⟩
          · exact tg_ok (ok.blk h1 s H Cc cl fp) tg t' h4
          · exact sndQ ifs _ _ fs (ok.blk h1 s H Cc cl fp) h7
          · exact (snd elt _ _ el (ok.blk h1 s H Cc cl fp)).1 h6
        | [] => simp [C.chk] at h
        | _ :: _ :: _ => simp [C.chk] at h
      | _ => simp [C.chk] at h
    refine ⟨fun h => (go _ h).1, fun h => ?_⟩
    obtain ⟨h1, h2⟩ := go _ h
    have q : C.denT Γ (.lc own elt tg it ifs) = fT (C.den Γ (.lc own elt tg it ifs)) := by simp only [C.den, C.denT]
    rw [q]
    exact t_val h1 (plain_test h2)
  | .callL j i a, ct, X, e, ok => by
    refine ⟨fun h => ?_, fun h => none_T⟩
    obtain ⟨x, p, e1, y, yp, pos, rfl, h1, h2, h3, h4⟩ := inv_callL h
    obtain ⟨g, db, d, q⟩ := ok.isFn h1
    obtain ⟨k, f, fd, ps, F, hr, hm, hk, hb⟩ := ok.fns _ (List.mem_of_getElem? q)
    obtain ⟨v1, v2, v3, v4⟩ := ok.isVar h2
    have q2 : C.den Γ (.callL j i a) = fCallL d i (a.den Γ) := by simp only [C.den, q]
    rw [q2]
    exact e_callL F hr ok.gd g hm hk hb v1 v2 v3 v4 ((snd a ct X e1 ok).1 h4) (star_cons h3) db (plainArgs fun z hz => by rw [List.mem_singleton.mp hz]; rfl)
  | .lz a b, ct, X, e, ok => by
    refine ⟨fun h => ?_, fun h => none_T⟩
    obtain ⟨x, p, y, p2, e2, e3, pos2, pos, rfl, h1, rfl, h3, rfl, h5, h6, h7, h8⟩ := inv_lz h
    obtain ⟨g, m, _, _⟩ := ok.isBlt h1
    obtain ⟨g2, m2, _, _⟩ := ok.isBlt h3
    exact e_lz ok.calm g m g2 m2 ((snd a ct X e2 ok).1 h7) ((snd b ct X e3 ok).1 h8) (star_cons h5) (star_cons h6) (plainArgs fun y hy => by rw [List.mem_singleton.mp hy]; exact h6) (star_cons rfl)
  | .lr a, ct, X, e, ok => by
    refine ⟨fun h => ?_, fun h => none_T⟩
    obtain ⟨x, p, y, p2, e2, pos2, pos, rfl, h1, rfl, h3, rfl, h5, h6⟩ := inv_lr h
    obtain ⟨g, m, _, _⟩ := ok.isBlt h1
    obtain ⟨g2, m2, _, _⟩ := ok.isBlt h3
    exact e_lr1 ok.calm g m g2 m2 ((snd a ct X e2 ok).1 h6) (star_cons h5)
  | .tr a, ct, X, e, ok => by
    refine ⟨fun h => ?_, fun h => none_T⟩
    obtain ⟨x, p, y, p2, e2, pos2, pos, rfl, h1, rfl, h3, rfl, h5, h6⟩ := inv_tr h
    obtain ⟨g, m, _, _⟩ := ok.isBlt h1
    obtain ⟨g2, m2, _, _⟩ := ok.isBlt h3
    exact e_tr1 ok.calm g m g2 m2 ((snd a ct X e2 ok).1 h6) (star_cons h5)
  | .rep a b, ct, X, e, ok => by
    refine ⟨fun h => ?_, fun h => none_T⟩
    cases e with
    | BinOp x op y pos =>
      cases op with
      | Mult =>
        simp only [C.chk, Bool.and_eq_true] at h
        exact e_rep ((snd a ct X x ok).1 h.1.1) ((snd b ct X y ok).1 h.1.2)
      | _ => simp [C.chk] at h
    | _ => simp [C.chk] at h
  | .tupD ds, ct, X, e, ok => by
    refine ⟨fun h => ?_, fun h => none_T⟩
    cases e with
    | Tuple l k pos =>
      simp only [C.chk, Bool.and_eq_true] at h
      exact e_tup (sndD ds ct X l ok h.1)
    | _ => simp [C.chk] at h
  | .lstD ds, ct, X, e, ok => by
    refine ⟨fun h => ?_, fun h => none_T⟩
    cases e with
    | List l pos =>
      simp only [C.chk, Bool.and_eq_true] at h
      exact e_lst (sndD ds ct X l ok h.1)
    | _ => simp [C.chk] at h
  | .isi a t, ct, X, e, ok => by
    have go : ∀ tt, C.chk Γ ct tt (.isi a t) e = true → PE X e (tD X.K (f1 (φIsi t) (a.den Γ))) ∧ plainT e = true := fun tt h => by
      obtain ⟨x, p, y, p2, e2, pos, rfl, h1, h2, h3, h4, h5, h6⟩ := inv_isi h
      obtain ⟨g, m, _, _⟩ := ok.isBlt h1
      obtain ⟨g2, m2, _, _⟩ := ok.isBlt h4
      exact ⟨e_isi h2 g m g2 m2 h5 ((snd a ct X e2 ok).1 h6) (star_cons h3), rfl⟩
    exact ⟨fun h => (go _ h).1, fun h => t_val (go _ h).1 (plain_test (go _ h).2)⟩
  | .chn o1 o2 a b c, ct, X, e, ok => by
    refine ⟨fun h => ?_, fun h => ?_⟩
    · obtain ⟨x, op1, op2, y, z, pos, rfl, rfl, rfl, h3, h4, h5, h6⟩ := inv_chn h
      exact e_chn (opC_ok ok o1) (opC_ok ok o2) ((snd a ct X x ok).1 h3) ((snd b ct X y ok).1 h4) ((snd c ct X z ok).1 h5) h6
    · obtain ⟨x, op1, op2, y, z, pos, rfl, rfl, rfl, h3, h4, h5, h6⟩ := inv_chn h
      exact t_chn (opC_ok ok o1) (opC_ok ok o2) ((snd a ct X x ok).1 h3) ((snd b ct X y ok).1 h4) ((snd c ct X z ok).1 h5) h6 (opC_bool o2)
  | .ext i a, ct, X, e, ok => by
    refine ⟨fun h => ?_, fun h => none_T⟩
    obtain ⟨x, p, nm, apos, e2, pos, rfl, h1, rfl, h3, h4, h5⟩ := inv_ext h
    obtain ⟨v1, v2, v3, v4⟩ := ok.isVar h1
    exact e_ext v1 v2 v3 v4 ((snd a ct X e2 ok).1 h5) (star_cons h3) (fewArgs (l := [e2]) (env := X.env) (pos := pos) (fun y hy => by rw [List.mem_singleton.mp hy]; exact h3) (by simp)) h4
  | .lc2 own elt tg it ifs tg1 it1 ifs1, ct, X, e, ok => by
    refine ⟨fun h => ?_, fun h => none_T⟩
    obtain ⟨el, t', i, fs, t1', i1, fs1, scope, pos, rfl, h1, h2, h3, h3', h4, h4', h5, h5', h6, h7, h7', h8⟩ := inv_lc2 h
    have q2 : C.den Γ (.lc2 own elt tg it ifs tg1 it1 ifs1) = fLc2 (own.map (·.2)) tg1.slots (it.den Γ) tg.den (ifs.denT Γ) (it1.den Γ) tg1.den (ifs1.denT Γ) (elt.den Γ) := by simp only [C.den]
    rw [q2]
    refine e_lc2 (ws := tg.slots) ok.calm ok.nd (sndI it ct X t' i ok h2) (ok.blkOk h1) h5 h5' (fun s H Cc cl fp => ?_) (fun s H Cc cl fp => ?_) (fun s H Cc cl fp => ?_) (fun s H Cc cl fp => ?_) (fun s H Cc cl fp => ?_) (fun s H Cc cl fp => ?_) (set_iter h3) (fun _ => set_iter h3')
    · exact tg_ok (ok.blk h1 s H Cc cl fp) tg t' h4
    · exact sndQ ifs _ _ fs (ok.blk h1 s H Cc cl fp) h7
    · exact sndI it1 _ _ t1' i1 (ok.blk h1 s H Cc cl fp) h8
    · exact tg_ok (ok.blk h1 s H Cc cl fp) tg1 t1' h4'
    · exact sndQ ifs1 _ _ fs1 (ok.blk h1 s H Cc cl fp) h7'
    · exact (snd elt _ _ el (ok.blk h1 s H Cc cl fp)).1 h6
  | .pop i, ct, X, e, ok => by
    refine ⟨fun h => ?_, fun h => none_T⟩
    obtain ⟨x, p, apos, pos, rfl, h1, h4⟩ := inv_pop h
    obtain ⟨v1, v2, v3, v4⟩ := ok.isVar h1
    exact e_pop v1 v2 v3 v4 h4
  | .din neg a i, ct, X, e, ok => by
    refine ⟨fun h => ?_, fun h => ?_⟩
    · obtain ⟨x, y, p, pos, rfl, h1, h2, h3⟩ := inv_din h
      obtain ⟨v1, v2, v3, v4⟩ := ok.isVar h1
      have hu : X.A.units + 1 < cLine := by have := ok.un; omega
      cases neg with
      | false => exact e_din hu v1 v2 v3 v4 ((snd a ct X x ok).1 h2) h3
      | true => exact e_dnin hu v1 v2 v3 v4 ((snd a ct X x ok).1 h2) h3
    · obtain ⟨x, y, p, pos, rfl, h1, h2, h3⟩ := inv_din h
      obtain ⟨v1, v2, v3, v4⟩ := ok.isVar h1
      have hu : X.A.units + 1 < cLine := by have := ok.un; omega
      cases neg with
      | false => exact t_din hu v1 v2 v3 v4 ((snd a ct X x ok).1 h2) h3
      | true => exact t_dnin hu v1 v2 v3 v4 ((snd a ct X x ok).1 h2) h3
  | .dsort i, ct, X, e, ok => by
    refine ⟨fun h => ?_, fun h => none_T⟩
    obtain ⟨x, p, y, p2, pos, rfl, h1, rfl, h2⟩ := inv_dsort h
    obtain ⟨g, m, _, _⟩ := ok.isBlt h1
    obtain ⟨v1, v2, v3, v4⟩ := ok.isVar h2
    exact e_dsort ok.calm g m v1 v2 v3 v4
  | .dsel k1 k2 k3 v1 v2 v3 a, ct, X, e, ok => by
    refine ⟨fun h => ?_, fun h => none_T⟩
    obtain ⟨d, x, pos, rfl, h1, h2, h3⟩ := inv_dsel h
    obtain ⟨⟨j1, j2, j3, l1, l2, l3, p1, p2, p3, q1, q2, q3, dp, rfl⟩, n1, n2, n3⟩ := isD3_ok h1
    have hu : X.A.units + 1 < cLine := by have := ok.un; omega
    have q : C.den Γ (.dsel k1 k2 k3 v1 v2 v3 a) = fDsel k1 k2 k3 v1 v2 v3 (a.den Γ) := by simp only [C.den]
    rw [q]
    exact e_dsel hu n1 n2 n3 ((snd a ct X x ok).1 h2) (pix_nosl h3)
  | .dct0, ct, X, e, ok => by
    refine ⟨fun h => ?_, fun h => none_T⟩
    obtain ⟨pos, rfl⟩ := inv_dct0 h
    have q : C.den Γ .dct0 = fDct0 := by simp only [C.den]
    rw [q]
    exact e_dct0
  | .bits a, ct, X, e, ok => by
    refine ⟨fun h => ?_, fun h => none_T⟩
    obtain ⟨x, op, y, p, apos, pos, rfl, h1, h2⟩ := inv_bits h
    exact e_bits ((snd a ct X _ ok).1 h2) rfl h1
  | .tin neg a i, ct, X, e, ok => by
    refine ⟨fun h => ?_, fun h => ?_⟩
    · obtain ⟨x, y, p, pos, rfl, h1, h2, h3⟩ := inv_tin h
      obtain ⟨v1, v2, v3, v4⟩ := ok.isVar h1
      have hu : X.A.units + 1 < cLine := by have := ok.un; omega
      cases neg with
      | false => exact e_tin hu v1 v2 v3 v4 ((snd a ct X x ok).1 h2) h3
      | true => exact e_tnin hu v1 v2 v3 v4 ((snd a ct X x ok).1 h2) h3
    · obtain ⟨x, y, p, pos, rfl, h1, h2, h3⟩ := inv_tin h
      obtain ⟨v1, v2, v3, v4⟩ := ok.isVar h1
      have hu : X.A.units + 1 < cLine := by have := ok.un; omega
      cases neg with
      | false => exact t_tin hu v1 v2 v3 v4 ((snd a ct X x ok).1 h2) h3
      | true => exact t_tnin hu v1 v2 v3 v4 ((snd a ct X x ok).1 h2) h3
  | .tget a b i, ct, X, e, ok => by
    refine ⟨fun h => ?_, fun h => none_T⟩
    obtain ⟨x, p, apos, e1, e2, pos, rfl, h1, h2, h3, h4, h5, h6⟩ := inv_tget h
    obtain ⟨v1, v2, v3, v4⟩ := ok.isVar h1
    have hu : X.A.units + 1 < cLine := by have := ok.un; omega
    refine e_tget hu v1 v2 v3 v4 ((snd a ct X e1 ok).1 h5) ((snd b ct X e2 ok).1 h6) ⟨rfl, fewArgs (l := [e1, e2]) (env := X.env) (pos := pos) (fun y hy => ?_) (by simp), h4, by rw [star_cons h2, star_cons h3]; rfl⟩
    rcases List.mem_cons.mp hy with z | z
    · rw [z]; exact h2
    · rw [List.mem_singleton.mp z]; exact h3
  | .call2 j i l a b, ct, X, e, ok => by
    refine ⟨fun h => ?_, fun h => none_T⟩
    obtain ⟨x, p, y, yp, e1, e2, z, zp, pos, rfl, h1, h2, h3, h4, h5, h6, h7⟩ := inv_call2 h
    obtain ⟨g, db, d, hd⟩ := ok.isFn2 h1
    obtain ⟨v1, v2, v3, v4⟩ := ok.isVar h2
    obtain ⟨w1, w2, w3, w4⟩ := ok.isVar h3
    obtain ⟨k, f, fd, ps, F, hr, hm, hk, hb⟩ := ok.fns2 (x, d) (List.mem_of_getElem? hd)
    have q : C.den Γ (.call2 j i l a b) = fCall2 d i l (a.den Γ) (b.den Γ) := by simp only [C.den, hd]
    rw [q]
    refine e_call2 F hr ok.gd g hm hk hb v1 v2 v3 v4 w1 w2 w3 w4 ((snd a ct X e1 ok).1 h6) ((snd b ct X e2 ok).1 h7) (star_cons h4) (star_cons h5) db (plainArgs fun q hq => ?_)
    simp only [List.mem_cons, List.not_mem_nil, or_false] at hq
    rcases hq with rfl | rfl | rfl
    · exact h4
    · exact h5
    · rfl
  | .set3 own elt tg it tg1 it1 tg2 it2, ct, X, e, ok => by
    refine ⟨fun h => ?_, fun h => none_T⟩
    obtain ⟨p, el, t0, i0, t1, i1, t2, i2, scope, spos, pos, rfl, h1, h2, ⟨h3, h4, h5⟩, ⟨h6, h7, h8⟩, ⟨h9, h10, h11⟩, h12, h13, h14⟩ := inv_set3 h
    obtain ⟨g, m, _, _⟩ := ok.isBlt h1
    have q2 : C.den Γ (.set3 own elt tg it tg1 it1 tg2 it2) = fSet3 (own.map (·.2)) (tg1.slots ++ tg2.slots) tg2.slots (it.den Γ) tg.den (it1.den Γ) tg1.den (it2.den Γ) tg2.den (fV (elt.den Γ)) := by simp only [C.den]
    rw [q2]
    refine e_set3 (ws := tg.slots) (ws1 := tg1.slots) (ws2 := tg2.slots) g m ok.calm ok.nd (sndI it ct X t0 i0 ok h3) (ok.blkOk h2) h12 (fun j hj => List.mem_append_left _ hj) (fun j hj => hj) (fun j hj => List.mem_append_right _ hj) h13 (fun s H Cc cl fp => ?_) (fun s H Cc cl fp => ?_) (fun s H Cc cl fp => ?_) (fun s H Cc cl fp => ?_) (fun s H Cc cl fp => ?_) (fun s H Cc cl fp => ?_) (set_iter h6) (fun _ => set_iter h7) (fun _ => set_iter h8)
    · exact tg_ok (ok.blk h2 s H Cc cl fp) tg t0 h9
    · exact sndI it1 _ _ t1 i1 (ok.blk h2 s H Cc cl fp) h4
    · exact tg_ok (ok.blk h2 s H Cc cl fp) tg1 t1 h10
    · exact sndI it2 _ _ t2 i2 (ok.blk h2 s H Cc cl fp) h5
    · exact tg_ok (ok.blk h2 s H Cc cl fp) tg2 t2 h11
    · exact (snd elt _ _ el (ok.blk h2 s H Cc cl fp)).1 h14
  | .rev a, ct, X, e, ok => by
    refine ⟨fun h => ?_, fun h => none_T⟩
    obtain ⟨x, k, p1, p2, p3, pos, rfl, h1⟩ := inv_rev h
    exact e_rev ((snd a ct X x ok).1 h1)
termination_by structural c => c
theorem sndD : ∀ (ds : Cd) (ct : Ct) (X : Cx) (es : List Expr), OkX Γ ct X → ds.chkD Γ ct es = true → PA X es (tFs X.K (ds.denD Γ))
  | .nil, ct, X, [], ok, _ => fs_nil
  | .one c ds, ct, X, e :: es, ok, h => by
    simp only [Cd.chkD, Bool.and_eq_true] at h
    exact fs_cons (to_F ((snd c ct X e ok).1 h.1.2)) (sndD ds ct X es ok h.2) (star_cons h.1.1)
  | .star c ds, ct, X, e :: es, ok, h => by
    cases e with
    | Starred e2 p =>
      simp only [Cd.chkD, Bool.and_eq_true] at h
      exact fs_star (to_F ((snd c ct X e2 ok).1 h.1)) (sndD ds ct X es ok h.2) rfl
    | _ => simp [Cd.chkD] at h
  | .nil, _, _, _ :: _, _, h => (by simp [Cd.chkD] at h)
  | .one _ _, _, _, [], _, h => (by simp [Cd.chkD] at h)
  | .star _ _, _, _, [], _, h => (by simp [Cd.chkD] at h)
termination_by structural c => c
theorem sndF : ∀ (cs : Cs) (ct : Ct) (X : Cx) (es : List Expr), OkX Γ ct X → cs.chkF Γ ct es = true → PA X es (tFs X.K (cs.denF Γ))
  | .nil, ct, X, [], ok, _ => fs_nil
  | .cons c cs, ct, X, e :: es, ok, h => by
    simp only [Cs.chkF, Bool.and_eq_true] at h
    exact fs_cons (to_F ((snd c ct X e ok).1 h.1.2)) (sndF cs ct X es ok h.2) (star_cons h.1.1)
  | .nil, _, _, _ :: _, _, h => (by simp [Cs.chkF] at h)
  | .cons _ _, _, _, [], _, h => (by simp [Cs.chkF] at h)
termination_by structural c => c
theorem sndV : ∀ (cs : Cs) (ct : Ct) (X : Cx) (es : List Expr), OkX Γ ct X → cs.chkF Γ ct es = true → PA X es (tVs X.K (cs.denV Γ))
  | .nil, ct, X, [], ok, _ => vs_nil
  | .cons c cs, ct, X, e :: es, ok, h => by
    simp only [Cs.chkF, Bool.and_eq_true] at h
    exact vs_cons (to_V ((snd c ct X e ok).1 h.1.2)) (sndV cs ct X es ok h.2) (star_cons h.1.1)
  | .nil, _, _, _ :: _, _, h => (by simp [Cs.chkF] at h)
  | .cons _ _, _, _, [], _, h => (by simp [Cs.chkF] at h)
termination_by structural c => c
theorem sndA : ∀ (cs : Cs) (ct : Ct) (X : Cx) (es : List Expr) (pos : Pos), OkX Γ ct X → (cs.chkB Γ ct false es = true → PE X (.BoolOp .And es pos) (tD X.K (cs.denA Γ))) ∧ (cs.chkB Γ ct true es = true → PW X (.BoolOp .And es pos) (tT X.K (cs.denAT Γ)))
  | .nil, ct, X, es, pos, ok => ⟨fun h => (by simp [Cs.chkB] at h), fun h => (by simp [Cs.chkB] at h)⟩
  | .cons c .nil, ct, X, es, pos, ok => by
    match es with
    | [e] =>
      simp only [Cs.chkB, Cs.denA, Cs.denAT]
      exact ⟨fun h => pe_one ((snd c ct X e ok).1 h), fun h => pw_last ((snd c ct X e ok).2 h)⟩
    | [] => exact ⟨fun h => (by simp [Cs.chkB] at h), fun h => (by simp [Cs.chkB] at h)⟩
    | _ :: _ :: _ => exact ⟨fun h => (by simp [Cs.chkB] at h), fun h => (by simp [Cs.chkB] at h)⟩
  | .cons c (.cons c2 cs), ct, X, es, pos, ok => by
    match es with
    | e :: e2 :: es =>
      simp only [Cs.chkB, Bool.and_eq_true]
      have q := sndA (.cons c2 cs) ct X (e2 :: es) pos ok
      refine ⟨fun h => ?_, fun h => ?_⟩
      · exact e_and ((snd c ct X e ok).1 h.1) (q.1 h.2)
      · exact weakW (pw_and ((snd c ct X e ok).2 h.1) (q.2 h.2)) fun _ _ _ z => tt_and z
    | [] => exact ⟨fun h => (by simp [Cs.chkB] at h), fun h => (by simp [Cs.chkB] at h)⟩
    | [_] => exact ⟨fun h => (by simp [Cs.chkB] at h), fun h => (by simp [Cs.chkB] at h)⟩
termination_by structural c => c
theorem sndOr : ∀ (cs : Cs) (ct : Ct) (X : Cx) (es : List Expr) (pos : Pos), OkX Γ ct X → (cs.chkB Γ ct false es = true → PE X (.BoolOp .Or es pos) (tD X.K (cs.denO Γ))) ∧ (cs.chkB Γ ct true es = true → PW X (.BoolOp .Or es pos) (tT X.K (cs.denOT Γ)))
  | .nil, ct, X, es, pos, ok => ⟨fun h => (by simp [Cs.chkB] at h), fun h => (by simp [Cs.chkB] at h)⟩
  | .cons c .nil, ct, X, es, pos, ok => by
    match es with
    | [e] =>
      simp only [Cs.chkB, Cs.denO, Cs.denOT]
      exact ⟨fun h => pe_one ((snd c ct X e ok).1 h), fun h => pw_last ((snd c ct X e ok).2 h)⟩
    | [] => exact ⟨fun h => (by simp [Cs.chkB] at h), fun h => (by simp [Cs.chkB] at h)⟩
    | _ :: _ :: _ => exact ⟨fun h => (by simp [Cs.chkB] at h), fun h => (by simp [Cs.chkB] at h)⟩
  | .cons c (.cons c2 cs), ct, X, es, pos, ok => by
    match es with
    | e :: e2 :: es =>
      simp only [Cs.chkB, Bool.and_eq_true]
      have q := sndOr (.cons c2 cs) ct X (e2 :: es) pos ok
      refine ⟨fun h => ?_, fun h => ?_⟩
      · exact e_or ((snd c ct X e ok).1 h.1) (q.1 h.2)
      · exact weakW (pw_or ((snd c ct X e ok).2 h.1) (q.2 h.2)) fun _ _ _ z => tt_or z
    | [] => exact ⟨fun h => (by simp [Cs.chkB] at h), fun h => (by simp [Cs.chkB] at h)⟩
    | [_] => exact ⟨fun h => (by simp [Cs.chkB] at h), fun h => (by simp [Cs.chkB] at h)⟩
termination_by structural c => c
theorem sndP : ∀ (o : Co) (ct : Ct) (X : Cx) (e : Option Expr), OkX Γ ct X → o.chkP Γ ct e = true → PO X e (tPt X.K (fPt (o.den Γ)))
  | .no, ct, X, none, ok, _ => p_none
  | .so c, ct, X, some e, ok, h => p_some ((snd c ct X e ok).1 (by simpa only [Co.chkP] using h))
  | .no, _, _, some _, _, h => (by simp [Co.chkP] at h)
  | .so _, _, _, none, _, h => (by simp [Co.chkP] at h)
termination_by structural c => c
theorem sndQ : ∀ (o : Co) (ct : Ct) (X : Cx) (es : List Expr), OkX Γ ct X → o.chkI Γ ct es = true → PTs X es (tT X.K (o.denT Γ))
  | .no, ct, X, [], ok, _ => ⟨fun pins s σ H Q I ⟨G, ρ, b, ρ', R, q, k⟩ => pts_nil.run pins s σ H Q I (by
      cases q
      exact k G H R .refl)⟩
  | .so c, ct, X, [e], ok, h => pts_one ((snd c ct X e ok).2 (by simpa only [Co.chkI] using h))
  | .no, _, _, _ :: _, _, h => (by simp [Co.chkI] at h)
  | .so _, _, _, [], _, h => (by simp [Co.chkI] at h)
  | .so _, _, _, _ :: _ :: _, _, h => (by simp [Co.chkI] at h)
termination_by structural c => c
theorem sndI : ∀ (it : Ci) (ct : Ct) (X : Cx) (tg e : Expr), OkX Γ ct X → it.chk Γ ct tg e = true → PI X tg e (tItr X.K (it.den Γ))
  | .seq a, ct, X, tg, e, ok, h => i_seq ((snd a ct X e ok).1 (by simpa only [Ci.chk] using h))
  | .rng1 a, ct, X, tg, e, ok, h => by
    obtain ⟨x, p, e1, pos, rfl, h1, rfl, h3, h4⟩ := inv_rng1 h
    obtain ⟨g, m, _, _⟩ := ok.isBlt h1
    exact i_rng1 g m (vs_cons (to_V ((snd a ct X e1 ok).1 h4)) vs_nil (star_cons h3)) (star_cons h3) (fsCons_len fsNil_len)
  | .rng2 a b, ct, X, tg, e, ok, h => by
    obtain ⟨x, p, e1, e2, pos, rfl, h1, rfl, h3, h4, h5, h6⟩ := inv_rng2 h
    obtain ⟨g, m, _, _⟩ := ok.isBlt h1
    exact i_rng2 g m (vs_cons (to_V ((snd a ct X e1 ok).1 h5)) (vs_cons (to_V ((snd b ct X e2 ok).1 h6)) vs_nil (star_cons h4)) (star_cons h3)) ((star_cons h3).trans (by rw [star_cons h4]; rfl)) (star_cons h4) (fsCons_len (fsCons_len fsNil_len))
  | .enum a, ct, X, tg, e, ok, h => by
    obtain ⟨x, p, e1, pos, es, k, tp, rfl, h1, rfl, h3, h4, rfl⟩ := inv_enum h
    obtain ⟨g, m, _, _⟩ := ok.isBlt h1
    exact i_enum g m ((snd a ct X e1 ok).1 h4) (star_cons h3)
  | .zip a b, ct, X, tg, e, ok, h => by
    obtain ⟨x, p, e1, e2, pos, es, k, tp, rfl, h1, rfl, h3, h4, h5, h6, rfl⟩ := inv_zip h
    obtain ⟨g, m, _, _⟩ := ok.isBlt h1
    exact i_zip g m ((snd a ct X e1 ok).1 h5) ((snd b ct X e2 ok).1 h6) (star_cons h3) (star_cons h4) (plainArgs fun y hy => by rw [List.mem_singleton.mp hy]; exact h4)
  | .rngD a b c, ct, X, tg, e, ok, h => by
    obtain ⟨x, p, e1, e2, e3, pos, rfl, h1, rfl, h3, h4, h5, h6, h7, h8⟩ := inv_rngD h
    obtain ⟨g, m, _, _⟩ := ok.isBlt h1
    refine i_rngD g m (vs_cons (to_V ((snd a ct X e1 ok).1 h6)) (vs_cons (to_V ((snd b ct X e2 ok).1 h7)) (vs_cons (to_V ((snd c ct X e3 ok).1 h8)) vs_nil (star_cons h5)) (star_cons h4)) (star_cons h3)) (star_cons h3) (plainArgs fun y hy => ?_)
    rcases List.mem_cons.mp hy with z | z
    · rw [z]; exact h4
    · rw [List.mem_singleton.mp z]; exact h5
termination_by structural c => c
end
end
end Den


set_option autoImplicit false
set_option maxHeartbeats 4000000
namespace Den
open PySem PySem.Spec L2
section
variable {Γ : Gam} {ct : Ct} {X : Cx}
theorem block_fn {env : Env} (h : env.scope.kind = .function) : env.blockKind = .function := by
  unfold Env.blockKind
  rw [h]
  rfl
theorem swap_lc (ok : OkX Γ ct X) {elt : Expr} {gs : List Comprehension} {scope : Scope} {pos py : Pos} {y : Str} {l : Nat} :
    swapsWith (.ListComp elt gs scope pos) (some (.Name y py)) l X.env = pure (swapB ct y py (.ListComp elt gs scope pos)) := by
  have hb : X.env.blockKind = .function := block_fn (by rw [ok.sc]; exact ok.kd)
  have hk : X.env.kindOf y = ct.sc.names.lookup y := by
    show X.env.scope.names.lookup y = _
    rw [ok.sc]
  unfold swapsWith swapB
  simp only [hb, hk, Expr.pos]
  by_cases h : ct.sc.names.lookup y = some .local
  · simp [h]
  · have : (ct.sc.names.lookup y == some NameKind.local) = false := beq_eq_false_iff_ne.mpr h
    simp [h, this]
theorem sole_no {t e : Expr} {l : Nat} {env : Env} (h : noComp e = true) : swapsWithSole [t] e l env = pure false := by
  have q : swapsWith e (some t) l env = pure false := swaps_no h
  unfold swapsWithSole
  exact q
theorem sw2_ok (ok : OkX Γ ct X) {x y : Str} {px py pt pt2 : Pos} {kt k2 : Nat} {a b : Expr} (h : sw2B ct x y px py [a, b] = true) :
    swappedStores [.Tuple [.Name x px, .Name y py] kt pt] (.Tuple [a, b] k2 pt2) X.env = pure (some [x, y]) := by
  have hb : X.env.blockKind = .function := block_fn (by rw [ok.sc]; exact ok.kd)
  have hk : ∀ z, X.env.kindOf z = ct.sc.names.lookup z := fun z => by
    show X.env.scope.names.lookup z = _
    rw [ok.sc]
  unfold sw2B at h
  simp only [Bool.and_eq_true, decide_eq_true_eq, Bool.not_eq_true'] at h
  obtain ⟨⟨⟨⟨⟨⟨h1, h2⟩, h3⟩, h4⟩, h5⟩, h6⟩, h7⟩ := h
  have hst : ([a, b].any fun | .Starred .. => true | _ => false) = false := by
    rw [List.any_eq_false]
    intro e he
    have q := List.all_eq_true.mp h5 e he
    cases e <;> first | (cases q; done) | simp
  have h3' : (py.line == px.line) = true := by
    rw [beq_iff_eq] at h3 ⊢
    exact h3.symm
  have hne : (y == x) = false := beq_eq_false_iff_ne.mpr (Ne.symm h4)
  unfold swappedStores
  simp only [hb, hk, h1, h2, hst, h6, h7, List.length_cons, List.length_nil, List.head?_cons, Option.map_some, Option.getD_some, Expr.pos, List.filterMap_cons, List.filterMap_nil, h3', beq_self_eq_true, Bool.and_self, if_true]
  simp [List.eraseDups_cons, hne]
  have ha : notStar a = true := List.all_eq_true.mp h5 a (by simp)
  have hb2 : notStar b = true := List.all_eq_true.mp h5 b (by simp)
  intro z
  exfalso
  rcases z with z | z
  · cases a <;> first | (cases ha; done) | cases z
  · cases b <;> first | (cases hb2; done) | cases z
theorem sw3_ok (ok : OkX Γ ct X) {x y z : Str} {px py pz pt pt2 : Pos} {kt k2 : Nat} {a b c : Expr} (h : sw3B ct x y z px py pz [a, b, c] = true) :
    swappedStores [.Tuple [.Name x px, .Name y py, .Name z pz] kt pt] (.Tuple [a, b, c] k2 pt2) X.env = pure (some [x, y, z]) := by
  have hb : X.env.blockKind = .function := block_fn (by rw [ok.sc]; exact ok.kd)
  have hk : ∀ z, X.env.kindOf z = ct.sc.names.lookup z := fun z => by
    show X.env.scope.names.lookup z = _
    rw [ok.sc]
  unfold sw3B at h
  simp only [Bool.and_eq_true, decide_eq_true_eq, Bool.not_eq_true'] at h
  obtain ⟨⟨⟨⟨⟨⟨⟨h1, h2⟩, h1z⟩, h3, h3z⟩, ⟨h4, h4z⟩, h4y⟩, h5⟩, h6⟩, h7⟩ := h
  have hst : ([a, b, c].any fun | .Starred .. => true | _ => false) = false := by
    rw [List.any_eq_false]
    intro e he
    have q := List.all_eq_true.mp h5 e he
    cases e <;> first | (cases q; done) | simp
  have h3' : (py.line == px.line) = true := by
    rw [beq_iff_eq] at h3 ⊢
    exact h3.symm
  have h3'' : (pz.line == px.line) = true := by
    rw [beq_iff_eq] at h3z ⊢
    exact h3z.symm
  have hne : (y == x) = false := beq_eq_false_iff_ne.mpr (Ne.symm h4)
  have hne2 : (z == x) = false := beq_eq_false_iff_ne.mpr (Ne.symm h4z)
  have hne3 : (z == y) = false := beq_eq_false_iff_ne.mpr (Ne.symm h4y)
  unfold swappedStores
  simp only [hb, hk, h1, h2, h1z, hst, h6, h7, List.length_cons, List.length_nil, List.head?_cons, Option.map_some, Option.getD_some, Expr.pos, List.filterMap_cons, List.filterMap_nil, h3', h3'', beq_self_eq_true, Bool.and_self, if_true]
  simp [List.eraseDups_cons, hne, hne2, hne3]
  have ha : notStar a = true := List.all_eq_true.mp h5 a (by simp)
  have hb2 : notStar b = true := List.all_eq_true.mp h5 b (by simp)
  have hc2 : notStar c = true := List.all_eq_true.mp h5 c (by simp)
  intro z
  exfalso
  rcases z with z | z | z
  · cases a <;> first | (cases ha; done) | cases z
  · cases b <;> first | (cases hb2; done) | cases z
  · cases c <;> first | (cases hc2; done) | cases z
theorem one_ok (ok : OkX Γ ct X) {tg e : Expr} (h : asOne ct tg e = true) : swappedStores [tg] e X.env = pure none := by
  have hk : ∀ z, X.env.kindOf z = ct.sc.names.lookup z := fun z => by
    show X.env.scope.names.lookup z = _
    rw [ok.sc]
  unfold asOne at h
  rw [Bool.or_eq_true] at h
  rcases h with h | h
  · exact swap_none h
  · split at h
    · rename_i ts kt pt vs k2 pt2
      rw [Bool.or_eq_true, Bool.or_eq_true] at h
      unfold swappedStores
      rcases h with (h | h) | h
      · simp only [Bool.not_eq_true'] at h
        simp [h]
      · rw [List.any_eq_true] at h
        obtain ⟨t, ht, hn⟩ := h
        simp
        intro _ _ _ _ hall
        refine absurd ?_ (hall t ht)
        cases t with
        | Name x p =>
          have hn2 : ct.sc.names.lookup x ≠ some .local := by
            intro z
            simp [locName, z] at hn
          exact if_neg fun z => hn2 (by rw [← hk]; exact z.1)
        | _ => rfl
      · simp only [h, if_true]
        repeat (first | rfl | split)
    · cases h
theorem lc_parts {own : List (Str × Nat)} {elt : C} {tg : Tg} {it : Ci} {ifs : Co} {t : Bool} {el : Expr} {gs : List Comprehension} {scope : Scope} {pos : Pos} (h : C.chk Γ ct t (.lc own elt tg it ifs) (.ListComp el gs scope pos) = true) :
    ∃ t' i fs, gs = [⟨t', i, fs, 0⟩] ∧ blkC ct.N ct.sc scope own = true ∧ it.chk Γ ct t' i = true ∧ noSet i = true ∧ tg.chk (blkCt ct scope) t' = true ∧ (∀ j ∈ tg.slots, j ∈ own.map (·.2)) ∧ elt.chk Γ (blkCt ct scope) false el = true ∧ ifs.chkI Γ (blkCt ct scope) fs = true := by
  match gs with
  | [⟨t', i, fs, as⟩] =>
    simp only [C.chk, Bool.and_eq_true, decide_eq_true_eq] at h
    obtain ⟨⟨⟨⟨⟨⟨⟨has, h1⟩, h2⟩, h3⟩, h4⟩, h5⟩, h6⟩, h7⟩ := h
    subst has
    exact ⟨t', i, fs, rfl, h1, h2, h3, h4, fun j hj => of_decide_eq_true (List.all_eq_true.mp h5 j hj), h6, h7⟩
  | [] => simp [C.chk, isDct0] at h
  | _ :: _ :: _ => simp [C.chk, isDct0] at h
theorem set_snd (ok : OkX Γ ct X) {i : Nat} {c : C} {x : Str} {px pos : Pos} {e : Expr} (hi : ct.N[i]? = some x) (hs : sto ct x = true) (hc : c.chk Γ ct false e = true) (he : noComp e = true ∨ ∃ el gs scope p, e = .ListComp el gs scope p) :
    PS X (.Assign [.Name x px] e pos) (tS X.K (fSet i (c.den Γ))) := by
  have hi' : X.N[i]? = some x := by rw [ok.N]; exact hi
  obtain ⟨a, b⟩ := ok.sto hs
  have pe := (snd c ct X e ok).1 hc
  rcases he with he | ⟨el, gs, scope, p, rfl⟩
  · exact s_set ok.nd hi' a pe (swaps_no he) b
  · have sw := swap_lc (l := pos.line) ok (elt := el) (gs := gs) (scope := scope) (pos := p) (py := px) (y := x)
    cases hsw : swapB ct x px (.ListComp el gs scope p) with
    | false =>
      rw [hsw] at sw
      exact s_set ok.nd hi' a pe sw b
    | true =>
      rw [hsw] at sw
      cases c with
      | lc own elt tg it ifs =>
        obtain ⟨t', i2, fs, rfl, h1, h2, h3, h4, h5, h6, h7⟩ := lc_parts hc
        have hl : X.env.scope.names.lookup x = some .local := by
          unfold swapB at hsw
          simp only [Bool.and_eq_true, decide_eq_true_eq] at hsw
          rw [ok.sc]
          exact hsw.1.1
        have q2 : C.den Γ (.lc own elt tg it ifs) = fLc (own.map (·.2)) (it.den Γ) tg.den (ifs.denT Γ) (elt.den Γ) := by simp only [C.den]
        rw [q2]
        refine s_setLc (ws := tg.slots) ok.calm ok.nd hi' hl sw (sndI it ct X t' i2 ok h2) (ok.blkOk h1) h5 (fun s H Cc cl fp => ?_) (fun s H Cc cl fp => ?_) (fun s H Cc cl fp => ?_) (set_iter h3)
        · exact tg_ok (ok.blk h1 s H Cc cl fp) tg t' h4
        · exact sndQ ifs _ _ fs (ok.blk h1 s H Cc cl fp) h7
        · exact (snd elt _ _ el (ok.blk h1 s H Cc cl fp)).1 h6
      | lc2 own elt tg it ifs tg1 it1 ifs1 =>
        obtain ⟨el2, t', i2, fs, t1', i1, fs1, scope2, pos2, he, h1, h2, h3, h3', h4, h4', h5, h5', h6, h7, h7', h8⟩ := inv_lc2 hc
        cases he
        have hl : X.env.scope.names.lookup x = some .local := by
          unfold swapB at hsw
          simp only [Bool.and_eq_true, decide_eq_true_eq] at hsw
          rw [ok.sc]
          exact hsw.1.1
        have q2 : C.den Γ (.lc2 own elt tg it ifs tg1 it1 ifs1) = fLc2 (own.map (·.2)) tg1.slots (it.den Γ) tg.den (ifs.denT Γ) (it1.den Γ) tg1.den (ifs1.denT Γ) (elt.den Γ) := by simp only [C.den]
        rw [q2]
        refine s_setLc2 (ws := tg.slots) ok.calm ok.nd hi' hl sw (sndI it ct X t' i2 ok h2) (ok.blkOk h1) h5 h5' (fun s H Cc cl fp => ?_) (fun s H Cc cl fp => ?_) (fun s H Cc cl fp => ?_) (fun s H Cc cl fp => ?_) (fun s H Cc cl fp => ?_) (fun s H Cc cl fp => ?_) (set_iter h3) (fun _ => set_iter h3')
        · exact tg_ok (ok.blk h1 s H Cc cl fp) tg t' h4
        · exact sndQ ifs _ _ fs (ok.blk h1 s H Cc cl fp) h7
        · exact sndI it1 _ _ t1' i1 (ok.blk h1 s H Cc cl fp) h8
        · exact tg_ok (ok.blk h1 s H Cc cl fp) tg1 t1' h4'
        · exact sndQ ifs1 _ _ fs1 (ok.blk h1 s H Cc cl fp) h7'
        · exact (snd elt _ _ _ (ok.blk h1 s H Cc cl fp)).1 h6
      | _ => simp [C.chk, isDct0] at hc
theorem inv_set {i : Nat} {c : C} {st : Stmt} (h : S.chk Γ ct (.set i c) st = true) : ∃ x px e pos, st = .Assign [.Name x px] e pos ∧ ct.N[i]? = some x ∧ sto ct x = true ∧ c.chk Γ ct false e = true ∧ (noComp e = true ∨ ∃ el gs scope p, e = .ListComp el gs scope p) := by
  unfold S.chk at h
  split at h <;> first
    | (cases h; done)
    | (simp only [Bool.and_eq_true, decide_eq_true_eq, Bool.or_eq_true] at h
       rename_i i2 c2 x px e pos q
       cases q
       refine ⟨x, px, e, pos, rfl, h.1.1.1, h.1.1.2, h.1.2, ?_⟩
       rcases h.2 with z | z
       · exact .inl z
       · right
         cases e <;> first | exact ⟨_, _, _, _, rfl⟩ | cases z)
    | (rename_i q _; cases q; done)
    | (rename_i q; cases q; done)
theorem inv_asg {t : Tg} {c : C} {st : Stmt} (h : S.chk Γ ct (.asg t c) st = true) : ∃ tg e pos, st = .Assign [tg] e pos ∧ t.chk ct tg = true ∧ c.chk Γ ct false e = true ∧ noComp e = true ∧ asOne ct tg e = true ∧ isTupE tg = true := by
  unfold S.chk at h
  split at h <;> first
    | (cases h; done)
    | (simp only [Bool.and_eq_true, decide_eq_true_eq] at h
       rename_i t2 c2 tg e pos q
       cases q
       exact ⟨tg, e, pos, rfl, h.1.1.1.1, h.1.1.1.2, h.1.1.2, h.1.2, h.2⟩)
    | (rename_i q _; cases q; done)
    | (rename_i q; cases q; done)
theorem inv_par {i j : Nat} {a b : C} {st : Stmt} (h : S.chk Γ ct (.par i j a b) st = true) : ∃ x px y py kt pt e1 e2 k2 pt2 pos, st = .Assign [.Tuple [.Name x px, .Name y py] kt pt] (.Tuple [e1, e2] k2 pt2) pos ∧ ct.N[i]? = some x ∧ ct.N[j]? = some y ∧ i ≠ j ∧ sw2B ct x y px py [e1, e2] = true ∧
    a.chk Γ ct false e1 = true ∧ b.chk Γ ct false e2 = true ∧ notStar e1 = true ∧ notStar e2 = true := by
  unfold S.chk at h
  split at h <;> first
    | (cases h; done)
    | (simp only [Bool.and_eq_true, decide_eq_true_eq] at h
       rename_i i2 j2 a2 b2 x px y py kt pt e1 e2 k2 pt2 pos q
       cases q
       exact ⟨x, px, y, py, kt, pt, e1, e2, k2, pt2, pos, rfl, h.1.1.1.1.1.1.1, h.1.1.1.1.1.1.2, h.1.1.1.1.1.2, h.1.1.1.1.2, h.1.1.1.2, h.1.1.2, h.1.2, h.2⟩)
    | (rename_i q _; cases q; done)
    | (rename_i q; cases q; done)
theorem inv_par3 {i j l : Nat} {a b c : C} {st : Stmt} (h : S.chk Γ ct (.par3 i j l a b c) st = true) : ∃ x px y py z pz kt pt e1 e2 e3 k2 pt2 pos, st = .Assign [.Tuple [.Name x px, .Name y py, .Name z pz] kt pt] (.Tuple [e1, e2, e3] k2 pt2) pos ∧
    (ct.N[i]? = some x ∧ ct.N[j]? = some y ∧ ct.N[l]? = some z) ∧ (i ≠ j ∧ i ≠ l ∧ j ≠ l) ∧ sw3B ct x y z px py pz [e1, e2, e3] = true ∧ (a.chk Γ ct false e1 = true ∧ b.chk Γ ct false e2 = true ∧ c.chk Γ ct false e3 = true) ∧ notStar e1 = true ∧ notStar e2 = true ∧ notStar e3 = true := by
  unfold S.chk at h
  split at h <;> first
    | (cases h; done)
    | (simp only [Bool.and_eq_true, decide_eq_true_eq] at h
       rename_i i2 j2 l2 a2 b2 c2 x px y py z pz kt pt e1 e2 e3 k2 pt2 pos q
       cases q
       obtain ⟨⟨⟨⟨⟨⟨n1, n2⟩, n3⟩, ⟨m1, m2⟩, m3⟩, w⟩, ⟨c1, c2⟩, c3⟩, ⟨s1, s2⟩, s3⟩ := h
       exact ⟨x, px, y, py, z, pz, kt, pt, e1, e2, e3, k2, pt2, pos, rfl, ⟨n1, n2, n3⟩, ⟨m1, m2, m3⟩, w, ⟨c1, c2, c3⟩, s1, s2, s3⟩)
    | (rename_i q _; cases q; done)
    | (rename_i q; cases q; done)
theorem inv_setIx {i : Nat} {x c : C} {st : Stmt} (h : S.chk Γ ct (.setIx i x c) st = true) : ∃ y yp ix sp e pos, st = .Assign [.Subscript (.Name y yp) ix sp] e pos ∧ isVar ct i y = true ∧ pix ix = true ∧ x.chk Γ ct false ix = true ∧ c.chk Γ ct false e = true ∧ noComp e = true := by
  unfold S.chk at h
  split at h <;> first
    | (cases h; done)
    | (simp only [Bool.and_eq_true, decide_eq_true_eq] at h
       rename_i i2 x2 c2 y yp ix sp e pos q
       cases q
       exact ⟨y, yp, ix, sp, e, pos, rfl, h.1.1.1.1, h.1.1.1.2, h.1.1.2, h.1.2, h.2⟩)
    | (rename_i q _; cases q; done)
    | (rename_i q; cases q; done)
theorem inv_dput {i : Nat} {x c : C} {st : Stmt} (h : S.chk Γ ct (.dput i x c) st = true) : ∃ y yp ix sp e pos, st = .Assign [.Subscript (.Name y yp) ix sp] e pos ∧ isVar ct i y = true ∧ x.chk Γ ct false ix = true ∧ c.chk Γ ct false e = true ∧ noComp e = true := by
  unfold S.chk at h
  split at h <;> first
    | (cases h; done)
    | (simp only [Bool.and_eq_true, decide_eq_true_eq] at h
       rename_i i2 x2 c2 y yp ix sp e pos q
       cases q
       exact ⟨y, yp, ix, sp, e, pos, rfl, h.1.1.1, h.1.1.2, h.1.2, h.2⟩)
    | (rename_i q _; cases q; done)
    | (rename_i q; cases q; done)
theorem sw_sole {tg e : Expr} {l : Nat} {env : Env} (h : noComp e = true) : swapsWithSole [tg] e l env = pure false := swaps_no h
theorem inv_tput {i : Nat} {x c : C} {st : Stmt} (h : S.chk Γ ct (.tput i x c) st = true) : ∃ y yp ix sp e pos, st = .Assign [.Subscript (.Name y yp) ix sp] e pos ∧ isVar ct i y = true ∧ x.chk Γ ct false ix = true ∧ c.chk Γ ct false e = true ∧ noComp e = true := by
  unfold S.chk at h
  split at h <;> first
    | (cases h; done)
    | (simp only [Bool.and_eq_true, decide_eq_true_eq] at h
       rename_i i2 x2 c2 y yp ix sp e pos q
       cases q
       exact ⟨y, yp, ix, sp, e, pos, rfl, h.1.1.1, h.1.1.2, h.1.2, h.2⟩)
    | (rename_i q _; cases q; done)
    | (rename_i q; cases q; done)
theorem inv_tnewS {j l : Nat} {t : Tg} {c b k v : C} {st : Stmt} (h : S.chk Γ ct (.tnewS j l t c b k v) st = true) : ∃ es ket pe y py z pz kt pt ec eb ek ev dp k2 pt2 pos, st = .Assign [.Tuple [.Tuple es ket pe, .Name y py, .Name z pz] kt pt] (.Tuple [ec, eb, .Dict [some ek] [ev] dp] k2 pt2) pos ∧ (ct.N[j]? = some y ∧ ct.N[l]? = some z) ∧ (sto ct y = true ∧ sto ct z = true) ∧ t.chk ct (.Tuple es ket pe) = true ∧ (notStar ec = true ∧ notStar eb = true) ∧ (c.chk Γ ct false ec = true ∧ b.chk Γ ct false eb = true ∧ k.chk Γ ct false ek = true ∧ v.chk Γ ct false ev = true) ∧
    asOne ct (.Tuple [.Tuple es ket pe, .Name y py, .Name z pz] kt pt) (.Tuple [ec, eb, .Dict [some ek] [ev] dp] k2 pt2) = true := by
  have q : ∃ tg e pos, st = .Assign [tg] e pos ∧ chkNewS Γ ct j l t c b k v tg e = true := by
    unfold S.chk at h
    split at h <;> first
      | (cases h; done)
      | (rename_i j2 l2 t2 c2 b2 k2 v2 tg e pos q; cases q; exact ⟨tg, e, pos, rfl, h⟩)
      | (rename_i q _; cases q; done)
      | (rename_i q; cases q; done)
  obtain ⟨tg, e, pos, rfl, h2⟩ := q
  clear h
  unfold chkNewS at h2
  split at h2
  · simp only [Bool.and_eq_true, decide_eq_true_eq] at h2
    obtain ⟨⟨⟨⟨⟨⟨a1, a2⟩, ⟨b1, b2⟩⟩, g⟩, ⟨c1, c2⟩⟩, ⟨⟨⟨d1, d2⟩, d3⟩, d4⟩⟩, f⟩ := h2
    exact ⟨_, _, _, _, _, _, _, _, _, _, _, _, _, _, _, _, _, rfl, ⟨a1, a2⟩, ⟨b1, b2⟩, g, ⟨c1, c2⟩, ⟨d1, d2, d3, d4⟩, f⟩
  · cases h2
theorem inv_tnew3 {i j l : Nat} {b c : C} {st : Stmt} (h : S.chk Γ ct (.tnew3 i j l b c) st = true) : ∃ x px y py z pz kt pt dp e2 e3 k2 pt2 pos, st = .Assign [.Tuple [.Name x px, .Name y py, .Name z pz] kt pt] (.Tuple [.Dict [] [] dp, e2, e3] k2 pt2) pos ∧ (ct.N[i]? = some x ∧ ct.N[j]? = some y ∧ ct.N[l]? = some z) ∧ (sto ct x = true ∧ sto ct y = true ∧ sto ct z = true) ∧ (notStar e2 = true ∧ notStar e3 = true) ∧ (b.chk Γ ct false e2 = true ∧ c.chk Γ ct false e3 = true) ∧
    asOne ct (.Tuple [.Name x px, .Name y py, .Name z pz] kt pt) (.Tuple [.Dict [] [] dp, e2, e3] k2 pt2) = true := by
  unfold S.chk at h
  split at h <;> first
    | (cases h; done)
    | (simp only [Bool.and_eq_true, decide_eq_true_eq] at h
       rename_i i2 j2 l2 b2 c2 x px y py z pz kt pt dp e2 e3 k2 pt2 pos q
       cases q
       obtain ⟨⟨⟨⟨⟨⟨a1, a2⟩, a3⟩, ⟨⟨b1, b2⟩, b3⟩⟩, ⟨c1, c2⟩⟩, ⟨d1, d2⟩⟩, f⟩ := h
       exact ⟨x, px, y, py, z, pz, kt, pt, dp, e2, e3, k2, pt2, pos, rfl, ⟨a1, a2, a3⟩, ⟨b1, b2, b3⟩, ⟨c1, c2⟩, ⟨d1, d2⟩, f⟩)
    | (rename_i q _; cases q; done)
    | (rename_i q; cases q; done)
theorem inv_par2 {i j : Nat} {b c : C} {st : Stmt} (h : S.chk Γ ct (.par2 i j b c) st = true) : ∃ x px y py kt pt e2 e3 k2 pt2 pos, st = .Assign [.Tuple [.Name x px, .Name y py] kt pt] (.Tuple [e2, e3] k2 pt2) pos ∧ (ct.N[i]? = some x ∧ ct.N[j]? = some y) ∧ (sto ct x = true ∧ sto ct y = true) ∧ (notStar e2 = true ∧ notStar e3 = true) ∧ (b.chk Γ ct false e2 = true ∧ c.chk Γ ct false e3 = true) ∧
    asOne ct (.Tuple [.Name x px, .Name y py] kt pt) (.Tuple [e2, e3] k2 pt2) = true := by
  unfold S.chk at h
  split at h <;> first
    | (cases h; done)
    | (simp only [Bool.and_eq_true, decide_eq_true_eq] at h
       rename_i i2 j2 b2 c2 x px y py kt pt e2 e3 k2 pt2 pos q
       cases q
       obtain ⟨⟨⟨⟨⟨a1, a2⟩, ⟨b1, b2⟩⟩, ⟨c1, c2⟩⟩, ⟨d1, d2⟩⟩, f⟩ := h
       exact ⟨x, px, y, py, kt, pt, e2, e3, k2, pt2, pos, rfl, ⟨a1, a2⟩, ⟨b1, b2⟩, ⟨c1, c2⟩, ⟨d1, d2⟩, f⟩)
    | (rename_i q _; cases q; done)
    | (rename_i q; cases q; done)
theorem inv_dnew1 {i : Nat} {x c : C} {st : Stmt} (h : S.chk Γ ct (.dnew1 i x c) st = true) : ∃ y yp k e dp pos, st = .Assign [.Name y yp] (.Dict [some k] [e] dp) pos ∧ ct.N[i]? = some y ∧ sto ct y = true ∧ x.chk Γ ct false k = true ∧ c.chk Γ ct false e = true := by
  unfold S.chk at h
  split at h <;> first
    | (cases h; done)
    | (simp only [Bool.and_eq_true, decide_eq_true_eq] at h
       rename_i i2 x2 c2 y yp k e dp pos q
       cases q
       exact ⟨y, yp, k, e, dp, pos, rfl, h.1.1.1, h.1.1.2, h.1.2, h.2⟩)
    | (rename_i q _; cases q; done)
    | (rename_i q; cases q; done)
theorem inv_augIx {i : Nat} {x c : C} {st : Stmt} (h : S.chk Γ ct (.augIx i x c) st = true) : ∃ y yp ix sp e pos, st = .AugAssign (.Subscript (.Name y yp) ix sp) .Add e pos ∧ isVar ct i y = true ∧ pix ix = true ∧ x.chk Γ ct false ix = true ∧ c.chk Γ ct false e = true := by
  unfold S.chk at h
  split at h <;> first
    | (cases h; done)
    | (simp only [Bool.and_eq_true, decide_eq_true_eq] at h
       rename_i i2 x2 c2 y yp ix sp e pos q
       cases q
       exact ⟨y, yp, ix, sp, e, pos, rfl, h.1.1.1, h.1.1.2, h.1.2, h.2⟩)
    | (rename_i q _; cases q; done)
    | (rename_i q; cases q; done)
theorem inv_aug {i : Nat} {b : Bool} {c : C} {st : Stmt} (h : S.chk Γ ct (.aug i b c) st = true) : ∃ y yp e pos, st = .AugAssign (.Name y yp) (if b then .Sub else .Add) e pos ∧ ct.N[i]? = some y ∧ sto ct y = true ∧ c.chk Γ ct false e = true := by
  unfold S.chk at h
  split at h <;> first
    | (cases h; done)
    | (simp only [Bool.and_eq_true, decide_eq_true_eq] at h
       rename_i i2 c2 y yp e pos q
       cases q
       exact ⟨y, yp, e, pos, rfl, h.1.1, h.1.2, h.2⟩)
    | (rename_i q _; cases q; done)
    | (rename_i q; cases q; done)
theorem inv_fors {t : Tg} {it : Ci} {b : Ss} {st : Stmt} (h : S.chk Γ ct (.fors t it b) st = true) : ∃ tg i body pos, st = .For tg i body [] pos ∧ t.chk ct tg = true ∧ it.chk Γ ct tg i = true ∧ noSet i = true ∧ b.chk Γ ct body = true := by
  unfold S.chk at h
  split at h <;> first
    | (cases h; done)
    | (simp only [Bool.and_eq_true, decide_eq_true_eq] at h
       rename_i t2 it2 b2 tg i body pos q
       cases q
       exact ⟨tg, i, body, pos, rfl, h.1.1.1, h.1.1.2, h.1.2, h.2⟩)
    | (rename_i q _; cases q; done)
    | (rename_i q; cases q; done)
theorem inv_whl {c : C} {b : Ss} {st : Stmt} (h : S.chk Γ ct (.whl c b) st = true) : ∃ e body pos, st = .While e body [] pos ∧ c.chk Γ ct true e = true ∧ b.chk Γ ct body = true := by
  unfold S.chk at h
  split at h <;> first
    | (cases h; done)
    | (simp only [Bool.and_eq_true, decide_eq_true_eq] at h
       rename_i c2 b2 e body pos q
       cases q
       exact ⟨e, body, pos, rfl, h.1, h.2⟩)
    | (rename_i q _; cases q; done)
    | (rename_i q; cases q; done)
mutual
theorem sndS : ∀ (s : S) (st : Stmt), OkX Γ ct X → s.chk Γ ct st = true → PS X st (tS X.K (s.den Γ))
  | .set i c, st, ok, h => by
    obtain ⟨x, px, e, pos, rfl, h1, h2, h3, h4⟩ := inv_set h
    exact set_snd ok h1 h2 h3 h4
  | .asg t c, st, ok, h => by
    obtain ⟨tg, e, pos, rfl, h1, h2, h3, h4, h5⟩ := inv_asg h
    refine s_asg ((snd c ct X e ok).1 h2) (tg_ok ok t tg h1) (swaps_no h3) (one_ok ok h4) ?_
    exact asg_cons (es := []) (by cases tg <;> first | rfl | cases h5)
  | .par i j a b, st, ok, h => by
    obtain ⟨x, px, y, py, kt, pt, e1, e2, k2, pt2, pos, rfl, h1, h2, h3, h4, h5, h6, h7, h8⟩ := inv_par h
    have q := h4
    unfold sw2B at q
    simp only [Bool.and_eq_true, decide_eq_true_eq] at q
    exact s_par ok.calm ok.nd (by rw [ok.N]; exact h1) (by rw [ok.N]; exact h2) h3 (by rw [ok.sc]; exact q.1.1.1.1.1.1) (by rw [ok.sc]; exact q.1.1.1.1.1.2) ((snd a ct X e1 ok).1 h5) ((snd b ct X e2 ok).1 h6) (star_cons h7) (star_cons h8) (sw2_ok ok h4)
  | .par3 i j l a b c, st, ok, h => by
    obtain ⟨x, px, y, py, z, pz, kt, pt, e1, e2, e3, k2, pt2, pos, rfl, ⟨n1, n2, n3⟩, ⟨m1, m2, m3⟩, w, ⟨c1, c2, c3⟩, s1, s2, s3⟩ := inv_par3 h
    have q := w
    unfold sw3B at q
    simp only [Bool.and_eq_true, decide_eq_true_eq] at q
    obtain ⟨⟨⟨⟨⟨⟨q1, q2⟩, q3⟩, _⟩, _⟩, _⟩, _⟩ := q
    exact s_par3 ok.calm ok.nd (by rw [ok.N]; exact n1) (by rw [ok.N]; exact n2) (by rw [ok.N]; exact n3) m1 m2 m3 (by rw [ok.sc]; exact q1.1) (by rw [ok.sc]; exact q1.2) (by rw [ok.sc]; exact q2) ((snd a ct X e1 ok).1 c1) ((snd b ct X e2 ok).1 c2) ((snd c ct X e3 ok).1 c3) (star_cons s1) (star_cons s2) (star_cons s3) (sw3_ok ok w)
  | .setIx i x c, st, ok, h => by
    obtain ⟨y, yp, ix, sp, e, pos, rfl, h1, h2, h3, h4, h5⟩ := inv_setIx h
    obtain ⟨a1, a2, a3, a4⟩ := ok.isVar h1
    exact s_setIx a1 a2 a3 a4 ((snd x ct X ix ok).1 h3) ((snd c ct X e ok).1 h4) (sto_ix h2) (sole_no h5) swap_none2 rfl
  | .dput i x c, st, ok, h => by
    obtain ⟨y, yp, ix, sp, e, pos, rfl, h1, h3, h4, h5⟩ := inv_dput h
    obtain ⟨a1, a2, a3, a4⟩ := ok.isVar h1
    exact s_dput (by have := ok.un; omega) a1 a2 a3 a4 ((snd x ct X ix ok).1 h3) ((snd c ct X e ok).1 h4) (swaps_no h5)
  | .tput i x c, st, ok, h => by
    obtain ⟨y, yp, ix, sp, e, pos, rfl, h1, h3, h4, h5⟩ := inv_tput h
    obtain ⟨a1, a2, a3, a4⟩ := ok.isVar h1
    exact s_tput (by have := ok.un; omega) a1 a2 a3 a4 ((snd x ct X ix ok).1 h3) ((snd c ct X e ok).1 h4) (swaps_no h5)
  | .tnewS j l t c b k v, st, ok, h => by
    obtain ⟨es, ket, pe, y, py, z, pz, kt, pt, ec, eb, ek, ev, dp, k2, pt2, pos, rfl, ⟨a1, a2⟩, ⟨b1, b2⟩, g, ⟨c1, c2⟩, ⟨d1, d2, d3, d4⟩, f⟩ := inv_tnewS h
    obtain ⟨y1, y2⟩ := ok.sto b1
    obtain ⟨z1, z2⟩ := ok.sto b2
    have hu : X.A.units + 1 < cLine := by have := ok.un; omega
    have q : S.den Γ (.tnewS j l t c b k v) = fTnewS j l t.den (c.den Γ) (b.den Γ) (k.den Γ) (v.den Γ) := by simp only [S.den]
    rw [q]
    exact s_tnewS hu ok.calm ok.nd (by rw [ok.N]; exact a1) (by rw [ok.N]; exact a2) y1 y2 z1 z2 (tg_ok ok t _ g) ((snd c ct X ec ok).1 d1) ((snd b ct X eb ok).1 d2) ((snd k ct X ek ok).1 d3) ((snd v ct X ev ok).1 d4) (star_cons c1) (star_cons c2) (one_ok ok f) (sw_sole rfl)
  | .tnew3 i j l b c, st, ok, h => by
    obtain ⟨x, px, y, py, z, pz, kt, pt, dp, e2, e3, k2, pt2, pos, rfl, ⟨a1, a2, a3⟩, ⟨b1, b2, b3⟩, ⟨c1, c2⟩, ⟨d1, d2⟩, f⟩ := inv_tnew3 h
    obtain ⟨x1, x2⟩ := ok.sto b1
    obtain ⟨y1, y2⟩ := ok.sto b2
    obtain ⟨z1, z2⟩ := ok.sto b3
    exact s_tnew3 ok.calm ok.nd (by rw [ok.N]; exact a1) (by rw [ok.N]; exact a2) (by rw [ok.N]; exact a3) x1 x2 y1 y2 z1 z2 ((snd b ct X e2 ok).1 d1) ((snd c ct X e3 ok).1 d2) (star_cons c1) (star_cons c2) (one_ok ok f) (sw_sole rfl)
  | .par2 i j b c, st, ok, h => by
    obtain ⟨x, px, y, py, kt, pt, e2, e3, k2, pt2, pos, rfl, ⟨a1, a2⟩, ⟨b1, b2⟩, ⟨c1, c2⟩, ⟨d1, d2⟩, f⟩ := inv_par2 h
    obtain ⟨x1, x2⟩ := ok.sto b1
    obtain ⟨y1, y2⟩ := ok.sto b2
    exact s_par2 ok.calm ok.nd (by rw [ok.N]; exact a1) (by rw [ok.N]; exact a2) x1 x2 y1 y2 ((snd b ct X e2 ok).1 d1) ((snd c ct X e3 ok).1 d2) (star_cons c1) (star_cons c2) (one_ok ok f) (sw_sole rfl)
  | .dnew1 i x c, st, ok, h => by
    obtain ⟨y, yp, k, e, dp, pos, rfl, h1, h2, h3, h4⟩ := inv_dnew1 h
    obtain ⟨a1, a2⟩ := ok.sto h2
    exact s_dnew1 ok.nd (by rw [ok.N]; exact h1) a1 a2 ((snd x ct X k ok).1 h3) ((snd c ct X e ok).1 h4)
  | .augIx i x c, st, ok, h => by
    obtain ⟨y, yp, ix, sp, e, pos, rfl, h1, h2, h3, h4⟩ := inv_augIx h
    obtain ⟨a1, a2, a3, a4⟩ := ok.isVar h1
    exact s_augIx a1 a2 a3 a4 ((snd x ct X ix ok).1 h3) ((snd c ct X e ok).1 h4) (aug_ok h2)
  | .aug i b c, st, ok, h => by
    obtain ⟨y, yp, e, pos, rfl, h1, h2, h3⟩ := inv_aug h
    obtain ⟨a1, a2⟩ := ok.sto h2
    cases b with
    | false => exact s_aug ok.nd (by rw [ok.N]; exact h1) a1 ((snd c ct X e ok).1 h3) ip_add a2
    | true => exact s_aug ok.nd (by rw [ok.N]; exact h1) a1 ((snd c ct X e ok).1 h3) ip_sub a2
  | .exp c, st, ok, h => by
    cases st with
    | Expr e pos =>
      simp only [S.chk, Bool.and_eq_true] at h
      exact s_expr ((snd c ct X e ok).1 h.1) (swaps_no h.2)
    | _ => simp [S.chk] at h
  | .ife c a b, st, ok, h => by
    cases st with
    | If e x y pos =>
      simp only [S.chk, Bool.and_eq_true] at h
      exact s_if ((snd c ct X e ok).2 h.1.1) (sndSs a x ok h.1.2) (sndSs b y ok h.2)
    | _ => simp [S.chk] at h
  | .fors t it b, st, ok, h => by
    obtain ⟨tg, i, body, pos, rfl, h1, h2, h3, h4⟩ := inv_fors h
    exact s_for ok.xe ok.calm (sndI it ct X tg i ok h2) (tg_ok ok t tg h1) (sndSs b body ok h4) (set_iter h3)
  | .whl c b, st, ok, h => by
    obtain ⟨e, body, pos, rfl, h1, h2⟩ := inv_whl h
    exact s_while ok.xe ((snd c ct X e ok).2 h1) (sndSs b body ok h2)
  | .ret c, st, ok, h => by
    cases st with
    | Return v pos =>
      cases v with
      | none => simp [S.chk] at h
      | some e =>
        simp only [S.chk] at h
        exact s_ret ((snd c ct X e ok).1 h)
    | _ => simp [S.chk] at h
  | .retN, st, ok, h => by
    cases st with
    | Return v pos =>
      cases v with
      | none => exact s_retN
      | some e => simp [S.chk] at h
    | _ => simp [S.chk] at h
  | .bk, st, ok, h => by
    cases st with
    | Break pos => exact s_bk
    | _ => simp [S.chk] at h
  | .ct, st, ok, h => by
    cases st with
    | Continue pos => exact s_ct
    | _ => simp [S.chk] at h
  | .pass, st, ok, h => by
    cases st with
    | Pass pos => exact s_pass
    | _ => simp [S.chk] at h
termination_by structural s => s
theorem sndSs : ∀ (ss : Ss) (sts : List Stmt), OkX Γ ct X → ss.chk Γ ct sts = true → PSs X sts (tS X.K (ss.den Γ))
  | .nil, [], ok, h => ss_nil
  | .cons s ss, st :: sts, ok, h => by
    simp only [Ss.chk, Bool.and_eq_true] at h
    exact ss_cons (sndS s st ok h.1) (sndSs ss sts ok h.2)
  | .nil, _ :: _, _, h => by simp [Ss.chk] at h
  | .cons _ _, [], _, h => by simp [Ss.chk] at h
termination_by structural ss => ss
end
end
end Den


set_option autoImplicit false
namespace Den
open PySem PySem.Spec L2
structure GamOk (P : Program) (w : World) (K : PySem.W.Frag) (mg : Str → Option Value) (base : Heap) (k : Nat) (Γ : Gam) : Prop where
  nob : ∀ x ∈ Γ.nob, mg x = none
  cs : ∀ p ∈ Γ.cs, ∃ v u, mg p.1 = some u ∧ RelV v u ∧ Lit K v p.2
  fns : ∀ p ∈ Γ.fns, ∃ f fd ps, FnG P w K mg base k f fd ps (spD K p.2) ∧ mg p.1 = some (.ref f) ∧ PySem.W.keepIn K (.ref f) = true ∧ Binds K fd ps []
  fns2 : ∀ p ∈ Γ.fns2, ∃ f fd ps, FnG P w K mg base k f fd ps (spD2 K p.2) ∧ mg p.1 = some (.ref f) ∧ PySem.W.keepIn K (.ref f) = true ∧ Binds K fd ps []
def fdOf (Γ : Gam) (mt : Bool) (np more : Nat) (ss : Ss) : FD := ⟨mt, np, bodyRun mt more (ss.den Γ)⟩
section
variable {P : Program} {w : World} {K : PySem.W.Frag} {mg : Str → Option Value} {base : Heap} {k : Nat}
theorem okX_of {N ps : List Str} {qual : Str} {sc : Scope} {f : Addr} {cdv : Value} {A : Around} {outer : List Env} {s : Shared} {H : Hp} {Γ : Gam} (S : FnScope N ps sc) (g : GamOk P w K mg base k Γ)
    (hr : Room k (A.deeper (PyProof.Rows.envOfC qual sc s.heap.objs.size f cdv))) (hgd : A.guards = some []) :
    OkX Γ ⟨N, sc, fun _ => true⟩ (cxOf CX0 P w K mg base N qual sc f cdv A outer s H E0).nox := by
  refine ⟨rfl, rfl, S.kind, fun _ _ => rfl, S.nd, rfl, rfl, ?_, ?_, g.nob, g.cs, fun p hp => ?_, fun p hp => ?_⟩
  · show (A.deeper (PyProof.Rows.envOfC qual sc s.heap.objs.size f cdv)).guards = some []
    exact hgd
  · show (A.deeper (PyProof.Rows.envOfC qual sc s.heap.objs.size f cdv)).units + 70 < cLine
    have := hr.un
    omega
  · obtain ⟨f', fd', ps', F, m, kp, b⟩ := g.fns p hp
    exact ⟨k, f', fd', ps', F, hr, m, kp, b⟩
  · obtain ⟨f', fd', ps', F, m, kp, b⟩ := g.fns2 p hp
    exact ⟨k, f', fd', ps', F, hr, m, kp, b⟩
theorem def_of {x qual : Str} {st : Stmt} {f : Addr} {fd : FuncData} {N ps : List Str} {Γ : Gam} {mt : Bool} {ss : Ss} (F : Fun K x qual st f fd) (S : FnScope N ps (defScope st)) (g : GamOk P w K mg base k Γ)
    (hc : ss.chk Γ ⟨N, defScope st, fun _ => true⟩ (defBody st) = true) : FnG P w K mg base (k + 1) f fd ps (spD K (fdOf Γ mt ps.length (N.length - ps.length) ss)) :=
  fnG_of (fb := ss.den Γ) F S rfl (fun cdv A outer s H hr hgd => sndSs (X := (cxOf CX0 P w K mg base N qual (defScope st) f cdv A outer s H E0).nox) ss (defBody st) (okX_of S g hr hgd) hc) fun β ds z h => h
end
end Den
namespace Den
theorem all_nil {α : Type} {p : α → Prop} : ∀ x ∈ ([] : List α), p x := fun _ h => by cases h
theorem all_cons {α : Type} {p : α → Prop} {a : α} {l : List α} (h : p a) (t : ∀ x ∈ l, p x) : ∀ x ∈ a :: l, p x := fun x hx => by
  rcases List.mem_cons.mp hx with z | z
  · rw [z]; exact h
  · exact t x z
end Den


set_option autoImplicit false
namespace Den
open PySem PySem.Spec L2
theorem nr {α : Type} {a b : α} (h : a = b) : a = b := by
  cases h
  rfl
theorem fdrun {Γ : Gam} {mt : Bool} {np more : Nat} {ss : Ss} {β ds : List D} : (fdOf Γ mt np more ss).run β ds = bodyRun mt more (ss.den Γ) β ds := rfl
theorem fdnp {Γ : Gam} {mt : Bool} {np more : Nat} {ss : Ss} : (fdOf Γ mt np more ss).np = np := rfl
theorem fdmt {Γ : Gam} {mt : Bool} {np more : Nat} {ss : Ss} : (fdOf Γ mt np more ss).mt = mt := rfl
structure Fine (d : D) : Prop where
  sh : SeqAt.shaped d = true
  sw : d.showable = true
  nd : d.hasDict = false
  ln : d.shown.length ≤ lim
theorem Fine.dp {d : D} (h : Fine d) : d.depth ≤ 64 := SeqAt.depth_of_shaped h.sh
theorem Fine.eq {d : D} (h : Fine d) : PyData.eqv d d = true := PySem.SeqAt.eqv_refl d (SeqAt.canLay_of_shaped h.sh)
theorem eq_fine {d : D} (h : Fine d) : φEq d d = some (.va (.bool true)) := by
  unfold φEq
  rw [if_pos (.inl ⟨h.sh, h.sh⟩), h.eq]
theorem eq_str {x y : Str} : φEq (.str x) (.str y) = some (.va (.bool (x == y))) := by
  unfold φEq
  rw [if_pos (.inr ⟨rfl, rfl⟩)]
  rfl
theorem ne_str {x y : Str} : φNe (.str x) (.str y) = some (.va (.bool (!(x == y)))) := by
  unfold φNe
  rw [if_pos (.inr ⟨rfl, rfl⟩)]
  rfl
theorem eq_int {i j : Int} : φEq (.int i) (.int j) = some (.va (.bool (i == j))) := rfl
theorem ne_int {i j : Int} : φNe (.int i) (.int j) = some (.va (.bool (!(i == j)))) := rfl
theorem repr_fine {d : D} (h : Fine d) : φRepr [d] = some (.va (.str d.shown)) := by
  unfold φRepr
  exact if_pos ⟨h.sw, h.nd, h.dp, h.ln⟩
theorem pop {i j : Int} (h : 0 ≤ j ∧ j ≤ 100 ∧ -1000 < i ∧ i < 1000) : φPow (.int i) (.int j) = some (.va (.int (i ^ j.toNat))) := if_pos h
theorem mod_pos {i j : Int} (h : 0 < j) : φMod (.int i) (.int j) = some (.va (.int (i % j))) := if_pos h
theorem div_wide {i j : Int} (h : 0 < j ∧ j < 18446744073709551616) : φDiv (.int i) (.int j) = some (.va (.int (i / j))) := if_pos h
theorem mul_small {i j : Int} (h : (-(2 ^ 64) < i ∧ i < 2 ^ 64) ∨ (-(2 ^ 64) < j ∧ j < 2 ^ 64)) : φMul (.int i) (.int j) = some (.va (.int (i * j))) := if_pos h
theorem mul_mod {y k z : Int} (h : 0 < k ∧ k < 18446744073709551616) : φMul (.int (y % k)) (.int z) = some (.va (.int (y % k * z))) := mul_small (.inl ⟨by
  have := Int.emod_nonneg y (show k ≠ 0 by omega)
  omega, by
  have := Int.emod_lt_of_pos y h.1
  omega⟩)
theorem add_int {i j : Int} : φAdd (.int i) (.int j) = some (.va (.int (i + j))) := rfl
theorem sub_int {i j : Int} : φSub (.int i) (.int j) = some (.va (.int (i - j))) := rfl
theorem add_lst {xs ys : List D} (h : xs.length + ys.length ≤ lim) : φAdd (.list xs) (.list ys) = some (.ls (xs ++ ys)) := if_pos h
theorem ix_lst {xs : List D} {i : Int} : φIx (.list xs) (.int i) = (atI xs i).map .va := rfl
theorem ix_tup {xs : List D} {i : Int} : φIx (.tuple xs) (.int i) = (atI xs i).map .va := rfl
theorem at_nat {α : Type} {xs : List α} {j : Nat} {v : α} (h : xs[j]? = some v) : atI xs (j : Int) = some v := L2.atI_nat h
theorem at_zero {α : Type} {x : α} {xs : List α} : atI (x :: xs) 0 = some x := L2.atI_nat (j := 0) rfl
theorem at_one {α : Type} {x y : α} {xs : List α} : atI (x :: y :: xs) 1 = some y := L2.atI_nat (j := 1) rfl
theorem at_two {α : Type} {x y z : α} {xs : List α} : atI (x :: y :: z :: xs) 2 = some z := L2.atI_nat (j := 2) rfl
theorem at_three {α : Type} {x y z w : α} {xs : List α} : atI (x :: y :: z :: w :: xs) 3 = some w := L2.atI_nat (j := 3) rfl
theorem lim_lit {n : Nat} (h : n ≤ 100) : n ≤ lim := Nat.le_trans h (by decide)
theorem len_lst {xs : List D} : φLen [.list xs] = some (.va (.int xs.length)) := rfl
theorem len_tup {xs : List D} : φLen [.tuple xs] = some (.va (.int xs.length)) := rfl
theorem sIx_int {n d : Nat} {i : Int} (h : 0 ≤ i) : HT.sIx n d (some i) = min i.toNat n := by
  unfold HT.sIx
  exact if_neg (by omega)
theorem seal_ex {α : Type} (f : α) : ∃ g : α, g = f := ⟨f, rfl⟩
noncomputable def sealed {α : Type} (f : α) : α := Classical.choose (seal_ex f)
theorem sealed_eq {α : Type} (f : α) : sealed f = f := Classical.choose_spec (seal_ex f)
def callF0 (d : FD) (y : List D × Lo) : Option (RR × Lo) := if d.mt = false ∧ y.1.length = d.np then (d.run [] y.1).bind fun z => some (z.1, y.2) else none
noncomputable def callF (d : FD) : List D × Lo → Option (RR × Lo) := sealed (callF0 d)
theorem fCall_eq {d : FD} {fs : Fn (List D)} {ρ : Lo} : fCall d fs ρ = (fs ρ).bind (callF d) := by
  unfold callF
  rw [sealed_eq]
  rfl
theorem cf {d : FD} {ds : List D} {r : RR} {β : List D} (hr : d.run [] ds = some (r, β)) (hm : d.mt = false) (hn : d.np = ds.length) (ρ : Lo) : callF d (ds, ρ) = some (r, ρ) := by
  unfold callF
  rw [sealed_eq]
  unfold callF0
  rw [if_pos ⟨hm, hn.symm⟩, hr]
  rfl
def callMF0 (d : FD) (i : Nat) (y : List D × Lo) : Option (RR × Lo) := if d.mt = true ∧ y.1.length + 1 = d.np then (items y.2 i).bind fun β => (d.run β y.1).map fun z => (z.1, putItems y.2 i z.2) else none
noncomputable def callMF (d : FD) (i : Nat) : List D × Lo → Option (RR × Lo) := sealed (callMF0 d i)
theorem fCallM_eq {d : FD} {i : Nat} {fs : Fn (List D)} {ρ : Lo} : fCallM d i fs ρ = if (items ρ i).isSome = true then (fs ρ).bind (callMF d i) else none := by
  unfold callMF
  rw [sealed_eq]
  rfl
theorem cm {d : FD} {i : Nat} {ds : List D} {r : RR} {β β' : List D} (hr : d.run β ds = some (r, β')) (hm : d.mt = true) (hn : d.np = ds.length + 1) {ρ : Lo} (hi : items ρ i = some β) : callMF d i (ds, ρ) = some (r, putItems ρ i β') := by
  unfold callMF
  rw [sealed_eq]
  unfold callMF0
  rw [if_pos ⟨hm, hn.symm⟩, hi, Option.bind_some, hr]
  rfl
theorem lc_pure {vs : List Nat} {t : D → Lo → Option Lo} {test : FT} {elt : Fn D} {ρ : Lo} {b : D → Bool} {g : D → D} : ∀ {ds acc : List D}, (∀ d ∈ ds, ∃ ρ1 ρ2, t d ρ = some ρ1 ∧ test ρ1 = some (b d, ρ2) ∧
    (b d = true → ∃ ρ3, elt ρ2 = some (g d, ρ3) ∧ wipeL ρ3 vs = ρ) ∧ (b d = false → wipeL ρ2 vs = ρ)) → lcF vs t test elt ds acc ρ = some (acc ++ (ds.filter b).map g, ρ)
  | [], acc, _ => by simp [lcF]
  | d :: ds, acc, h => by
    obtain ⟨ρ1, ρ2, e1, e2, h1, h2⟩ := h d List.mem_cons_self
    have ht : ∀ d ∈ ds, ∃ ρ1 ρ2, t d ρ = some ρ1 ∧ test ρ1 = some (b d, ρ2) ∧ (b d = true → ∃ ρ3, elt ρ2 = some (g d, ρ3) ∧ wipeL ρ3 vs = ρ) ∧ (b d = false → wipeL ρ2 vs = ρ) := fun x hx => h x (List.mem_cons_of_mem _ hx)
    unfold lcF
    rw [e1, Option.bind_some, e2, Option.bind_some]
    cases hb : b d with
    | true =>
      obtain ⟨ρ3, e3, e4⟩ := h1 hb
      simp only [if_true]
      rw [e3, Option.bind_some]
      simp only [e4]
      rw [lc_pure ht]
      simp [List.filter_cons, hb]
    | false =>
      have e4 := h2 hb
      simp only [Bool.false_eq_true, if_false, e4]
      rw [lc_pure ht]
      simp [List.filter_cons, hb]
theorem lc_map {vs : List Nat} {t : D → Lo → Option Lo} {elt : Fn D} {ρ : Lo} {g : D → D} {ds acc : List D} (h : ∀ d ∈ ds, ∃ ρ1, t d ρ = some ρ1 ∧ ∃ ρ3, elt ρ1 = some (g d, ρ3) ∧ wipeL ρ3 vs = ρ) :
    lcF vs t fYes elt ds acc ρ = some (acc ++ ds.map g, ρ) := by
  rw [lc_pure (b := fun _ => true) (g := g) fun d hd => by
    obtain ⟨ρ1, e1, ρ3, e3, e4⟩ := h d hd
    exact ⟨ρ1, ρ1, e1, rfl, fun _ => ⟨ρ3, e3, e4⟩, fun z => by cases z⟩]
  rw [List.filter_eq_self.mpr (fun _ _ => rfl)]
theorem lc_inv {vs : List Nat} {t : D → Lo → Option Lo} {test : FT} {elt : Fn D} (I : List D → List D → Lo → Prop)
    (step : ∀ d ds acc ρ, I (d :: ds) acc ρ → ∃ ρ1 b ρ2, t d ρ = some ρ1 ∧ test ρ1 = some (b, ρ2) ∧ (b = true → ∃ y ρ3, elt ρ2 = some (y, ρ3) ∧ I ds (acc ++ [y]) (wipeL ρ3 vs)) ∧ (b = false → I ds acc (wipeL ρ2 vs))) :
    ∀ {ds acc : List D} {ρ : Lo}, I ds acc ρ → ∃ out ρ', lcF vs t test elt ds acc ρ = some (out, ρ') ∧ I [] out ρ'
  | [], acc, ρ, h => ⟨acc, ρ, rfl, h⟩
  | d :: ds, acc, ρ, h => by
    obtain ⟨ρ1, b, ρ2, e1, e2, h1, h2⟩ := step d ds acc ρ h
    unfold lcF
    rw [e1, Option.bind_some, e2, Option.bind_some]
    cases b with
    | true =>
      obtain ⟨y, ρ3, e3, i3⟩ := h1 rfl
      simp only [if_true]
      rw [e3, Option.bind_some]
      exact lc_inv I step i3
    | false =>
      simp only [Bool.false_eq_true, if_false]
      exact lc_inv I step (h2 rfl)
def Ok (x : Option (Out × Lo)) (P : Out → Lo → Prop) : Prop := ∃ o ρ, x = some (o, ρ) ∧ P o ρ
section
variable {Γ : Gam} {s : S} {ss a b : Ss} {c : C} {t : Tg} {it : Ci} {ρ ρ1 : Lo} {P : Out → Lo → Prop} {ds : List D}
theorem ok_nil (k : P .nx ρ) : Ok (Ss.nil.den Γ ρ) P := ⟨.nx, ρ, by simp only [Ss.den, fNop], k⟩
theorem ok_cons (h : Ok (s.den Γ ρ) fun o ρ1 => match o with
    | .nx => Ok (ss.den Γ ρ1) P
    | o => P o ρ1) : Ok ((Ss.cons s ss).den Γ ρ) P := by
  obtain ⟨o, ρ1, e, k⟩ := h
  unfold Ok
  simp only [Ss.den, fSeq]
  rw [e]
  cases o with
  | nx => exact k
  | rt r => exact ⟨_, _, rfl, k⟩
  | bk => exact ⟨_, _, rfl, k⟩
  | ct => exact ⟨_, _, rfl, k⟩
theorem ok_step (h : s.den Γ ρ = some (.nx, ρ1)) (k : Ok (ss.den Γ ρ1) P) : Ok ((Ss.cons s ss).den Γ ρ) P := ok_cons ⟨.nx, ρ1, h, k⟩
theorem ok_last {r : RR} (h : s.den Γ ρ = some (.rt r, ρ1)) (k : P (.rt r) ρ1) : Ok ((Ss.cons s ss).den Γ ρ) P := ok_cons ⟨.rt r, ρ1, h, k⟩
theorem ok_mono {x : Option (Out × Lo)} {P' : Out → Lo → Prop} (h : Ok x P') (w : ∀ o ρ, P' o ρ → P o ρ) : Ok x P := let ⟨o, ρ, e, k⟩ := h; ⟨o, ρ, e, w o ρ k⟩
theorem ok_if {v : Bool} (h : c.denT Γ ρ = some (v, ρ1)) (x : v = true → Ok (a.den Γ ρ1) P) (y : v = false → Ok (b.den Γ ρ1) P) : Ok ((S.ife c a b).den Γ ρ) P := by
  have q : (S.ife c a b).den Γ ρ = if v then a.den Γ ρ1 else b.den Γ ρ1 := by
    simp only [S.den, fIfS]
    rw [h]
    rfl
  unfold Ok
  rw [q]
  cases v with
  | true => exact x rfl
  | false => exact y rfl
theorem loop_ok {t : D → Lo → Option Lo} {body : FS} (I : List D → Lo → Prop) (step : ∀ d ds ρ, I (d :: ds) ρ → ∃ ρ1, t d ρ = some ρ1 ∧ Ok (body ρ1) fun o ρ2 => match o with
    | .nx => I ds ρ2
    | .ct => I ds ρ2
    | .bk => P .nx ρ2
    | .rt r => P (.rt r) ρ2) (fin : ∀ ρ, I [] ρ → P .nx ρ) : ∀ {ds : List D} {ρ : Lo}, I ds ρ → Ok (loopF t body ds ρ) P
  | [], ρ, h => ⟨.nx, ρ, rfl, fin ρ h⟩
  | d :: ds, ρ, h => by
    obtain ⟨ρ1, e1, o, ρ2, e2, k⟩ := step d ds ρ h
    unfold loopF
    rw [e1, Option.bind_some, e2]
    cases o with
    | nx => exact loop_ok I step fin k
    | ct => exact loop_ok I step fin k
    | bk => exact ⟨_, _, rfl, k⟩
    | rt r => exact ⟨_, _, rfl, k⟩
theorem ok_for (I : List D → Lo → Prop) (h : it.den Γ ρ = some (ds, ρ1)) (h0 : I ds ρ1) (step : ∀ d ds ρ, I (d :: ds) ρ → ∃ ρ1, t.den d ρ = some ρ1 ∧ Ok (a.den Γ ρ1) fun o ρ2 => match o with
    | .nx => I ds ρ2
    | .ct => I ds ρ2
    | .bk => P .nx ρ2
    | .rt r => P (.rt r) ρ2) (fin : ∀ ρ, I [] ρ → P .nx ρ) : Ok ((S.fors t it a).den Γ ρ) P := by
  have q : (S.fors t it a).den Γ ρ = loopF t.den (a.den Γ) ds ρ1 := by
    simp only [S.den, fFor]
    rw [h]
    rfl
  unfold Ok
  rw [q]
  exact loop_ok I step fin h0
theorem while_ok {fc : FT} {fb : FS} (I : Nat → Lo → Prop) (step : ∀ n ρ, I n ρ → ∃ v ρ1, fc ρ = some (v, ρ1) ∧ (v = false → P .nx ρ1) ∧ (v = true → ∃ m, n = m + 1 ∧ Ok (fb ρ1) fun o ρ2 => match o with
    | .nx => I m ρ2
    | .ct => I m ρ2
    | .bk => P .nx ρ2
    | .rt r => P (.rt r) ρ2)) : ∀ {n k : Nat} {ρ : Lo}, I n ρ → n < k → Ok (whF fc fb k ρ) P
  | n, 0, ρ, _, hk => by omega
  | n, k + 1, ρ, h, hk => by
    obtain ⟨v, ρ1, e1, f1, f2⟩ := step n ρ h
    cases v with
    | false =>
      refine ⟨.nx, ρ1, ?_, f1 rfl⟩
      unfold whF
      rw [e1]
      rfl
    | true =>
      obtain ⟨m, rfl, o, ρ2, e2, kk⟩ := f2 rfl
      unfold whF
      rw [e1, Option.bind_some]
      simp only [if_true]
      rw [e2]
      cases o with
      | nx => exact while_ok I step kk (by omega)
      | ct => exact while_ok I step kk (by omega)
      | bk => exact ⟨_, _, rfl, kk⟩
      | rt r => exact ⟨_, _, rfl, kk⟩
theorem ok_while {n : Nat} (I : Nat → Lo → Prop) (h0 : I n ρ) (hn : n < 1000000) (step : ∀ n ρ, I n ρ → ∃ v ρ1, c.denT Γ ρ = some (v, ρ1) ∧ (v = false → P .nx ρ1) ∧ (v = true → ∃ m, n = m + 1 ∧ Ok (a.den Γ ρ1) fun o ρ2 => match o with
    | .nx => I m ρ2
    | .ct => I m ρ2
    | .bk => P .nx ρ2
    | .rt r => P (.rt r) ρ2)) : Ok ((S.whl c a).den Γ ρ) P := by
  have q : (S.whl c a).den Γ ρ = whF (c.denT Γ) (a.den Γ) 1000000 ρ := by
    simp only [S.den]
    rfl
  unfold Ok
  rw [q]
  exact while_ok I step h0 hn
def Ans (x : Option (RR × List D)) (Q : RR → List D → Prop) : Prop := ∃ r β, x = some (r, β) ∧ Q r β
theorem run_f {more : Nat} {β : List D} {Q : RR → List D → Prop} (h : Ok (ss.den Γ (ds.map .va ++ List.replicate more .no)) fun o _ => match o with
    | .rt r => Q r []
    | .nx => Q (.va .none) []
    | _ => False) : Ans (bodyRun false more (ss.den Γ) β ds) Q := by
  obtain ⟨o, ρ, e, k⟩ := h
  unfold bodyRun parL
  rw [if_neg (by simp), e]
  cases o with
  | rt r => exact ⟨r, [], rfl, k⟩
  | nx => exact ⟨_, [], rfl, k⟩
  | bk => exact k.elim
  | ct => exact k.elim
theorem run_t {more : Nat} {β : List D} {Q : RR → List D → Prop} (h : Ok (ss.den Γ (.bg β :: ds.map .va ++ List.replicate more .no)) fun o ρ => ∃ β', ρ[0]? = some (.bg β') ∧ match o with
    | .rt r => Q r β'
    | .nx => Q (.va .none) β'
    | _ => False) : Ans (bodyRun true more (ss.den Γ) β ds) Q := by
  obtain ⟨o, ρ, e, β', e2, k⟩ := h
  unfold bodyRun parL
  rw [if_pos rfl, e]
  cases o with
  | rt r => exact ⟨r, β', by simp [e2], k⟩
  | nx => exact ⟨_, β', by simp [e2], k⟩
  | bk => exact k.elim
  | ct => exact k.elim
end
end Den


local macro_rules
  | `(tactic| simp! [$ts,*]) => `(tactic| simp [Den.Cd.denD, Den.fsStar, Den.f1, Den.fExt, Den.asLst, Den.fRep, Den.fTr, Den.fCh, Den.opI, Den.opB, Den.opC, Den.opM, Den.bodyRun, Den.Ss.den, Den.S.den, Den.C.den, Den.C.denT, Den.Cs.denA, Den.Cs.denO, Den.Cs.denAT, Den.Cs.denOT, Den.Cs.denV, Den.Cs.denF, Den.Co.den, Den.Co.denT, Den.Ci.den, Den.Tg.den, Den.Tg.dens, Den.Tg.slots, Den.Tg.slotsL, Den.parL, Den.fSeq, Den.fRet, Den.fRetN, Den.fNop, Den.fBk, Den.fCt, Den.fSet, Den.fO, Den.fDrop, Den.SlOf, Den.notBg, Den.fIfS, Den.fIf, Den.fT, Den.truth, Den.fAnd, Den.fOr, Den.fNot, Den.fAndV, Den.fOrV, Den.fNotV, Den.isB, Den.fV, Den.fF, Den.frz, Den.half, Den.vw, Den.vws, Den.f1, Den.f2, Den.fL, Den.fM, Den.fVar, Den.fC, Den.fTup, Den.fLst, Den.fsCons, Den.fsNil, Den.fSetIx, Den.fAugIx, Den.fAug, Den.asInt, Den.items, Den.putItems, Den.sameKind, Den.fMut, Den.φApp, Den.φIns, Den.fCall, Den.fCallM, Den.fPar, Den.fPar3, Den.fAsg, Den.gNm, Den.gTp, Den.gsCons, Den.gsNil, Den.fSl, Den.fPt, Den.φSl, Den.add_int, Den.sub_int, Den.φNeg, Den.φCmp, Den.φIs, Den.φIsNot, Den.isNone, Den.len_lst, Den.len_tup, Den.φAbs, Den.φInt, Den.φTuple, Den.φList, Den.fdmt, Den.fdnp, L2.ixN, Den.eq_str, Den.ne_str, Den.eq_int, Den.ne_int, Den.ix_lst, Den.ix_tup, Den.at_zero, Den.at_one, Den.at_two, Den.at_three, Den.lim_lit, $ts,*])
local macro_rules
  | `(tactic| simp_all! [$ts,*]) => `(tactic| simp [Den.Cd.denD, Den.fsStar, Den.f1, Den.fExt, Den.asLst, Den.fRep, Den.fTr, Den.fCh, Den.opI, Den.opB, Den.opC, Den.opM, Den.bodyRun, Den.Ss.den, Den.S.den, Den.C.den, Den.C.denT, Den.Cs.denA, Den.Cs.denO, Den.Cs.denAT, Den.Cs.denOT, Den.Cs.denV, Den.Cs.denF, Den.Co.den, Den.Co.denT, Den.Ci.den, Den.Tg.den, Den.Tg.dens, Den.Tg.slots, Den.Tg.slotsL, Den.parL, Den.fSeq, Den.fRet, Den.fRetN, Den.fNop, Den.fBk, Den.fCt, Den.fSet, Den.fO, Den.fDrop, Den.SlOf, Den.notBg, Den.fIfS, Den.fIf, Den.fT, Den.truth, Den.fAnd, Den.fOr, Den.fNot, Den.fAndV, Den.fOrV, Den.fNotV, Den.isB, Den.fV, Den.fF, Den.frz, Den.half, Den.vw, Den.vws, Den.f1, Den.f2, Den.fL, Den.fM, Den.fVar, Den.fC, Den.fTup, Den.fLst, Den.fsCons, Den.fsNil, Den.fSetIx, Den.fAugIx, Den.fAug, Den.asInt, Den.items, Den.putItems, Den.sameKind, Den.fMut, Den.φApp, Den.φIns, Den.fCall_eq, Den.fCallM_eq, Den.fPar, Den.fPar3, Den.fAsg, Den.gNm, Den.gTp, Den.gsCons, Den.gsNil, Den.fSl, Den.fPt, Den.φSl, Den.add_int, Den.sub_int, Den.φNeg, Den.φCmp, Den.φIs, Den.φIsNot, Den.isNone, Den.len_lst, Den.len_tup, Den.φAbs, Den.φInt, Den.φTuple, Den.φList, Den.fdmt, Den.fdnp, L2.ixN, Den.eq_str, Den.ne_str, Den.eq_int, Den.ne_int, Den.ix_lst, Den.ix_tup, Den.at_zero, Den.at_one, Den.at_two, Den.at_three, Den.lim_lit, $ts,*])
set_option autoImplicit false
namespace Den
open PySem PySem.Spec L2
mutual
def sm : D → Bool
  | .none => true
  | .bool _ => true
  | .int i => decide (i.natAbs < 10 ^ 12)
  | .str x => x.cps.all (· < 0x110000)
  | .list xs => sms xs
  | .tuple xs => sms xs
  | .dict _ => false
def sms : List D → Bool
  | [] => true
  | x :: xs => sm x && sms xs
end
theorem sms_iff : ∀ {xs : List D}, sms xs = true ↔ ∀ x ∈ xs, sm x = true
  | [] => by simp [sms]
  | x :: xs => by simp [sms, sms_iff (xs := xs)]
theorem log_small {n : Nat} (h : n < 10 ^ 12) : n.log2 < 1920 := by
  by_cases h0 : n = 0
  · subst h0
    decide
  · rw [Nat.log2_lt h0]
    exact Nat.lt_trans h (by decide +kernel)
mutual
theorem sm_ok : ∀ d : D, sm d = true → d.leavesShort 13 = true ∧ d.canLay0 = true ∧ d.showable = true ∧ d.hasDict = false
  | .none, _ => ⟨by simp [PyData.leavesShort], by simp [PyData.canLay0], by simp [PyData.showable], by simp [PyData.hasDict]⟩
  | .bool _, _ => ⟨by simp [PyData.leavesShort], by simp [PyData.canLay0], by simp [PyData.showable], by simp [PyData.hasDict]⟩
  | .int i, h => by
    have q : i.natAbs < 10 ^ 12 := by simpa [sm] using h
    exact ⟨by simpa [PyData.leavesShort] using PyData.shown_int_le q, by simp [PyData.canLay0], by simpa [PyData.showable] using log_small q, by simp [PyData.hasDict]⟩
  | .str x, h => by
    refine ⟨?_, by simpa only [PyData.canLay0, PyData.strOk, sm] using h, by simp [PyData.showable], by simp [PyData.hasDict]⟩
    have q : ∀ c ∈ x.cps.toList, c < 0x110000 := by
      have h2 : x.cps.all (· < 0x110000) = true := by simpa only [sm] using h
      rw [← Array.all_toList, List.all_eq_true] at h2
      exact fun c hc => of_decide_eq_true (h2 c hc)
    simp only [PyData.leavesShort, List.all_eq_true, decide_eq_true_eq]
    exact fun c hc => Nat.lt_trans (q c hc) (by decide)
  | .list xs, h => by
    have q := sms_ok xs (by simpa only [sm] using h)
    exact ⟨by simpa only [PyData.leavesShort] using q.1, by simpa only [PyData.canLay0] using q.2.1, by simpa only [PyData.showable] using q.2.2.1, by simpa only [PyData.hasDict] using q.2.2.2⟩
  | .tuple xs, h => by
    have q := sms_ok xs (by simpa only [sm] using h)
    exact ⟨by simpa only [PyData.leavesShort] using q.1, by simpa only [PyData.canLay0] using q.2.1, by simpa only [PyData.showable] using q.2.2.1, by simpa only [PyData.hasDict] using q.2.2.2⟩
  | .dict _, h => by simp [sm] at h
theorem sms_ok : ∀ xs : List D, sms xs = true → PyData.leavesShortAll 13 xs = true ∧ PyData.canLayAll0 xs = true ∧ PyData.showableAll xs = true ∧ PyData.hasDictAll xs = false
  | [], _ => ⟨by simp [PyData.leavesShortAll], by simp [PyData.canLayAll0], by simp [PyData.showableAll], by simp [PyData.hasDictAll]⟩
  | x :: xs, h => by
    have h2 : sm x = true ∧ sms xs = true := by simpa [sms] using h
    have a := sm_ok x h2.1
    have b := sms_ok xs h2.2
    exact ⟨by simp [PyData.leavesShortAll, a.1, b.1], by simp [PyData.canLayAll0, a.2.1, b.2.1], by simp [PyData.showableAll, a.2.2.1, b.2.2.1], by simp [PyData.hasDictAll, a.2.2.2, b.2.2.2]⟩
end
theorem fine_of {d : D} (h : sm d = true) (hd : d.depth ≤ 64) (hb : d.bulk ≤ 60000) : Fine d := by
  obtain ⟨h1, h2, h3, h4⟩ := sm_ok d h
  refine ⟨?_, h3, h4, ?_⟩
  · unfold SeqAt.shaped
    simp [h2, hd]
  · have := PyData.shown_le_bulk 13 (by decide) d h1
    show _ ≤ 1000000
    omega
theorem bulk_le {b : Nat} : ∀ {xs : List D}, (∀ x ∈ xs, x.bulk ≤ b) → PyData.bulkAll xs ≤ (b + 1) * xs.length
  | [], _ => by simp [PyData.bulkAll]
  | x :: xs, h => by
    have h1 := h x List.mem_cons_self
    have h2 := bulk_le (b := b) (xs := xs) fun y hy => h y (List.mem_cons_of_mem _ hy)
    simp only [PyData.bulkAll, List.length_cons, Nat.mul_add, Nat.mul_one]
    omega
theorem depth_le {b : Nat} : ∀ {xs : List D}, (∀ x ∈ xs, x.depth ≤ b) → PyData.depthAll xs ≤ b
  | [], _ => by simp [PyData.depthAll]
  | x :: xs, h => by
    have h1 := h x List.mem_cons_self
    have h2 := depth_le (b := b) (xs := xs) fun y hy => h y (List.mem_cons_of_mem _ hy)
    simp only [PyData.depthAll]
    omega
theorem fine_bool {b : Bool} : Fine (.bool b) := fine_of rfl (by simp [PyData.depth]) (by simp [PyData.bulk])
def nI (n : Nat) : D := .int (n : Int)
def nD (ns : List Nat) : List D := ns.map nI
theorem nD_len {ns : List Nat} : (nD ns).length = ns.length := List.length_map ..
theorem fine_nats {ns : List Nat} (h : ∀ n ∈ ns, n ≤ 1000) (hl : ns.length ≤ 1000) : Fine (.tuple (nD ns)) ∧ Fine (.list (nD ns)) := by
  have a : sms (nD ns) = true := sms_iff.mpr fun x hx => by
    obtain ⟨n, hn, rfl⟩ := List.mem_map.mp hx
    have := h n hn
    simp [sm, nI]
    omega
  have b : PyData.depthAll (nD ns) ≤ 1 := depth_le fun x hx => by
    obtain ⟨n, hn, rfl⟩ := List.mem_map.mp hx
    simp [PyData.depth, nI]
  have c : PyData.bulkAll (nD ns) ≤ (0 + 1) * (nD ns).length := bulk_le fun x hx => by
    obtain ⟨n, hn, rfl⟩ := List.mem_map.mp hx
    simp [PyData.bulk, nI]
  rw [nD_len] at c
  refine ⟨fine_of (by simpa only [sm] using a) ?_ ?_, fine_of (by simpa only [sm] using a) ?_ ?_⟩
  all_goals first | (simp only [PyData.depth]; omega) | (simp only [PyData.bulk]; omega)
theorem any_nat {p : Nat} : ∀ {ns : List Nat}, ((nD ns).any fun z => PyData.eqv z (.int (p : Int))) = decide (p ∈ ns)
  | [] => by simp [nD]
  | n :: ns => by
    have ih := any_nat (p := p) (ns := ns)
    rw [nD, List.map_cons, List.any_cons, ← nD, ih]
    have e : PyData.eqv (nI n) (.int (p : Int)) = decide (p = n) := by
      simp only [PyData.eqv, nI]
      by_cases h : p = n
      · simp [h]
      · have : ((n : Int) == (p : Int)) = false := by
          rw [beq_eq_false_iff_ne]
          omega
        simp [this, h]
    rw [e]
    by_cases h : p = n <;> simp [h]
theorem any_none : ∀ {ns : List Nat}, ((nD ns).any fun z => PyData.eqv z .none) = false
  | [] => by simp [nD]
  | n :: ns => by
    have ih := any_none (ns := ns)
    rw [nD, List.map_cons, List.any_cons, ← nD, ih]
    simp [PyData.eqv, nI]
theorem sh_nats {ns : List Nat} : SeqAt.shaped (.list (nD ns)) = true ∧ SeqAt.shaped (.tuple (nD ns)) = true := by
  have a : PyData.canLayAll0 (nD ns) = true := by
    induction ns with
    | nil => simp [nD, PyData.canLayAll0]
    | cons n ns ih =>
      rw [nD, List.map_cons, ← nD]
      simp [PyData.canLayAll0, PyData.canLay0, nI, ih]
  have b : PyData.depthAll (nD ns) ≤ 1 := depth_le fun x hx => by
    obtain ⟨n, hn, rfl⟩ := List.mem_map.mp hx
    simp [PyData.depth, nI]
  constructor
  · have e : PyData.depth (.list (nD ns)) ≤ 64 := by
      simp only [PyData.depth]
      omega
    unfold SeqAt.shaped
    simp only [PyData.canLay0, a, Bool.true_and, decide_eq_true_eq]
    exact e
  · have e : PyData.depth (.tuple (nD ns)) ≤ 64 := by
      simp only [PyData.depth]
      omega
    unfold SeqAt.shaped
    simp only [PyData.canLay0, a, Bool.true_and, decide_eq_true_eq]
    exact e
theorem in_natT {p : Nat} {ns : List Nat} : φIn (.int (p : Int)) (.tuple (nD ns)) = some (.va (.bool (decide (p ∈ ns)))) := by
  unfold φIn
  simp only [sh_nats.2, any_nat]
  exact if_pos ⟨rfl, trivial⟩
theorem in_noneT {ns : List Nat} : φIn .none (.tuple (nD ns)) = some (.va (.bool false)) := by
  unfold φIn
  simp only [sh_nats.2, any_none]
  exact if_pos ⟨rfl, trivial⟩
theorem notin_natT {p : Nat} {ns : List Nat} : φNotIn (.int (p : Int)) (.tuple (nD ns)) = some (.va (.bool (!decide (p ∈ ns)))) := by
  unfold φNotIn
  simp only [sh_nats.2, any_nat]
  exact if_pos ⟨rfl, trivial⟩
theorem rng_nat {n : Nat} : rng 0 (n : Int) = nD (List.range n) := by
  unfold rng nD
  rw [show ((n : Int) - 0).toNat = n by omega]
  exact List.map_congr_left fun i _ => by simp [nI]
theorem rng_nat2 {a n : Nat} (h : a ≤ n) : rng (a : Int) (n : Int) = nD ((List.range (n - a)).map (a + ·)) := by
  unfold rng nD
  rw [show ((n : Int) - (a : Int)).toNat = n - a by omega, List.map_map]
  exact List.map_congr_left fun i _ => by simp [nI]
section
variable {Γ : Gam} {a b : C} {x y : Int} {ρ ρ1 ρ2 : Lo}
theorem it_rng1 (ha : a.den Γ ρ = some (.va (.int x), ρ1)) (h : -1000000 ≤ x ∧ x ≤ 1000000) : (Ci.rng1 a).den Γ ρ = some (rng 0 x, ρ1) := by
  simp only [Ci.den, fR1, fsCons, fsNil, fV]
  rw [ha]
  simp only [Option.map_some, Option.bind_some, half, vws, vw]
  exact if_pos h
theorem it_rng2 (ha : a.den Γ ρ = some (.va (.int x), ρ1)) (hb : b.den Γ ρ1 = some (.va (.int y), ρ2)) (h : -1000000 ≤ x ∧ x ≤ 1000000 ∧ -1000000 ≤ y ∧ y ≤ 1000000) : (Ci.rng2 a b).den Γ ρ = some (rng x y, ρ2) := by
  simp only [Ci.den, fR1, fsCons, fsNil, fV]
  rw [ha]
  simp only [Option.map_some, Option.bind_some, half]
  rw [hb]
  simp only [Option.map_some, Option.bind_some, half, vws, vw]
  exact if_pos h
end
theorem lc_gen {α : Type} {f g : α → D} {b : α → Bool} {vs : List Nat} {t : D → Lo → Option Lo} {test : FT} {elt : Fn D} {ρ : Lo} : ∀ {l : List α} {acc : List D}, (∀ a ∈ l, ∃ ρ1 ρ2, t (f a) ρ = some ρ1 ∧ test ρ1 = some (b a, ρ2) ∧
    (b a = true → ∃ ρ3, elt ρ2 = some (g a, ρ3) ∧ wipeL ρ3 vs = ρ) ∧ (b a = false → wipeL ρ2 vs = ρ)) → lcF vs t test elt (l.map f) acc ρ = some (acc ++ (l.filter b).map g, ρ)
  | [], acc, _ => by simp [lcF]
  | d :: ds, acc, h => by
    obtain ⟨ρ1, ρ2, e1, e2, h1, h2⟩ := h d List.mem_cons_self
    have ht : ∀ d ∈ ds, ∃ ρ1 ρ2, t (f d) ρ = some ρ1 ∧ test ρ1 = some (b d, ρ2) ∧ (b d = true → ∃ ρ3, elt ρ2 = some (g d, ρ3) ∧ wipeL ρ3 vs = ρ) ∧ (b d = false → wipeL ρ2 vs = ρ) := fun x hx => h x (List.mem_cons_of_mem _ hx)
    rw [List.map_cons]
    unfold lcF
    rw [e1, Option.bind_some, e2, Option.bind_some]
    cases hb : b d with
    | true =>
      obtain ⟨ρ3, e3, e4⟩ := h1 hb
      simp only [if_true]
      rw [e3, Option.bind_some]
      simp only [e4]
      rw [lc_gen ht]
      simp [List.filter_cons, hb]
    | false =>
      have e4 := h2 hb
      simp only [Bool.false_eq_true, if_false, e4]
      rw [lc_gen ht]
      simp [List.filter_cons, hb]
section
variable {Γ : Gam} {own : List (Str × Nat)} {elt : C} {tg : Tg} {it : Ci} {ifs : Co} {ρ ρ1 ρ2 : Lo} {ds out : List D}
theorem lc_val (hi : it.den Γ ρ = some (ds, ρ1)) (hl : ds.length ≤ lim) (h : lcF (own.map (·.2)) tg.den (ifs.denT Γ) (fF (elt.den Γ)) ds [] (wipeL ρ1 (own.map (·.2))) = some (out, ρ2)) :
    (C.lc own elt tg it ifs).den Γ ρ = some (.ls out, restL ρ1 ρ2 (own.map (·.2))) := by
  simp only [C.den, fLc]
  rw [hi, Option.bind_some, if_pos hl, h]
  rfl
theorem lc_of {α : Type} {f g : α → D} {b : α → Bool} {l : List α} (hi : it.den Γ ρ = some (l.map f, ρ1)) (hl : l.length ≤ lim) (hr : restL ρ1 (wipeL ρ1 (own.map (·.2))) (own.map (·.2)) = ρ2)
    (h : ∀ a ∈ l, ∃ ρ3 ρ4, tg.den (f a) (wipeL ρ1 (own.map (·.2))) = some ρ3 ∧ ifs.denT Γ ρ3 = some (b a, ρ4) ∧ (b a = true → ∃ ρ5, fF (elt.den Γ) ρ4 = some (g a, ρ5) ∧ wipeL ρ5 (own.map (·.2)) = wipeL ρ1 (own.map (·.2))) ∧ (b a = false → wipeL ρ4 (own.map (·.2)) = wipeL ρ1 (own.map (·.2)))) :
    (C.lc own elt tg it ifs).den Γ ρ = some (.ls ((l.filter b).map g), ρ2) := by
  rw [← hr]
  exact lc_val hi (by rw [List.length_map]; exact hl) (by rw [lc_gen h]; rfl)
end
theorem enum_map {xs : List D} : ∀ {k : Nat}, enumFrom k xs = (List.range xs.length).map fun i => .tuple [.int ((k + i : Nat) : Int), xs[i]?.getD .none] := by
  induction xs with
  | nil => intro k; rfl
  | cons x xs ih =>
    intro k
    rw [enumFrom, ih, List.length_cons, List.range_succ_eq_map, List.map_cons, List.map_map]
    refine congr (congrArg List.cons (by simp)) (List.map_congr_left fun i _ => ?_)
    have e : k + 1 + i = k + (i + 1) := by omega
    simp [e]
theorem sort_perm {ds : List D} : (sortD ds).Perm ds := List.mergeSort_perm _ _
end Den


set_option autoImplicit false
namespace W
open PySem PySem.Spec L2 Den
def q_lbag_0 : C := .lc [("cell", 1)] (.blt .abs (.cons (.var 1) .nil)) (.nm 1) (.seq (.sl (.var 0) .no (.so (.int 63)))) .no
def c_lbag : Ss :=
  (.cons (.ret (.lst (.cons (.int 0) (.cons (.int 1234567891) (.cons (.int 0) (.cons q_lbag_0 .nil)))))) .nil)
def g_lbag : Gam := ⟨[], [], ["abs"], []⟩
def d_lbag : FD := fdOf g_lbag false 1 1 c_lbag
theorem mt_lbag : d_lbag.mt = false := nr rfl
theorem np_lbag : d_lbag.np = 1 := nr rfl
theorem r_lbag {β ds : List D} : d_lbag.run β ds = bodyRun false 1 (c_lbag.den g_lbag) β ds := by unfold d_lbag; exact fdrun
def c_ltake : Ss :=
  (.cons (.ife (.cmp .eq (.ix (.var 0) (.int 0)) (.int 0))
    (.cons (.set 2 (.ix (.bin .add (.sl (.ix (.var 0) (.int 3)) (.so (.ix (.var 0) (.int 2))) .no) (.lst (.cons (.int 0) .nil))) (.int 0)))
    (.cons (.augIx 0 (.int 2) (.int 1))
    (.cons (.ife (.cmp .ge (.var 2) (.bin .pow (.int 10) (.int 18)))
      (.cons (.setIx 0 (.int 0) (.var 2)) .nil)
      .nil)
    (.cons (.set 3 (.bin .add (.bin .add (.bin .mul (.ix (.var 0) (.int 1)) (.int 48271)) (.bin .mod (.blt .int (.cons (.var 2) .nil)) (.int 2147483647))) (.bin .mul (.int 7919) (.ix (.var 0) (.int 2)))))
    (.cons (.setIx 0 (.int 1) (.bin .mod (.blt .int (.cons (.var 3) .nil)) (.int 2147483647))) .nil)))))
    .nil)
  (.cons (.ife (.cmp .gt (.ix (.var 0) (.int 0)) (.int 0))
    (.cons (.set 4 (.bin .mod (.blt .int (.cons (.ix (.var 0) (.int 0)) .nil)) (.var 1)))
    (.cons (.setIx 0 (.int 0) (.bin .div (.blt .int (.cons (.ix (.var 0) (.int 0)) .nil)) (.var 1)))
    (.cons (.ret (.var 4)) .nil)))
    .nil)
  (.cons (.set 5 (.bin .mod (.blt .int (.cons (.bin .mul (.bin .add (.ix (.var 0) (.int 1)) (.int 1)) (.int 39373)) .nil)) (.int 1000000007)))
  (.cons (.set 6 (.bin .mod (.blt .int (.cons (.bin .mul (.bin .mod (.blt .int (.cons (.bin .mul (.var 5) (.var 5)) .nil)) (.int 998244353)) (.int 30011)) .nil)) (.int 998244353)))
  (.cons (.ret (.bin .mod (.blt .int (.cons (.bin .div (.var 6) (.int 7)) .nil)) (.var 1))) .nil)))))
def g_ltake : Gam := ⟨[], [], ["int"], []⟩
def d_ltake : FD := fdOf g_ltake true 2 5 c_ltake
theorem mt_ltake : d_ltake.mt = true := nr rfl
theorem np_ltake : d_ltake.np = 2 := nr rfl
theorem r_ltake {β ds : List D} : d_ltake.run β ds = bodyRun true 5 (c_ltake.den g_ltake) β ds := by unfold d_ltake; exact fdrun
def c_lsome : Ss :=
  (.cons (.ret (.ix (.var 1) (.callM 0 0 (.cons (.blt .len (.cons (.var 1) .nil)) .nil)))) .nil)
def g_lsome : Gam := ⟨[("_law_take", d_ltake)], [], ["len"], []⟩
def d_lsome : FD := fdOf g_lsome true 2 0 c_lsome
theorem mt_lsome : d_lsome.mt = true := nr rfl
theorem np_lsome : d_lsome.np = 2 := nr rfl
theorem r_lsome {β ds : List D} : d_lsome.run β ds = bodyRun true 0 (c_lsome.den g_lsome) β ds := by unfold d_lsome; exact fdrun
def c_lalike : Ss :=
  (.cons (.ret (.and (.cons (.cmp .eq (.var 0) (.var 1)) (.cons (.cmp .eq (.blt .repr (.cons (.var 0) .nil)) (.blt .repr (.cons (.var 1) .nil))) .nil)))) .nil)
def g_lalike : Gam := ⟨[], [], ["repr"], []⟩
def d_lalike : FD := fdOf g_lalike false 2 0 c_lalike
theorem mt_lalike : d_lalike.mt = false := nr rfl
theorem np_lalike : d_lalike.np = 2 := nr rfl
theorem r_lalike {β ds : List D} : d_lalike.run β ds = bodyRun false 0 (c_lalike.den g_lalike) β ds := by unfold d_lalike; exact fdrun
def q_ldungeon_0 : C := .lc [("room", 7)] (.int 1) (.nm 7) (.seq (.var 2)) (.so (.cmp .eq (.ix (.var 7) (.int 1)) (.str "lock")))
def q_ldungeon_1 : C := .lc [("room", 7)] (.int 1) (.nm 7) (.seq (.var 2)) (.so (.cmp .eq (.ix (.var 7) (.int 1)) (.str "bar")))
def q_ldungeon_2 : C := .lc [("room", 7)] (.ix (.var 7) (.int 2)) (.nm 7) (.seq (.var 2)) .no
def c_ldungeon : Ss :=
  (.cons (.par 2 3 (.lst (.cons (.tup (.cons .non (.cons .non (.cons (.callM 0 0 (.cons (.lst (.cons (.int 1) (.cons (.int 0) (.cons (.int 1) (.cons (.int 2) .nil))))) .nil)) .nil)))) .nil)) (.cmp .eq (.callM 1 0 (.cons (.int 2) .nil)) (.int 0)))
  (.cons (.fors (.nm 4) (.rng2 (.int 1) (.bin .add (.int 1) (.callM 1 0 (.cons (.var 1) .nil))))
    (.cons (.set 5 (.callM 0 0 (.cons (.lst (.cons (.str "open") (.cons (.str "lock") (.cons (.str "lock") (.cons (.ite (.var 3) (.str "bar") (.str "lock")) .nil))))) .nil)))
    (.cons (.exp (.mut .append 2 (.cons (.tup (.cons (.callM 0 0 (.cons (.lst (.cons (.bin .sub (.var 4) (.int 1)) (.cons (.callM 1 0 (.cons (.var 4) .nil)) .nil))) .nil)) (.cons (.var 5) (.cons (.callM 0 0 (.cons (.lst (.cons (.int 1) (.cons (.int 0) (.cons (.int 1) (.cons (.int 1) (.cons (.int 2) .nil)))))) .nil)) .nil)))) .nil))) .nil)))
  (.cons (.set 6 (.blt .len (.cons q_ldungeon_0 .nil)))
  (.cons (.set 8 (.blt .int (.cons (.cmp .ne q_ldungeon_1 (.lst .nil)) .nil)))
  (.cons (.set 9 (.blt .sum (.cons q_ldungeon_2 .nil)))
  (.cons (.ife (.cmp .lt (.var 9) (.var 8))
    (.cons (.par 2 9 (.bin .add (.lst (.cons (.tup (.cons .non (.cons .non (.cons (.int 1) .nil)))) .nil)) (.sl (.var 2) (.so (.int 1)) .no)) (.int 1)) .nil)
    .nil)
  (.cons (.set 10 (.callM 0 0 (.cons (.lst (.cons (.var 6) (.cons (.var 6) (.cons (.var 6) (.cons (.bin .add (.var 6) (.int 1)) (.cons (.blt .max (.cons (.int 0) (.cons (.bin .sub (.var 6) (.int 1)) .nil))) .nil)))))) .nil)))
  (.cons (.ret (.tup (.cons (.blt .tuple (.cons (.var 2) .nil)) (.cons (.blt .max (.cons (.int 0) (.cons (.blt .min (.cons (.var 10) (.cons (.bin .sub (.var 9) (.var 8)) (.cons (.int 6) .nil)))) .nil))) .nil)))) .nil))))))))
def g_ldungeon : Gam := ⟨[("_law_some", d_lsome), ("_law_take", d_ltake)], [], ["range", "len", "int", "sum", "max", "min", "tuple"], []⟩
def d_ldungeon : FD := fdOf g_ldungeon true 2 9 c_ldungeon
theorem mt_ldungeon : d_ldungeon.mt = true := nr rfl
theorem np_ldungeon : d_ldungeon.np = 2 := nr rfl
theorem r_ldungeon {β ds : List D} : d_ldungeon.run β ds = bodyRun true 9 (c_ldungeon.den g_ldungeon) β ds := by unfold d_ldungeon; exact fdrun
def q_lany_lot_0 : C := .lc [("v", 3)] (.var 3) (.nm 3) (.rng1 (.var 1)) (.so (.cmp .eq (.callM 0 0 (.cons (.bin .add (.int 2) (.var 2)) .nil)) (.int 0)))
def c_lany_lot : Ss :=
  (.cons (.set 2 (.callM 0 0 (.cons (.int 3) .nil)))
  (.cons (.ret (.blt .tuple (.cons q_lany_lot_0 .nil))) .nil))
def g_lany_lot : Gam := ⟨[("_law_take", d_ltake)], [], ["tuple", "range"], []⟩
def d_lany_lot : FD := fdOf g_lany_lot true 2 2 c_lany_lot
theorem mt_lany_lot : d_lany_lot.mt = true := nr rfl
theorem np_lany_lot : d_lany_lot.np = 2 := nr rfl
theorem r_lany_lot {β ds : List D} : d_lany_lot.run β ds = bodyRun true 2 (c_lany_lot.den g_lany_lot) β ds := by unfold d_lany_lot; exact fdrun
end W


set_option autoImplicit false
namespace W
open PySem PySem.Spec L2 Den
def q_lis_barred_0 : C := .lc [("room", 1)] (.int 1) (.nm 1) (.seq (.ix (.var 0) (.int 0))) (.so (.cmp .eq (.ix (.var 1) (.int 1)) (.str "bar")))
def c_lis_barred : Ss :=
  (.cons (.ret (.cmp .ne q_lis_barred_0 (.lst .nil))) .nil)
def g_lis_barred : Gam := ⟨[], [], [], []⟩
def d_lis_barred : FD := fdOf g_lis_barred false 1 1 c_lis_barred
theorem mt_lis_barred : d_lis_barred.mt = false := nr rfl
theorem np_lis_barred : d_lis_barred.np = 1 := nr rfl
theorem r_lis_barred {β ds : List D} : d_lis_barred.run β ds = bodyRun false 1 (c_lis_barred.den g_lis_barred) β ds := by unfold d_lis_barred; exact fdrun
def q_lparts_0 : C := .lc [("v", 3), ("room", 11)] (.var 3) (.tp [(.nm 3), (.nm 11)]) (.enum (.ix (.var 0) (.int 0))) (.so (.and (.cons (.cmp .eq (.ix (.var 11) (.int 1)) (.str "bar")) (.cons (.cmp .isin (.ix (.var 11) (.int 0)) (.var 8)) .nil))))
def q_lparts_1 : C := .lc [("v", 3)] (.var 3) (.nm 3) (.seq (.var 10)) (.so (.cmp .isin (.var 3) (.var 8)))
def b_lparts_0 : Ss :=
  (.cons (.ife (.or (.cons (.cmp .notin (.var 4) (.var 8)) (.cons (.cmp .ne (.var 5) (.str "open")) .nil)))
    (.cons (.exp (.mut .append 7 (.cons (.var 8) .nil))) .nil)
    .nil)
  (.cons (.ife (.cmp .isin (.var 4) (.var 8))
    (.cons (.exp (.mut .append 7 (.cons (.bin .add (.var 8) (.tup (.cons (.var 3) .nil))) .nil))) .nil)
    .nil) .nil))
def b_lparts_1 : Ss :=
  (.cons (.ife (.cmp .gt (.var 3) (.int 0))
    (.cons (.set 7 (.lst .nil))
    (.cons (.fors (.nm 8) (.seq (.var 2))
      b_lparts_0)
    (.cons (.set 2 (.var 7)) .nil)))
    .nil) .nil)
def b_lparts_2 : Ss :=
  (.cons (.set 10 q_lparts_0)
  (.cons (.set 12 q_lparts_1)
  (.cons (.ife (.cmp .eq (.var 12) (.ite (.cmp .isin (.var 1) (.var 8)) (.var 10) (.lst .nil)))
    (.cons (.exp (.mut .append 9 (.cons (.var 8) .nil))) .nil)
    .nil) .nil)))
def c_lparts : Ss :=
  (.cons (.set 2 (.lst (.cons (.tup (.cons (.int 0) .nil)) .nil)))
  (.cons (.fors (.tp [(.nm 3), (.tp [(.nm 4), (.nm 5), (.nm 6)])]) (.enum (.ix (.var 0) (.int 0)))
    b_lparts_1)
  (.cons (.set 9 (.lst .nil))
  (.cons (.fors (.nm 8) (.seq (.var 2))
    b_lparts_2)
  (.cons (.ret (.blt .sorted (.cons (.var 9) .nil))) .nil)))))
def g_lparts : Gam := ⟨[], [], ["enumerate", "sorted"], []⟩
def d_lparts : FD := fdOf g_lparts false 2 11 c_lparts
theorem mt_lparts : d_lparts.mt = false := nr rfl
theorem np_lparts : d_lparts.np = 2 := nr rfl
theorem r_lparts {β ds : List D} : d_lparts.run β ds = bodyRun false 11 (c_lparts.den g_lparts) β ds := by unfold d_lparts; exact fdrun
def b_lway_has_bar_0 : Ss :=
  (.cons (.ife (.cmp .eq (.ix (.ix (.ix (.var 0) (.int 0)) (.var 1)) (.int 1)) (.str "bar"))
    (.cons (.ret (.bool true)) .nil)
    .nil)
  (.cons (.set 1 (.ix (.ix (.ix (.var 0) (.int 0)) (.var 1)) (.int 0))) .nil))
def c_lway_has_bar : Ss :=
  (.cons (.whl (.and (.cons (.cmp .isnot (.var 1) .non) (.cons (.cmp .gt (.var 1) (.int 0)) .nil)))
    b_lway_has_bar_0)
  (.cons (.ret (.bool false)) .nil))
def g_lway_has_bar : Gam := ⟨[], [], [], []⟩
def d_lway_has_bar : FD := fdOf g_lway_has_bar false 2 0 c_lway_has_bar
theorem mt_lway_has_bar : d_lway_has_bar.mt = false := nr rfl
theorem np_lway_has_bar : d_lway_has_bar.np = 2 := nr rfl
theorem r_lway_has_bar {β ds : List D} : d_lway_has_bar.run β ds = bodyRun false 0 (c_lway_has_bar.den g_lway_has_bar) β ds := by unfold d_lway_has_bar; exact fdrun
def q_lany_laid_0 : C := .lc [("v", 5)] (.var 5) (.nm 5) (.rng1 (.blt .len (.cons (.var 2) .nil))) (.so (.not (.call 1 (.cons (.var 1) (.cons (.var 5) .nil)))))
def q_lany_laid_1 : C := .lc [("room", 9)] (.var 9) (.nm 9) (.seq (.var 2)) (.so (.cmp .eq (.ix (.var 9) (.int 1)) (.str "lock")))
def b_lany_laid_0 : Ss :=
  (.cons (.set 5 (.ite (.and (.cons (.cmp .gt (.var 5) (.int 0)) (.cons (.cmp .eq (.callM 3 0 (.cons (.int 2) .nil)) (.int 0)) .nil))) (.ix (.ix (.var 2) (.var 5)) (.int 0)) (.var 5))) .nil)
def b_lany_laid_1 : Ss :=
  (.cons (.set 5 (.callM 3 0 (.cons (.blt .len (.cons (.var 2) .nil)) .nil)))
  (.cons (.fors (.nm 11) (.rng1 (.var 7))
    b_lany_laid_0)
  (.cons (.augIx 6 (.var 5) (.int 1)) .nil)))
def c_lany_laid : Ss :=
  (.cons (.par 2 3 (.ix (.var 1) (.int 0)) .non)
  (.cons (.ife (.call 0 (.cons (.var 1) .nil))
    (.cons (.set 4 q_lany_laid_0)
    (.cons (.set 3 (.callM 2 0 (.cons (.ite (.cmp .gt (.callM 3 0 (.cons (.int 4) .nil)) (.int 0)) (.var 4) (.lr (.blt .len (.cons (.var 2) .nil)))) .nil))) .nil))
    .nil)
  (.cons (.par 6 7 (.rep (.lst (.cons (.int 0) .nil)) (.blt .len (.cons (.var 2) .nil))) (.callM 3 0 (.cons (.int 4) .nil)))
  (.cons (.set 8 (.blt .len (.cons q_lany_laid_1 .nil)))
  (.cons (.fors (.nm 10) (.rng1 (.callM 2 0 (.cons (.lst (.cons (.var 8) (.cons (.var 8) (.cons (.bin .add (.var 8) (.int 1)) (.cons (.blt .max (.cons (.int 0) (.cons (.bin .sub (.var 8) (.int 1)) .nil))) (.cons (.callM 3 0 (.cons (.int 4) .nil)) .nil)))))) .nil)))
    b_lany_laid_1)
  (.cons (.ret (.tup (.cons (.var 3) (.cons (.blt .tuple (.cons (.var 6) .nil)) .nil)))) .nil))))))
def g_lany_laid : Gam := ⟨[("_law_is_barred", d_lis_barred), ("_law_way_has_bar", d_lway_has_bar), ("_law_some", d_lsome), ("_law_take", d_ltake)], [], ["range", "len", "list", "max", "tuple"], []⟩
def d_lany_laid : FD := fdOf g_lany_laid true 2 10 c_lany_laid
theorem mt_lany_laid : d_lany_laid.mt = true := nr rfl
theorem np_lany_laid : d_lany_laid.np = 2 := nr rfl
theorem r_lany_laid {β ds : List D} : d_lany_laid.run β ds = bodyRun true 10 (c_lany_laid.den g_lany_laid) β ds := by unfold d_lany_laid; exact fdrun
end W


set_option autoImplicit false
namespace W
open PySem PySem.Spec L2 Den
def c_is_integer : Ss :=
  (.cons (.ret (.and (.cons (.isi (.var 0) .int) (.cons (.not (.isi (.var 0) .bool)) .nil)))) .nil)
def g_is_integer : Gam := ⟨[], [], ["isinstance", "bool", "int"], []⟩
def d_is_integer : FD := fdOf g_is_integer false 1 0 c_is_integer
theorem mt_is_integer : d_is_integer.mt = false := nr rfl
theorem np_is_integer : d_is_integer.np = 1 := nr rfl
theorem r_is_integer {β ds : List D} : d_is_integer.run β ds = bodyRun false 0 (c_is_integer.den g_is_integer) β ds := by unfold d_is_integer; exact fdrun
def c_is_index : Ss :=
  (.cons (.ret (.and (.cons (.call 0 (.cons (.var 0) .nil)) (.cons (.chn .le .lt (.int 0) (.var 0) (.var 1)) .nil)))) .nil)
def g_is_index : Gam := ⟨[("is_integer", d_is_integer)], [], [], []⟩
def d_is_index : FD := fdOf g_is_index false 2 0 c_is_index
theorem mt_is_index : d_is_index.mt = false := nr rfl
theorem np_is_index : d_is_index.np = 2 := nr rfl
theorem r_is_index {β ds : List D} : d_is_index.run β ds = bodyRun false 0 (c_is_index.den g_is_index) β ds := by unfold d_is_index; exact fdrun
def q_is_ascending_0 : C := .lc [("one", 1), ("other", 2)] (.cmp .lt (.var 1) (.var 2)) (.tp [(.nm 1), (.nm 2)]) (.zip (.var 0) (.sl (.var 0) (.so (.int 1)) .no)) .no
def c_is_ascending : Ss :=
  (.cons (.ret (.blt .all (.cons q_is_ascending_0 .nil))) .nil)
def g_is_ascending : Gam := ⟨[], [], ["all", "zip"], []⟩
def d_is_ascending : FD := fdOf g_is_ascending false 1 2 c_is_ascending
theorem mt_is_ascending : d_is_ascending.mt = false := nr rfl
theorem np_is_ascending : d_is_ascending.np = 1 := nr rfl
theorem r_is_ascending {β ds : List D} : d_is_ascending.run β ds = bodyRun false 2 (c_is_ascending.den g_is_ascending) β ds := by unfold d_is_ascending; exact fdrun
def q_is_lot_0 : C := .lc [("part", 2)] (.call 0 (.cons (.var 2) (.cons (.var 1) .nil))) (.nm 2) (.seq (.var 0)) .no
def c_is_lot : Ss :=
  (.cons (.ife (.or (.cons (.not (.isi (.var 0) .tuple)) (.cons (.not (.blt .all (.cons q_is_lot_0 .nil))) .nil)))
    (.cons (.ret (.bool false)) .nil)
    .nil)
  (.cons (.ret (.call 1 (.cons (.var 0) .nil))) .nil))
def g_is_lot : Gam := ⟨[("is_index", d_is_index), ("is_ascending", d_is_ascending)], [], ["all", "isinstance", "tuple"], []⟩
def d_is_lot : FD := fdOf g_is_lot false 2 1 c_is_lot
theorem mt_is_lot : d_is_lot.mt = false := nr rfl
theorem np_is_lot : d_is_lot.np = 2 := nr rfl
theorem r_is_lot {β ds : List D} : d_is_lot.run β ds = bodyRun false 1 (c_is_lot.den g_is_lot) β ds := by unfold d_is_lot; exact fdrun
def c_stands_right : Ss :=
  (.cons (.asg (.tp [(.nm 4), (.nm 5), (.nm 6)]) (.ix (.ix (.var 0) (.int 0)) (.var 3)))
  (.cons (.ife (.cmp .notin (.var 4) (.var 2))
    (.cons (.ret (.cmp .notin (.var 3) (.var 2))) .nil)
    .nil)
  (.cons (.ife (.cmp .eq (.var 5) (.str "open"))
    (.cons (.ret (.cmp .isin (.var 3) (.var 2))) .nil)
    .nil)
  (.cons (.ife (.cmp .eq (.var 5) (.str "bar"))
    (.cons (.ret (.cmp .eq (.cmp .isin (.var 3) (.var 2)) (.cmp .isin (.ix (.var 1) (.int 0)) (.var 2)))) .nil)
    .nil)
  (.cons (.ret (.bool true)) .nil)))))
def g_stands_right : Gam := ⟨[], [], [], []⟩
def d_stands_right : FD := fdOf g_stands_right false 4 3 c_stands_right
theorem mt_stands_right : d_stands_right.mt = false := nr rfl
theorem np_stands_right : d_stands_right.np = 4 := nr rfl
theorem r_stands_right {β ds : List D} : d_stands_right.run β ds = bodyRun false 3 (c_stands_right.den g_stands_right) β ds := by unfold d_stands_right; exact fdrun
def q_is_part_0 : C := .lc [("v", 4)] (.call 1 (.cons (.var 0) (.cons (.var 1) (.cons (.var 2) (.cons (.var 4) .nil))))) (.nm 4) (.rng2 (.int 1) (.var 3)) .no
def c_is_part : Ss :=
  (.cons (.set 3 (.blt .len (.cons (.ix (.var 0) (.int 0)) .nil)))
  (.cons (.ife (.or (.cons (.not (.call 0 (.cons (.var 2) (.cons (.var 3) .nil)))) (.cons (.cmp .notin (.int 0) (.var 2)) .nil)))
    (.cons (.ret (.bool false)) .nil)
    .nil)
  (.cons (.ret (.blt .all (.cons q_is_part_0 .nil))) .nil)))
def g_is_part : Gam := ⟨[("is_lot", d_is_lot), ("stands_right", d_stands_right)], [], ["len", "all", "range"], []⟩
def d_is_part : FD := fdOf g_is_part false 3 2 c_is_part
theorem mt_is_part : d_is_part.mt = false := nr rfl
theorem np_is_part : d_is_part.np = 3 := nr rfl
theorem r_is_part {β ds : List D} : d_is_part.run β ds = bodyRun false 2 (c_is_part.den g_is_part) β ds := by unfold d_is_part; exact fdrun
def q_all_parts_0 : C := .lc [("lot", 4)] (.tupD (.star (.var 4) (.one (.var 3) .nil))) (.nm 4) (.seq (.var 2)) (.so (.cmp .isin (.ix (.ix (.ix (.var 0) (.int 0)) (.var 3)) (.int 0)) (.var 4)))
def q_all_parts_1 : C := .lc [("lot", 4)] (.var 4) (.nm 4) (.seq (.var 2)) (.so (.call 0 (.cons (.var 0) (.cons (.var 1) (.cons (.var 4) .nil)))))
def b_all_parts_0 : Ss :=
  (.cons (.set 2 (.bin .add (.var 2) q_all_parts_0)) .nil)
def c_all_parts : Ss :=
  (.cons (.set 2 (.lst (.cons (.tup (.cons (.int 0) .nil)) .nil)))
  (.cons (.fors (.nm 3) (.rng2 (.int 1) (.blt .len (.cons (.ix (.var 0) (.int 0)) .nil)))
    b_all_parts_0)
  (.cons (.ret (.blt .sorted (.cons q_all_parts_1 .nil))) .nil)))
def g_all_parts : Gam := ⟨[("is_part", d_is_part)], [], ["range", "len", "sorted"], []⟩
def d_all_parts : FD := fdOf g_all_parts false 2 3 c_all_parts
theorem mt_all_parts : d_all_parts.mt = false := nr rfl
theorem np_all_parts : d_all_parts.np = 2 := nr rfl
theorem r_all_parts {β ds : List D} : d_all_parts.run β ds = bodyRun false 3 (c_all_parts.den g_all_parts) β ds := by unfold d_all_parts; exact fdrun
def q_net_of_0 : C := .lc [("v", 4)] (.ix (.ix (.var 1) (.int 1)) (.var 4)) (.nm 4) (.seq (.var 2)) .no
def q_net_of_1 : C := .lc [("v", 4)] (.var 4) (.nm 4) (.seq (.var 2)) (.so (.cmp .eq (.ix (.ix (.ix (.var 0) (.int 0)) (.var 4)) (.int 1)) (.str "lock")))
def c_net_of : Ss :=
  (.cons (.set 3 (.blt .sum (.cons q_net_of_0 .nil)))
  (.cons (.ret (.bin .sub (.var 3) (.blt .len (.cons q_net_of_1 .nil)))) .nil))
def g_net_of : Gam := ⟨[], [], ["sum", "len"], []⟩
def d_net_of : FD := fdOf g_net_of false 3 2 c_net_of
theorem mt_net_of : d_net_of.mt = false := nr rfl
theorem np_net_of : d_net_of.np = 3 := nr rfl
theorem r_net_of {β ds : List D} : d_net_of.run β ds = bodyRun false 2 (c_net_of.den g_net_of) β ds := by unfold d_net_of; exact fdrun
def q_lnet_0 : C := .lc [("v", 3)] (.ix (.var 1) (.var 3)) (.nm 3) (.seq (.var 2)) .no
def q_lnet_1 : C := .lc [("v", 3)] (.var 3) (.nm 3) (.seq (.var 2)) (.so (.cmp .eq (.ix (.ix (.ix (.var 0) (.int 0)) (.var 3)) (.int 1)) (.str "lock")))
def c_lnet : Ss :=
  (.cons (.ret (.bin .sub (.blt .sum (.cons q_lnet_0 .nil)) (.blt .len (.cons q_lnet_1 .nil)))) .nil)
def g_lnet : Gam := ⟨[], [], ["sum", "len"], []⟩
def d_lnet : FD := fdOf g_lnet false 3 1 c_lnet
theorem mt_lnet : d_lnet.mt = false := nr rfl
theorem np_lnet : d_lnet.np = 3 := nr rfl
theorem r_lnet {β ds : List D} : d_lnet.run β ds = bodyRun false 1 (c_lnet.den g_lnet) β ds := by unfold d_lnet; exact fdrun
end W


set_option autoImplicit false
namespace W
open PySem PySem.Spec L2 Den
theorem alike_ok {d : D} (h : Fine d) : d_lalike.run [] [d, d] = some (.va (.bool true), []) := by
  rw [r_lalike]
  simp! [c_lalike, eq_fine h, repr_fine h]
def Bag (β : List D) : Prop := ∃ (a b c : Int) (cs : List Int), β = [.int a, .int b, .int c, .list (cs.map .int)] ∧ 0 ≤ a ∧ 0 ≤ c ∧ cs.length ≤ 63 ∧ ∀ x ∈ cs, 0 ≤ x
theorem first_cell {cs : List Int} {c : Int} (hc : 0 ≤ c) (h : ∀ x ∈ cs, 0 ≤ x) : ∃ x, 0 ≤ x ∧ atI (cutD (cs.map PyData.int) (some c) none ++ [.int 0]) 0 = some (.int x) := by
  unfold cutD
  rw [sIx_int hc]
  cases e : (List.take (HT.sIx (cs.map PyData.int).length (cs.map PyData.int).length none - min c.toNat (cs.map PyData.int).length) (List.drop (min c.toNat (cs.map PyData.int).length) (cs.map PyData.int))) with
  | nil => exact ⟨0, by omega, at_zero⟩
  | cons d ds =>
    have hd : d ∈ cs.map PyData.int := List.mem_of_mem_drop (List.mem_of_mem_take (e ▸ List.mem_cons_self))
    obtain ⟨x, hx, rfl⟩ := List.mem_map.mp hd
    exact ⟨x, h x hx, at_zero⟩
theorem cut_len {α : Type} {xs : List α} {lo hi : Option Int} : (cutD xs lo hi).length ≤ xs.length := by
  unfold cutD
  rw [List.length_take, List.length_drop]
  omega
theorem take_ok {β : List D} {m : Int} (hb : Bag β) (h0 : 0 < m) (h1 : m < 18446744073709551616) : ∃ v β', 0 ≤ v ∧ v < m ∧ Bag β' ∧ d_ltake.run β [.int m] = some (.va (.int v), β') := by
  obtain ⟨a, b, c, cs, rfl, ha, hc, hl, hx⟩ := hb
  obtain ⟨x, hx0, hx1⟩ := first_cell hc hx
  have hlen : (cutD (cs.map PyData.int) (some c) none).length + [PyData.int 0].length ≤ lim := by
    have := cut_len (xs := cs.map PyData.int) (lo := some c) (hi := none)
    rw [List.length_map] at this
    simp only [List.length_cons, List.length_nil]
    show _ ≤ 1000000
    omega
  have hm0 : ∀ y : Int, 0 ≤ y % m := fun y => Int.emod_nonneg _ (by omega)
  have hm1 : ∀ y : Int, y % m < m := fun y => Int.emod_lt_of_pos _ h0
  by_cases h : a = 0
  · subst h
    by_cases hbig : (10 : Int) ^ 18 ≤ x
    · have hx18 : (1000000000000000000 : Int) ≤ x := hbig
      have hpos : 0 < x := by omega
      refine ⟨x % m, [.int (x / m), .int ((b * 48271 + x % 2147483647 + 7919 * (c + 1)) % 2147483647), .int (c + 1), .list (cs.map .int)], hm0 _, hm1 _, ⟨_, _, _, cs, rfl, Int.ediv_nonneg hx0 (by omega), by omega, hl, hx⟩, ?_⟩
      rw [r_ltake]
      simp! [c_ltake, hx1, add_lst hlen, pop, mod_pos, div_wide, mul_small, hx18, h0, h1, hpos]
    · have hx18 : ¬ (1000000000000000000 : Int) ≤ x := hbig
      generalize hb' : (b * 48271 + x % 2147483647 + 7919 * (c + 1)) % 2147483647 = b'
      refine ⟨(((b' + 1) * 39373 % 1000000007 * ((b' + 1) * 39373 % 1000000007)) % 998244353 * 30011 % 998244353) / 7 % m, [.int 0, .int b', .int (c + 1), .list (cs.map .int)], hm0 _, hm1 _, ⟨_, _, _, cs, rfl, ha, by omega, hl, hx⟩, ?_⟩
      rw [r_ltake]
      simp! [c_ltake, hx1, add_lst hlen, pop, mod_pos, div_wide, mul_mod, mul_small, hx18, h0, h1, hb']
  · have hpos : 0 < a := by omega
    refine ⟨a % m, [.int (a / m), .int b, .int c, .list (cs.map .int)], hm0 _, hm1 _, ⟨_, _, _, cs, rfl, Int.ediv_nonneg ha (by omega), hc, hl, hx⟩, ?_⟩
    rw [r_ltake]
    simp! [c_ltake, mod_pos, div_wide, h0, h1, h, hpos]

theorem bag_ok {ns : List Int} (h : ns.length ≤ 63) : ∃ β, Bag β ∧ d_lbag.run [] [.list (ns.map .int)] = some (.ls β, []) := by
  have hc : cutD (ns.map PyData.int) none (some 63) = ns.map PyData.int := by
    unfold cutD
    rw [sIx_int (by omega), HT.sIx_none]
    simp only [List.drop_zero, Nat.sub_zero, List.length_map]
    rw [show min (Int.toNat 63) ns.length = ns.length from by simp; omega]
    rw [List.take_of_length_le (by simp)]
  refine ⟨[.int 0, .int 1234567891, .int 0, .list (ns.map fun i => PyData.int (if i < 0 then -i else i))], ⟨0, 1234567891, 0, ns.map fun i => if i < 0 then -i else i, by simp, by omega, by omega, by simpa using h, fun x hx => ?_⟩, ?_⟩
  · obtain ⟨i, _, rfl⟩ := List.mem_map.mp hx
    split <;> omega
  · have hl2 : ns.length ≤ lim := Nat.le_trans h (by decide)
    rw [r_lbag]
    simp! [c_lbag, q_lbag_0, fLc, fIt, its, wipeL, hc, hl2]
    rw [lc_map (g := fun d => match d with | .int i => .int (if i < 0 then -i else i) | d => d)]
    · simp! [restL]
    · intro d hd
      obtain ⟨i, _, rfl⟩ := List.mem_map.mp hd
      exact ⟨[.va (.list (ns.map .int)), .va (.int i)], by simp! [], [.va (.list (ns.map .int)), .va (.int i)], by simp! [], by simp [wipeL]⟩
theorem some_ok {β things : List D} (hb : Bag β) (h0 : things ≠ []) (h1 : things.length ≤ 1000) : ∃ (v : Nat) (x : D) (β' : List D), things[v]? = some x ∧ Bag β' ∧ d_lsome.run β [.list things] = some (.va x, β') := by
  have hl : 0 < things.length := List.length_pos_iff.mpr h0
  obtain ⟨v, β', v0, v1, b', e⟩ := take_ok (m := things.length) hb (by omega) (by omega)
  obtain ⟨n, rfl⟩ : ∃ n : Nat, v = n := ⟨v.toNat, by omega⟩
  have hn : n < things.length := by omega
  refine ⟨n, things[n], β', List.getElem?_eq_getElem hn, b', ?_⟩
  rw [r_lsome]
  simp! [c_lsome, g_lsome, e, mt_ltake, np_ltake, at_nat (List.getElem?_eq_getElem hn)]
end W


set_option autoImplicit false
namespace W
open PySem PySem.Spec L2 Den
def Pl (s : Sl) : Prop := s = .no ∨ ∃ d, s = .va d
theorem pl_no : Pl .no := .inl rfl
theorem pl_va {d : D} : Pl (.va d) := .inr ⟨d, rfl⟩
end W


set_option autoImplicit false
namespace W
open PySem PySem.Spec L2 Den
structure Rm where
  par : Option Nat
  way : D
  ch : Int
def pD : Option Nat → D
  | none => .none
  | some p => .int (p : Int)
def roomD (r : Rm) : D := .tuple [pD r.par, r.way, .int r.ch]
def dunD (rs : List Rm) (k : Int) : D := .tuple [.tuple (rs.map roomD), .int k]
structure Dun (rs : List Rm) : Prop where
  len0 : 0 < rs.length
  len1 : rs.length ≤ 11
  root : ∀ r, rs[0]? = some r → r.par = none ∧ r.way = .none
  par : ∀ i r, rs[i]? = some r → 0 < i → ∃ p, r.par = some p ∧ p < i
  way : ∀ i r, rs[i]? = some r → 0 < i → r.way = .str "open" ∨ r.way = .str "lock" ∨ r.way = .str "bar"
  ch : ∀ r ∈ rs, 0 ≤ r.ch ∧ r.ch ≤ 2
def parOf (rs : List Rm) (v : Nat) : Option Nat := rs[v]?.bind Rm.par
theorem par_lt {rs : List Rm} (h : Dun rs) {v p : Nat} (e : parOf rs v = some p) : p < v := by
  unfold parOf at e
  cases hr : rs[v]? with
  | none => rw [hr] at e; cases e
  | some r =>
    rw [hr] at e
    have e2 : r.par = some p := e
    by_cases h0 : v = 0
    · subst h0
      rw [(h.root r hr).1] at e2
      cases e2
    · obtain ⟨q, e3, hq⟩ := h.par v r hr (by omega)
      rw [e3] at e2
      cases e2
      exact hq
def upN (rs : List Rm) : Nat → Option Nat → List Nat
  | 0, _ => []
  | _ + 1, none => []
  | n + 1, some v => v :: upN rs n (parOf rs v)
theorem upN_none {rs : List Rm} : ∀ n, upN rs n none = []
  | 0 => rfl
  | _ + 1 => rfl
theorem upN_eq {rs : List Rm} (h : Dun rs) : ∀ (v n m : Nat), v < n → v < m → upN rs n (some v) = upN rs m (some v) := by
  intro v
  induction v using Nat.strongRecOn with
  | ind v ih =>
    intro n m hn hm
    match n, m, hn, hm with
    | n + 1, m + 1, hn, hm =>
      unfold upN
      cases e : parOf rs v with
      | none => rw [upN_none, upN_none]
      | some p =>
        have := par_lt h e
        rw [ih p this n m (by omega) (by omega)]
def up (rs : List Rm) (v : Nat) : List Nat := upN rs rs.length (some v)
theorem up_cons {rs : List Rm} (h : Dun rs) {v : Nat} (hv : v < rs.length) : up rs v = v :: (match parOf rs v with | none => [] | some p => up rs p) := by
  unfold up
  obtain ⟨n, hn⟩ : ∃ n, rs.length = n + 1 := ⟨rs.length - 1, by omega⟩
  rw [hn]
  conv => lhs; unfold upN
  cases e : parOf rs v with
  | none => rw [upN_none]
  | some p =>
    have := par_lt h e
    rw [upN_eq h p n (n + 1) (by omega) (by omega)]
theorem up_le {rs : List Rm} (h : Dun rs) : ∀ (v : Nat), v < rs.length → ∀ u ∈ up rs v, u ≤ v := by
  intro v
  induction v using Nat.strongRecOn with
  | ind v ih =>
    intro hv u hu
    rw [up_cons h hv] at hu
    rcases List.mem_cons.mp hu with z | z
    · omega
    · cases e : parOf rs v with
      | none => rw [e] at z; cases z
      | some p =>
        rw [e] at z
        have := par_lt h e
        have := ih p this (by omega) u z
        omega
theorem room_at {rs : List Rm} {v : Nat} (hv : v < rs.length) : atI (rs.map roomD) ((v : Nat) : Int) = some (roomD rs[v]) := at_nat (by rw [List.getElem?_map, List.getElem?_eq_getElem hv]; rfl)
theorem parOf_at {rs : List Rm} {v : Nat} (hv : v < rs.length) : parOf rs v = rs[v].par := by
  unfold parOf
  rw [List.getElem?_eq_getElem hv]
  rfl
theorem nD_app {a b : List Nat} : nD (a ++ b) = nD a ++ nD b := List.map_append ..
theorem nD_one {a : Nat} : nD [a] = [.int (a : Int)] := rfl
end W


set_option autoImplicit false
namespace W
open PySem PySem.Spec L2 Den
variable {rs : List Rm} {k : Int}
theorem eqr {d : FD} {β ds : List D} {r : RR} {β' : List D} (h : Ans (d.run β ds) fun r' b => r' = r ∧ b = β') : d.run β ds = some (r, β') := by
  obtain ⟨r', b, e, rfl, rfl⟩ := h
  exact e
def hang (rs : List Rm) (v u : Nat) : Bool := decide (v ∈ up rs u)
theorem lim_11 {n : Nat} (h : n ≤ 11) : n ≤ lim := by show n ≤ 1000000; omega
theorem rng_ok {n : Nat} (h : n ≤ 11) : (-1000000 : Int) ≤ (n : Int) ∧ (n : Int) ≤ 1000000 := by omega
theorem hang_self (h : Dun rs) {v : Nat} (hv : v < rs.length) : hang rs v v = true := by
  unfold hang
  rw [up_cons h hv]
  simp
theorem hang_lt (h : Dun rs) {v u : Nat} (hu : u < rs.length) (hl : u < v) : hang rs v u = false := by
  unfold hang
  rw [decide_eq_false_iff_not]
  intro z
  have := up_le h u hu v z
  omega
theorem below (h : Dun rs) {v : Nat} (hv : v < rs.length) : (List.range (v + 1)).filter (hang rs v) = [v] := by
  rw [List.range_succ, List.filter_append]
  have e1 : (List.range v).filter (hang rs v) = [] := by
    rw [List.filter_eq_nil_iff]
    intro u hu
    have := List.mem_range.mp hu
    rw [hang_lt h (by omega) this]
    simp
  rw [e1]
  simp [hang_self h hv]
theorem par_some (h : Dun rs) {u : Nat} (hu : u < rs.length) (h0 : 0 < u) : ∃ p, parOf rs u = some p ∧ p < u ∧ rs[u].par = some p := by
  obtain ⟨p, e, hp⟩ := h.par u rs[u] (List.getElem?_eq_getElem hu) h0
  exact ⟨p, by rw [parOf_at hu]; exact e, hp, e⟩
end W


set_option autoImplicit false
namespace W
open PySem PySem.Spec L2 Den
variable {rs : List Rm} {k : Int}
def upO (rs : List Rm) : Option Nat → List Nat
  | none => []
  | some p => up rs p
theorem up_cons2 (h : Dun rs) {v : Nat} (hv : v < rs.length) : up rs v = v :: upO rs (parOf rs v) := by
  rw [up_cons h hv]
  cases parOf rs v <;> rfl
def isBarD : D → Bool
  | .str x => x == ("bar" : Str)
  | _ => false
def isBar (rs : List Rm) (v : Nat) : Bool := match rs[v]? with
  | some r => isBarD r.way
  | none => false
theorem bar_at (h : Dun rs) {v : Nat} (hv : v < rs.length) : φEq rs[v].way (.str "bar") = some (.va (.bool (isBar rs v))) := by
  unfold isBar
  rw [List.getElem?_eq_getElem hv]
  show φEq rs[v].way (.str "bar") = some (RR.va (.bool (isBarD rs[v].way)))
  by_cases h0 : v = 0
  · subst h0
    rw [(h.root rs[0] (List.getElem?_eq_getElem hv)).2]
    exact if_pos (.inl ⟨rfl, by decide +kernel⟩)
  · rcases h.way v rs[v] (List.getElem?_eq_getElem hv) (by omega) with e | e | e <;> rw [e] <;> exact eq_str
theorem bools_map {α : Type} {f : α → Bool} : ∀ {l : List α}, boolsOf (l.map fun a => .bool (f a)) = some (l.map f)
  | [] => rfl
  | a :: l => by
    rw [List.map_cons, boolsOf, bools_map]
    rfl
end W


set_option autoImplicit false
namespace W
open PySem PySem.Spec L2 Den
variable {rs : List Rm} {k : Int}
theorem some_p {β things : List D} (P : D → Prop) (hb : Bag β) (h0 : things ≠ []) (h1 : things.length ≤ 1000) (hp : ∀ x ∈ things, P x) : ∃ x β', P x ∧ Bag β' ∧ d_lsome.run β [.list things] = some (.va x, β') := by
  obtain ⟨v, x, β', e, b, r⟩ := some_ok hb h0 h1
  exact ⟨x, β', hp x (List.mem_of_getElem? e), b, r⟩
def WayOk (w : D) : Prop := w = .str "open" ∨ w = .str "lock" ∨ w = .str "bar"
theorem dun_app (h : Dun rs) (hl : rs.length < 11) {p : Nat} (hp : p < rs.length) {w : D} (hw : WayOk w) {c : Int} (hc : 0 ≤ c ∧ c ≤ 2) : Dun (rs ++ [⟨some p, w, c⟩]) := by
  have old : ∀ {i : Nat} {r : Rm}, (rs ++ [⟨some p, w, c⟩])[i]? = some r → (i < rs.length ∧ rs[i]? = some r) ∨ (i = rs.length ∧ r = ⟨some p, w, c⟩) := fun {i r} e => by
    by_cases hi : i < rs.length
    · rw [List.getElem?_append_left hi] at e
      exact .inl ⟨hi, e⟩
    · rw [List.getElem?_append_right (by omega)] at e
      by_cases h0 : i - rs.length = 0
      · rw [h0] at e
        cases e
        exact .inr ⟨by omega, rfl⟩
      · obtain ⟨m, hm⟩ : ∃ m, i - rs.length = m + 1 := ⟨i - rs.length - 1, by omega⟩
        rw [hm] at e
        cases e
  refine ⟨by simp, by simp; omega, fun r e => ?_, fun i r e hi => ?_, fun i r e hi => ?_, fun r hr => ?_⟩
  · rcases old e with ⟨_, e⟩ | ⟨e, _⟩
    · exact h.root r e
    · have := h.len0
      omega
  · rcases old e with ⟨_, e⟩ | ⟨rfl, rfl⟩
    · exact h.par i r e hi
    · exact ⟨p, rfl, hp⟩
  · rcases old e with ⟨_, e⟩ | ⟨rfl, rfl⟩
    · exact h.way i r e hi
    · exact hw
  · rcases List.mem_append.mp hr with z | z
    · exact h.ch r z
    · rw [List.mem_singleton.mp z]
      exact hc
theorem dun_one {c : Int} (hc : 0 ≤ c ∧ c ≤ 2) : Dun [⟨none, .none, c⟩] := by
  refine ⟨by simp, by simp, fun r e => ?_, fun i r e hi => ?_, fun i r e hi => ?_, fun r hr => ?_⟩
  · cases e
    exact ⟨rfl, rfl⟩
  · obtain ⟨m, rfl⟩ : ∃ m, i = m + 1 := ⟨i - 1, by omega⟩
    cases e
  · obtain ⟨m, rfl⟩ : ∃ m, i = m + 1 := ⟨i - 1, by omega⟩
    cases e
  · rw [List.mem_singleton.mp hr]
    exact hc
theorem dun_first (h : Dun rs) {c : Int} (hc : 0 ≤ c ∧ c ≤ 2) : Dun (⟨none, .none, c⟩ :: rs.drop 1) := by
  have hl := h.len0
  have hl1 := h.len1
  refine ⟨by simp, by simp; omega, fun r e => ?_, fun i r e hi => ?_, fun i r e hi => ?_, fun r hr => ?_⟩
  · cases e
    exact ⟨rfl, rfl⟩
  · obtain ⟨m, rfl⟩ : ∃ m, i = m + 1 := ⟨i - 1, by omega⟩
    rw [List.getElem?_cons_succ, List.getElem?_drop, Nat.add_comm] at e
    exact h.par _ r e (by omega)
  · obtain ⟨m, rfl⟩ : ∃ m, i = m + 1 := ⟨i - 1, by omega⟩
    rw [List.getElem?_cons_succ, List.getElem?_drop, Nat.add_comm] at e
    exact h.way _ r e (by omega)
  · rcases List.mem_cons.mp hr with z | z
    · rw [z]
      exact hc
    · exact h.ch r (List.mem_of_mem_drop z)
theorem sm_nat {n : Nat} (h : n ≤ 1000) : sm (.int (n : Int)) = true := by
  simp [sm]
  omega
theorem room_sm (h : Dun rs) {r : Rm} (hr : r ∈ rs) : sm (roomD r) = true ∧ (roomD r).depth ≤ 1 ∧ (roomD r).bulk ≤ 20 := by
  obtain ⟨i, hi, e⟩ := List.getElem_of_mem hr
  have e2 : rs[i]? = some r := by rw [List.getElem?_eq_getElem hi, e]
  obtain ⟨c0, c1⟩ := h.ch r hr
  have hc : sm (.int r.ch) = true := by
    simp [sm]
    omega
  have hl := h.len1
  have hp : sm (pD r.par) = true ∧ (pD r.par).depth = 0 ∧ (pD r.par).bulk = 0 := by
    by_cases h0 : i = 0
    · subst h0
      rw [(h.root r e2).1]
      exact ⟨rfl, by simp [pD, PyData.depth], by simp [pD, PyData.bulk]⟩
    · obtain ⟨p, e3, hp⟩ := h.par i r e2 (by omega)
      rw [e3]
      exact ⟨sm_nat (by omega), by simp [pD, PyData.depth], by simp [pD, PyData.bulk]⟩
  have hw : sm r.way = true ∧ r.way.depth = 0 ∧ r.way.bulk ≤ 4 := by
    by_cases h0 : i = 0
    · subst h0
      rw [(h.root r e2).2]
      exact ⟨rfl, by simp [PyData.depth], by simp [PyData.bulk]⟩
    · rcases h.way i r e2 (by omega) with z | z | z <;> rw [z]
      · exact ⟨by decide +kernel, by simp [PyData.depth], by decide +kernel⟩
      · exact ⟨by decide +kernel, by simp [PyData.depth], by decide +kernel⟩
      · exact ⟨by decide +kernel, by simp [PyData.depth], by decide +kernel⟩
  refine ⟨by simp [roomD, sm, sms, hp.1, hw.1, by simpa [sm] using hc], ?_, ?_⟩
  · simp only [roomD, PyData.depth, PyData.depthAll, hp.2.1, hw.2.1]
    omega
  · simp only [roomD, PyData.bulk, PyData.bulkAll, hp.2.2]
    have := hw.2.2
    omega
end W


set_option autoImplicit false
namespace W
open PySem PySem.Spec L2 Den
variable {rs : List Rm} {k : Int}
theorem ints_map {α : Type} {f : α → Int} : ∀ {l : List α}, intsOf (l.map fun a => .int (f a)) = some (l.map f)
  | [] => rfl
  | a :: l => by
    rw [List.map_cons, intsOf, ints_map]
    rfl
def isLockD : D → Bool
  | .str x => x == ("lock" : Str)
  | _ => false
theorem way_eq (h : Dun rs) {r : Rm} (hr : r ∈ rs) : φEq r.way (.str "lock") = some (.va (.bool (isLockD r.way))) ∧ φEq r.way (.str "bar") = some (.va (.bool (isBarD r.way))) := by
  obtain ⟨i, hi, e⟩ := List.getElem_of_mem hr
  have e2 : rs[i]? = some r := by rw [List.getElem?_eq_getElem hi, e]
  by_cases h0 : i = 0
  · subst h0
    rw [(h.root r e2).2]
    exact ⟨if_pos (.inl ⟨rfl, by decide +kernel⟩), if_pos (.inl ⟨rfl, by decide +kernel⟩)⟩
  · rcases h.way i r e2 (by omega) with z | z | z <;> rw [z] <;> exact ⟨eq_str, eq_str⟩
theorem ones_ne {n : Nat} : ∃ b : Bool, φNe (.list (nD (List.replicate n 1))) (.list []) = some (.va (.bool b)) := ⟨_, if_pos (.inl ⟨sh_nats.1, (sh_nats (ns := [])).1⟩)⟩
theorem ones {α : Type} {l : List α} {b : α → Bool} : ((l.filter b).map fun _ => (PyData.int 1)) = nD (List.replicate (l.filter b).length 1) := by
  rw [List.map_const', nD, List.map_replicate]
  rfl
theorem dungeon_ok2 {β : List D} {m : Int} (hb : Bag β) (h1 : 0 < m) (h2 : m ≤ 10) : Ans (d_ldungeon.run β [.int m]) fun r β' => ∃ rs k, r = .va (dunD rs k) ∧ (Dun rs ∧ (rs.length : Int) ≤ m) ∧ 0 ≤ k ∧ k ≤ 6 ∧ Bag β' := by
  rw [r_ldungeon]
  refine run_t ?_
  -- the first room
  obtain ⟨x1, β1, ⟨c1, rfl, hc1⟩, hb1, e1⟩ := some_p (things := [.int 1, .int 0, .int 1, .int 2]) (fun x => ∃ c : Int, x = .int c ∧ 0 ≤ c ∧ c ≤ 2) hb (by simp) (by simp) (by
    intro x hx
    simp only [List.mem_cons, List.not_mem_nil, or_false] at hx
    rcases hx with rfl | rfl | rfl | rfl <;> exact ⟨_, rfl, by omega, by omega⟩)
  obtain ⟨t2, β2, _, _, hb2, e2⟩ := take_ok (m := 2) hb1 (by omega) (by omega)
  refine ok_step (ρ1 := [.bg β2, .va (.int m), .ls ([⟨none, .none, c1⟩].map roomD), .va (.bool (t2 == 0)), .no, .no, .no, .no, .no, .no, .no]) (by simp! [g_ldungeon, mt_lsome, np_lsome, mt_ltake, np_ltake, e1, e2, roomD, pD]) ?_
  obtain ⟨t3, β3, t30, t31, hb3, e3⟩ := take_ok (m := m) hb2 (by omega) (by omega)
  generalize hf : (t2 == 0) = f
  have hrg : rng 1 (1 + t3) = nD (List.range' 1 t3.toNat) := by
    have q := rng_nat2 (a := 1) (n := 1 + t3.toNat) (by omega)
    rw [← List.range'_eq_map_range] at q
    have e : ((1 + t3.toNat : Nat) : Int) = 1 + t3 := by omega
    rw [e] at q
    rw [show 1 + t3.toNat - 1 = t3.toNat by omega] at q
    exact q
  refine ok_cons (ok_for (ds := nD (List.range' 1 t3.toNat)) (ρ1 := [.bg β3, .va (.int m), .ls ([⟨none, .none, c1⟩].map roomD), .va (.bool f), .no, .no, .no, .no, .no, .no, .no])
    (fun ds ρ => ∃ β rs s4 s5, ρ = [.bg β, .va (.int m), .ls (rs.map roomD), .va (.bool f), s4, s5, .no, .no, .no, .no, .no] ∧ Bag β ∧ Dun rs ∧ Pl s4 ∧ Pl s5 ∧ rs.length ≤ 1 + t3.toNat ∧ ds = nD (List.range' rs.length (1 + t3.toNat - rs.length)))
    (by rw [it_rng2 (x := 1) (y := 1 + t3) (ρ1 := [.bg β2, .va (.int m), .ls ([⟨none, .none, c1⟩].map roomD), .va (.bool f), .no, .no, .no, .no, .no, .no, .no]) (ρ2 := [.bg β3, .va (.int m), .ls ([⟨none, .none, c1⟩].map roomD), .va (.bool f), .no, .no, .no, .no, .no, .no, .no]) (by simp! []) (by simp! [g_ldungeon, mt_ltake, np_ltake, e3]) (by omega), hrg])
    ⟨β3, [⟨none, .none, c1⟩], .no, .no, rfl, hb3, dun_one hc1, pl_no, pl_no, by simp, by simp⟩ ?_ ?_)
  · rintro d ds ρ ⟨β, rs, s4, s5, rfl, hb, hd, p4, p5, hl, hds⟩
    obtain ⟨n, hn⟩ : ∃ n, 1 + t3.toNat - rs.length = n + 1 := by
      cases e : 1 + t3.toNat - rs.length with
      | zero => rw [e] at hds; cases hds
      | succ n => exact ⟨n, rfl⟩
    rw [hn, List.range'_succ] at hds
    have hdv : d = .int (rs.length : Int) := (List.cons.inj hds).1
    have hds2 : ds = nD (List.range' (rs.length + 1) n) := (List.cons.inj hds).2
    subst hdv
    have hl0 := hd.len0
    refine ⟨[.bg β, .va (.int m), .ls (rs.map roomD), .va (.bool f), .va (.int (rs.length : Int)), s5, .no, .no, .no, .no, .no], by rcases p4 with rfl | ⟨x, rfl⟩ <;> simp! [], ?_⟩
    obtain ⟨w, β4, hw, hb4, e4⟩ := some_p (things := [.str "open", .str "lock", .str "lock", .str (if f then "bar" else "lock")]) WayOk hb (by simp) (by simp) (by
      intro x hx
      simp only [List.mem_cons, List.not_mem_nil, or_false] at hx
      rcases hx with rfl | rfl | rfl | rfl
      · exact .inl rfl
      · exact .inr (.inl rfl)
      · exact .inr (.inl rfl)
      · cases f
        · exact .inr (.inl rfl)
        · exact .inr (.inr rfl))
    refine ok_step (ρ1 := [.bg β4, .va (.int m), .ls (rs.map roomD), .va (.bool f), .va (.int (rs.length : Int)), .va w, .no, .no, .no, .no, .no]) ?_ ?_
    · rcases p5 with rfl | ⟨x, rfl⟩ <;> cases f <;> (simp only [if_true, if_false, Bool.false_eq_true] at e4; simp! [g_ldungeon, mt_lsome, np_lsome, e4])
    obtain ⟨t5, β5, t50, t51, hb5, e5⟩ := take_ok (m := rs.length) hb4 (by omega) (by omega)
    obtain ⟨x6, β6, ⟨p, rfl, hp⟩, hb6, e6⟩ := some_p (things := [.int ((rs.length : Int) - 1), .int t5]) (fun x => ∃ p : Nat, x = .int (p : Int) ∧ p < rs.length) hb5 (by simp) (by simp) (by
      intro x hx
      simp only [List.mem_cons, List.not_mem_nil, or_false] at hx
      rcases hx with rfl | rfl
      · exact ⟨rs.length - 1, by congr 1; omega, by omega⟩
      · exact ⟨t5.toNat, by congr 1; omega, by omega⟩)
    obtain ⟨x7, β7, ⟨c7, rfl, hc7⟩, hb7, e7⟩ := some_p (things := [.int 1, .int 0, .int 1, .int 1, .int 2]) (fun x => ∃ c : Int, x = .int c ∧ 0 ≤ c ∧ c ≤ 2) hb6 (by simp) (by simp) (by
      intro x hx
      simp only [List.mem_cons, List.not_mem_nil, or_false] at hx
      rcases hx with rfl | rfl | rfl | rfl | rfl <;> exact ⟨_, rfl, by omega, by omega⟩)
    have cl : rs.length < lim := by
      show _ < 1000000
      omega
    refine ok_step (ρ1 := [.bg β7, .va (.int m), .ls ((rs ++ [(⟨some p, w, c7⟩ : Rm)]).map roomD), .va (.bool f), .va (.int (rs.length : Int)), .va w, .no, .no, .no, .no, .no]) (by simp! [g_ldungeon, mt_lsome, np_lsome, mt_ltake, np_ltake, e5, e6, e7, roomD, pD, cl]) ?_
    refine ok_nil ⟨β7, rs ++ [⟨some p, w, c7⟩], _, _, rfl, hb7, dun_app hd (by omega) hp hw hc7, pl_va, pl_va, by simp; omega, ?_⟩
    rw [hds2, List.length_append]
    simp
    congr 2
    omega
  · rintro ρ ⟨β, rs, s4, s5, rfl, hb, hd, p4, p5, hl, hds⟩
    have hl1 := hd.len1
    have q0 : (q_ldungeon_0).den g_ldungeon [.bg β, .va (.int m), .ls (rs.map roomD), .va (.bool f), s4, s5, .no, .no, .no, .no, .no] = some (.ls ((rs.filter fun r => isLockD r.way).map fun _ => .int 1), [.bg β, .va (.int m), .va (.list (rs.map roomD)), .va (.bool f), s4, s5, .no, .no, .no, .no, .no]) := by
      unfold q_ldungeon_0
      refine lc_of (l := rs) (f := roomD) (ρ1 := [.bg β, .va (.int m), .va (.list (rs.map roomD)), .va (.bool f), s4, s5, .no, .no, .no, .no, .no]) (by simp! [fIt, its]) (lim_11 hl1) (by rfl) (fun r hr => ?_)
      refine ⟨[.bg β, .va (.int m), .va (.list (rs.map roomD)), .va (.bool f), s4, s5, .no, .va (roomD r), .no, .no, .no], [.bg β, .va (.int m), .va (.list (rs.map roomD)), .va (.bool f), s4, s5, .no, .va (roomD r), .no, .no, .no], by rfl, ?_, fun _ => ⟨[.bg β, .va (.int m), .va (.list (rs.map roomD)), .va (.bool f), s4, s5, .no, .va (roomD r), .no, .no, .no], by rfl, by rfl⟩, fun _ => by rfl⟩
      simp! [roomD, (way_eq hd hr).1]
    rw [ones] at q0
    generalize hL : (rs.filter fun r => isLockD r.way).length = L at q0
    have hL2 : L ≤ 11 := by
      rw [← hL]
      exact Nat.le_trans (List.length_filter_le _ _) hl1
    refine ok_step (ρ1 := [.bg β, .va (.int m), .va (.list (rs.map roomD)), .va (.bool f), s4, s5, .va (.int (L : Int)), .no, .no, .no, .no]) (by simp! [q0, nD_len]) ?_
    have q1 : (q_ldungeon_1).den g_ldungeon [.bg β, .va (.int m), .va (.list (rs.map roomD)), .va (.bool f), s4, s5, .va (.int (L : Int)), .no, .no, .no, .no] = some (.ls ((rs.filter fun r => isBarD r.way).map fun _ => .int 1), [.bg β, .va (.int m), .va (.list (rs.map roomD)), .va (.bool f), s4, s5, .va (.int (L : Int)), .no, .no, .no, .no]) := by
      unfold q_ldungeon_1
      refine lc_of (l := rs) (f := roomD) (ρ1 := [.bg β, .va (.int m), .va (.list (rs.map roomD)), .va (.bool f), s4, s5, .va (.int (L : Int)), .no, .no, .no, .no]) (by simp! [fIt, its]) (lim_11 hl1) (by rfl) (fun r hr => ?_)
      refine ⟨[.bg β, .va (.int m), .va (.list (rs.map roomD)), .va (.bool f), s4, s5, .va (.int (L : Int)), .va (roomD r), .no, .no, .no], [.bg β, .va (.int m), .va (.list (rs.map roomD)), .va (.bool f), s4, s5, .va (.int (L : Int)), .va (roomD r), .no, .no, .no], by rfl, ?_, fun _ => ⟨[.bg β, .va (.int m), .va (.list (rs.map roomD)), .va (.bool f), s4, s5, .va (.int (L : Int)), .va (roomD r), .no, .no, .no], by rfl, by rfl⟩, fun _ => by rfl⟩
      simp! [roomD, (way_eq hd hr).2]
    rw [ones] at q1
    obtain ⟨b, hne⟩ := ones_ne (n := (rs.filter fun r => isBarD r.way).length)
    refine ok_step (ρ1 := [.bg β, .va (.int m), .va (.list (rs.map roomD)), .va (.bool f), s4, s5, .va (.int (L : Int)), .no, .va (.int (if b then 1 else 0)), .no, .no]) (by simp! [q1, hne]) ?_
    generalize hB : (if b then (1 : Int) else 0) = B
    have hB2 : 0 ≤ B ∧ B ≤ 1 := by
      rw [← hB]
      cases b <;> simp
    have q2 : (q_ldungeon_2).den g_ldungeon [.bg β, .va (.int m), .va (.list (rs.map roomD)), .va (.bool f), s4, s5, .va (.int (L : Int)), .no, .va (.int B), .no, .no] = some (.ls ((rs.filter fun _ => true).map fun r => .int r.ch), [.bg β, .va (.int m), .va (.list (rs.map roomD)), .va (.bool f), s4, s5, .va (.int (L : Int)), .no, .va (.int B), .no, .no]) := by
      unfold q_ldungeon_2
      refine lc_of (l := rs) (f := roomD) (ρ1 := [.bg β, .va (.int m), .va (.list (rs.map roomD)), .va (.bool f), s4, s5, .va (.int (L : Int)), .no, .va (.int B), .no, .no]) (by simp! [fIt, its]) (lim_11 hl1) (by rfl) (fun r hr => ?_)
      exact ⟨[.bg β, .va (.int m), .va (.list (rs.map roomD)), .va (.bool f), s4, s5, .va (.int (L : Int)), .va (roomD r), .va (.int B), .no, .no], [.bg β, .va (.int m), .va (.list (rs.map roomD)), .va (.bool f), s4, s5, .va (.int (L : Int)), .va (roomD r), .va (.int B), .no, .no], by rfl, by rfl, fun _ => ⟨[.bg β, .va (.int m), .va (.list (rs.map roomD)), .va (.bool f), s4, s5, .va (.int (L : Int)), .va (roomD r), .va (.int B), .no, .no], by simp! [roomD], by rfl⟩, fun _ => by rfl⟩
    rw [List.filter_eq_self.mpr (fun _ _ => rfl)] at q2
    generalize hM : (rs.map fun r => r.ch).sum = M
    refine ok_step (ρ1 := [.bg β, .va (.int m), .va (.list (rs.map roomD)), .va (.bool f), s4, s5, .va (.int (L : Int)), .no, .va (.int B), .va (.int M), .no]) (by simp! [q2, φSum, ints_map, hM]) ?_
    -- at least one chest where a big key is needed
    have mid : Ok (Ss.den g_ldungeon (.cons (.ife (.cmp .lt (.var 9) (.var 8))
        (.cons (.par 2 9 (.bin .add (.lst (.cons (.tup (.cons .non (.cons .non (.cons (.int 1) .nil)))) .nil)) (.sl (.var 2) (.so (.int 1)) .no)) (.int 1)) .nil)
        .nil) .nil) [.bg β, .va (.int m), .va (.list (rs.map roomD)), .va (.bool f), s4, s5, .va (.int (L : Int)), .no, .va (.int B), .va (.int M), .no])
        (fun o ρ => o = .nx ∧ ∃ rs' s2 M', ρ = [.bg β, .va (.int m), s2, .va (.bool f), s4, s5, .va (.int (L : Int)), .no, .va (.int B), .va (.int M'), .no] ∧ (s2 = .va (.list (rs'.map roomD)) ∨ s2 = .ls (rs'.map roomD)) ∧ Dun rs' ∧ rs'.length = rs.length) := by
      refine ok_cons (ok_if (v := decide (M < B)) (ρ1 := [.bg β, .va (.int m), .va (.list (rs.map roomD)), .va (.bool f), s4, s5, .va (.int (L : Int)), .no, .va (.int B), .va (.int M), .no]) (by simp! []) (fun _ => ?_) (fun _ => ?_))
      · have ecut : cutD (rs.map roomD) (some 1) none = (rs.map roomD).tail := by
          unfold cutD
          rw [sIx_int (by omega), HT.sIx_none, List.length_map]
          have hl0 := hd.len0
          rw [show min (Int.toNat 1) rs.length = 1 by simp; omega, List.drop_one]
          exact List.take_of_length_le (by simp)
        have hadd : φAdd (.list [.tuple [.none, .none, .int 1]]) (.list (rs.map roomD).tail) = some (.ls (.tuple [.none, .none, .int 1] :: (rs.map roomD).tail)) := add_lst (by
          simp
          show _ ≤ 1000000
          omega)
        refine ok_step (ρ1 := [.bg β, .va (.int m), .ls ((⟨none, .none, 1⟩ :: rs.drop 1).map roomD), .va (.bool f), s4, s5, .va (.int (L : Int)), .no, .va (.int B), .va (.int 1), .no]) (by simp! [ecut, hadd, roomD, pD]) ?_
        exact ok_nil (ok_nil ⟨rfl, _, _, _, rfl, .inr rfl, dun_first hd (by omega), by have := hd.len0; simp; omega⟩)
      · exact ok_nil (ok_nil ⟨rfl, rs, _, _, rfl, .inl rfl, hd, rfl⟩)
    obtain ⟨o, ρ5, em, rfl, rs', s2, M', rfl, hs2, hd', hlr⟩ := mid
    have em2 : S.den g_ldungeon (.ife (.cmp .lt (.var 9) (.var 8))
        (.cons (.par 2 9 (.bin .add (.lst (.cons (.tup (.cons .non (.cons .non (.cons (.int 1) .nil)))) .nil)) (.sl (.var 2) (.so (.int 1)) .no)) (.int 1)) .nil)
        .nil) [.bg β, .va (.int m), .va (.list (rs.map roomD)), .va (.bool f), s4, s5, .va (.int (L : Int)), .no, .va (.int B), .va (.int M), .no] = some (.nx, [.bg β, .va (.int m), s2, .va (.bool f), s4, s5, .va (.int (L : Int)), .no, .va (.int B), .va (.int M'), .no]) := by
      simp only [Ss.den, fSeq, fNop] at em
      obtain ⟨x, e1, e2⟩ := Option.bind_eq_some_iff.mp em
      obtain ⟨o, ρ6⟩ := x
      cases o with
      | nx =>
        cases e2
        exact e1
      | bk => cases e2
      | ct => cases e2
      | rt r => cases e2
    refine ok_step em2 ?_
    obtain ⟨x8, β8, ⟨c8, rfl, hc8⟩, hb8, e8⟩ := some_p (things := [.int (L : Int), .int (L : Int), .int (L : Int), .int ((L : Int) + 1), .int (if 1 < (L : Int) then (L : Int) - 1 else 0)]) (fun x => ∃ c : Int, x = .int c ∧ 0 ≤ c ∧ c ≤ 12) hb (by simp) (by simp) (by
      intro x hx
      simp only [List.mem_cons, List.not_mem_nil, or_false] at hx
      rcases hx with rfl | rfl | rfl | rfl | rfl
      · exact ⟨_, rfl, by omega, by omega⟩
      · exact ⟨_, rfl, by omega, by omega⟩
      · exact ⟨_, rfl, by omega, by omega⟩
      · exact ⟨_, rfl, by omega, by omega⟩
      · exact ⟨_, rfl, by split <;> omega, by split <;> omega⟩)
    refine ok_step (ρ1 := [.bg β8, .va (.int m), s2, .va (.bool f), s4, s5, .va (.int (L : Int)), .no, .va (.int B), .va (.int M'), .va (.int c8)]) (by simp! [g_ldungeon, mt_lsome, np_lsome, φMax, e8]) ?_
    generalize hk : (if (if 6 < (if M' - B < c8 then M' - B else c8) then 6 else (if M' - B < c8 then M' - B else c8)) > 0 then (if 6 < (if M' - B < c8 then M' - B else c8) then 6 else (if M' - B < c8 then M' - B else c8)) else (0 : Int)) = kk
    have hk2 : 0 ≤ kk ∧ kk ≤ 6 := by
      rw [← hk]
      repeat' split
      all_goals omega
    refine ok_last (r := .va (dunD rs' kk)) (ρ1 := [.bg β8, .va (.int m), s2, .va (.bool f), s4, s5, .va (.int (L : Int)), .no, .va (.int B), .va (.int M'), .va (.int c8)]) ?_ ⟨β8, rfl, rs', kk, rfl, ⟨hd', by omega⟩, hk2.1, hk2.2, hb8⟩
    rcases hs2 with rfl | rfl <;> simp! [φMax, φMin, dunD, ← hk]
end W


set_option autoImplicit false
namespace W
open PySem PySem.Spec L2 Den
def lot (n : Nat) (s : Nat → Bool) : List Nat := (List.range n).filter s
theorem mem_lot {n u : Nat} {s : Nat → Bool} : u ∈ lot n s ↔ u < n ∧ s u = true := by
  unfold lot
  rw [List.mem_filter, List.mem_range]
theorem lot_congr {n : Nat} {s t : Nat → Bool} (h : ∀ u, u < n → s u = t u) : lot n s = lot n t :=
  List.filter_congr fun u hu => h u (List.mem_range.mp hu)
theorem lot_succ {n : Nat} {s : Nat → Bool} : lot (n + 1) s = lot n s ++ (if s n then [n] else []) := by
  unfold lot
  rw [List.range_succ, List.filter_append]
  cases h : s n <;> simp [List.filter_cons, h]
theorem lot_len {n : Nat} {s : Nat → Bool} : (lot n s).length ≤ n := by
  have := List.length_filter_le s (List.range n)
  rw [List.length_range] at this
  exact this
theorem lot_asc {n : Nat} {s : Nat → Bool} : (lot n s).Pairwise (· < ·) := List.Pairwise.filter _ List.pairwise_lt_range
theorem asc_nodup {l : List Nat} (h : l.Pairwise (· < ·)) : l.Nodup := h.imp fun h => by omega
theorem asc_eq {l m : List Nat} (hl : l.Pairwise (· < ·)) (hm : m.Pairwise (· < ·)) (h : ∀ u, u ∈ l ↔ u ∈ m) : l = m := by
  refine List.Perm.eq_of_pairwise (le := fun a b => a < b) (fun a b _ _ h1 h2 => by omega) hl hm ?_
  exact (List.perm_ext_iff_of_nodup (asc_nodup hl) (asc_nodup hm)).mpr h
theorem lot_of {n : Nat} {l : List Nat} (hl : l.Pairwise (· < ·)) (hb : ∀ u ∈ l, u < n) : l = lot n fun u => decide (u ∈ l) := asc_eq hl lot_asc fun u => by
  rw [mem_lot]
  simp only [decide_eq_true_eq]
  exact ⟨fun h => ⟨hb u h, h⟩, fun h => h.2⟩
theorem eqv_nat {a b : Nat} : PyData.eqv (nI a) (nI b) = decide (a = b) := by
  simp only [PyData.eqv, nI]
  by_cases h : a = b
  · simp [h]
  · have : ((a : Int) == (b : Int)) = false := by
      rw [beq_eq_false_iff_ne]
      omega
    simp [this, h]
theorem eqvAll_nats : ∀ {a b : List Nat}, PyData.eqvAll (nD a) (nD b) = decide (a = b)
  | [], [] => by simp [nD, PyData.eqvAll]
  | [], y :: ys => by simp [nD, PyData.eqvAll]
  | x :: xs, [] => by simp [nD, PyData.eqvAll]
  | x :: xs, y :: ys => by
    have ih := eqvAll_nats (a := xs) (b := ys)
    have e : ∀ (z : Nat) (zs : List Nat), nD (z :: zs) = nI z :: nD zs := fun _ _ => rfl
    rw [e, e, PyData.eqvAll, ih, eqv_nat]
    by_cases h : x = y <;> by_cases h2 : xs = ys <;> simp [h, h2]
def tN (a : List Nat) : D := .tuple (nD a)
theorem sh_tN {a : List Nat} : SeqAt.shaped (tN a) = true := sh_nats.2
theorem eq_lN {a b : List Nat} : φEq (.list (nD a)) (.list (nD b)) = some (.va (.bool (decide (a = b)))) := by
  have q : φEq (.list (nD a)) (.list (nD b)) = some (.va (.bool (PyData.eqv (.list (nD a)) (.list (nD b))))) := if_pos (.inl ⟨sh_nats.1, sh_nats.1⟩)
  rw [q]
  simp only [PyData.eqv, eqvAll_nats]
theorem canLay_all {l : List D} (h : ∀ x ∈ l, x.canLay0 = true) : PyData.canLayAll0 l = true := by
  induction l with
  | nil => simp [PyData.canLayAll0]
  | cons x l ih =>
    rw [PyData.canLayAll0, h x List.mem_cons_self, ih fun y hy => h y (List.mem_cons_of_mem _ hy)]
    rfl
theorem sh_list {l : List D} (h : ∀ x ∈ l, x.canLay0 = true ∧ x.depth ≤ 60) : SeqAt.shaped (.list l) = true ∧ SeqAt.shaped (.tuple l) = true := by
  have a := canLay_all fun x hx => (h x hx).1
  have b : PyData.depthAll l ≤ 60 := depth_le fun x hx => (h x hx).2
  have e1 : PyData.depth (.list l) ≤ 64 := by
    simp only [PyData.depth]
    omega
  have e2 : PyData.depth (.tuple l) ≤ 64 := by
    simp only [PyData.depth]
    omega
  constructor
  · unfold SeqAt.shaped
    simp only [PyData.canLay0, a, Bool.true_and, decide_eq_true_eq]
    exact e1
  · unfold SeqAt.shaped
    simp only [PyData.canLay0, a, Bool.true_and, decide_eq_true_eq]
    exact e2
theorem tN_lay {a : List Nat} : (tN a).canLay0 = true ∧ (tN a).depth ≤ 1 := by
  refine ⟨SeqAt.canLay_of_shaped sh_tN, ?_⟩
  have b : PyData.depthAll (nD a) ≤ 0 := depth_le fun x hx => by
    obtain ⟨n, hn, rfl⟩ := List.mem_map.mp hx
    simp [PyData.depth, nI]
  simp only [tN, PyData.depth]
  omega
theorem sh_tNs {L : List (List Nat)} : SeqAt.shaped (.list (L.map tN)) = true ∧ SeqAt.shaped (.tuple (L.map tN)) = true := sh_list fun x hx => by
  obtain ⟨a, _, rfl⟩ := List.mem_map.mp hx
  have := tN_lay (a := a)
  exact ⟨this.1, by omega⟩
def oin (o : Option Nat) (l : List Nat) : Bool := match o with
  | none => false
  | some p => decide (p ∈ l)
theorem in_pD {l : List Nat} : ∀ o : Option Nat, φIn (pD o) (.tuple (nD l)) = some (.va (.bool (oin o l)))
  | none => in_noneT
  | some p => in_natT
theorem notin_noneT {ns : List Nat} : φNotIn .none (.tuple (nD ns)) = some (.va (.bool true)) := by
  unfold φNotIn
  simp only [sh_nats.2, any_none]
  exact if_pos ⟨rfl, trivial⟩
theorem notin_pD {l : List Nat} : ∀ o : Option Nat, φNotIn (pD o) (.tuple (nD l)) = some (.va (.bool (!oin o l)))
  | none => notin_noneT
  | some p => notin_natT
end W


set_option autoImplicit false
namespace W
open PySem PySem.Spec L2 Den
variable {rs : List Rm}
def isOpenD : D → Bool
  | .str x => x == ("open" : Str)
  | _ => false
def isOpn (rs : List Rm) (v : Nat) : Bool := match rs[v]? with
  | some r => isOpenD r.way
  | none => false
def isLck (rs : List Rm) (v : Nat) : Bool := match rs[v]? with
  | some r => isLockD r.way
  | none => false
def oinS (o : Option Nat) (s : Nat → Bool) : Bool := match o with
  | none => false
  | some p => s p
theorem oin_lot {n : Nat} {s : Nat → Bool} {o : Option Nat} (h : ∀ p, o = some p → p < n) : oin o (lot n s) = oinS o s := by
  cases o with
  | none => rfl
  | some p =>
    have hp := h p rfl
    show decide (p ∈ lot n s) = s p
    cases hs : s p with
    | true => exact decide_eq_true (mem_lot.mpr ⟨hp, hs⟩)
    | false =>
      refine decide_eq_false fun z => ?_
      rw [mem_lot, hs] at z
      cases z.2
theorem par_pos (h : Dun rs) {v p : Nat} (e : parOf rs v = some p) : 0 < v := by
  have := par_lt h e
  omega
theorem par_lt2 (h : Dun rs) {v p : Nat} (hv : v < rs.length) (e : parOf rs v = some p) : p < rs.length := by
  have := par_lt h e
  omega
theorem par_root (h : Dun rs) : parOf rs 0 = none := by
  have h0 := h.len0
  rw [parOf_at h0]
  exact (h.root _ (List.getElem?_eq_getElem h0)).1
theorem way_root (h : Dun rs) : isOpn rs 0 = false ∧ isLck rs 0 = false ∧ isBar rs 0 = false := by
  have h0 := h.len0
  have e := (h.root _ (List.getElem?_eq_getElem h0)).2
  unfold isOpn isLck isBar
  rw [List.getElem?_eq_getElem h0]
  simp only [e]
  exact ⟨rfl, rfl, rfl⟩
theorem way_one (h : Dun rs) {v : Nat} (hv : v < rs.length) (h0 : 0 < v) : (isOpn rs v = true ∧ isLck rs v = false ∧ isBar rs v = false) ∨ (isOpn rs v = false ∧ isLck rs v = true ∧ isBar rs v = false) ∨ (isOpn rs v = false ∧ isLck rs v = false ∧ isBar rs v = true) := by
  unfold isOpn isLck isBar
  have e := h.way v _ (List.getElem?_eq_getElem hv) h0
  rw [List.getElem?_eq_getElem hv]
  rcases e with e | e | e <;> simp only [e]
  · exact .inl ⟨by decide +kernel, by decide +kernel, by decide +kernel⟩
  · exact .inr (.inl ⟨by decide +kernel, by decide +kernel, by decide +kernel⟩)
  · exact .inr (.inr ⟨by decide +kernel, by decide +kernel, by decide +kernel⟩)
structure IsP (rs : List Rm) (big : Option Nat) (s : Nat → Bool) : Prop where
  root : s 0 = true
  par : ∀ v p, v < rs.length → parOf rs v = some p → s v = true → s p = true
  opn : ∀ v p, v < rs.length → parOf rs v = some p → isOpn rs v = true → s p = true → s v = true
  bar : ∀ v p, v < rs.length → parOf rs v = some p → isBar rs v = true → s p = true → s v = oinS big s
def ext (rs : List Rm) (v : Nat) (part : List Nat) : List (List Nat) :=
  (if (!oin (parOf rs v) part || !isOpn rs v) = true then [part] else []) ++ (if oin (parOf rs v) part = true then [part ++ [v]] else [])
def grow (rs : List Rm) : Nat → List (List Nat)
  | 0 => [[0]]
  | m + 1 => (grow rs m).flatMap (ext rs (m + 1))
def Gr (rs : List Rm) (m : Nat) (s : Nat → Bool) : Prop := s 0 = true ∧ ∀ v p, v ≤ m → parOf rs v = some p → (s v = true → s p = true) ∧ (isOpn rs v = true → s p = true → s v = true)
theorem mem_grow (h : Dun rs) : ∀ {m : Nat} {part : List Nat}, m < rs.length → (part ∈ grow rs m ↔ ∃ s, part = lot (m + 1) s ∧ Gr rs m s)
  | 0, part, hm => by
    rw [grow, List.mem_singleton]
    constructor
    · rintro rfl
      refine ⟨fun u => u == 0, by decide +kernel, rfl, fun v p hv e => ?_⟩
      have := par_pos h e
      omega
    · rintro ⟨s, rfl, h0, _⟩
      rw [lot_succ, h0]
      simp [lot]
  | m + 1, part, hm => by
    obtain ⟨q, eq, hq, _⟩ := par_some h hm (by omega)
    have ho : ∀ s : Nat → Bool, oin (parOf rs (m + 1)) (lot (m + 1) s) = s q := fun s => by
      rw [oin_lot (n := m + 1) (fun p e => by rw [eq] at e; cases e; exact hq), eq]
      rfl
    rw [grow, List.mem_flatMap]
    constructor
    · rintro ⟨old, hold, hx⟩
      obtain ⟨s, rfl, h0, hs⟩ := (mem_grow h (by omega)).mp hold
      unfold ext at hx
      rw [ho] at hx
      rcases List.mem_append.mp hx with hx | hx
      · by_cases hc : (!s q || !isOpn rs (m + 1)) = true
        · rw [if_pos hc, List.mem_singleton] at hx
          subst hx
          refine ⟨fun u => if u = m + 1 then false else s u, ?_, by simpa using h0, fun v p hv e => ?_⟩
          · rw [lot_succ (n := m + 1)]
            simp only [if_true, Bool.false_eq_true, if_false, List.append_nil]
            exact lot_congr fun u hu => by
              have : u ≠ m + 1 := by omega
              simp [this]
          · have hpv := par_lt h e
            have hp1 : p ≠ m + 1 := by omega
            by_cases hv1 : v = m + 1
            · subst hv1
              rw [eq] at e
              cases e
              simp only [if_true, hp1, if_false]
              refine ⟨(fun z => by cases z), fun a b => ?_⟩
              simp [a, b] at hc
            · simp only [hv1, hp1, if_false]
              exact hs v p (by omega) e
        · rw [if_neg hc] at hx
          cases hx
      · by_cases hc : s q = true
        · rw [if_pos hc, List.mem_singleton] at hx
          subst hx
          refine ⟨fun u => if u = m + 1 then true else s u, ?_, by simpa using h0, fun v p hv e => ?_⟩
          · rw [lot_succ (n := m + 1)]
            simp only [if_true]
            congr 1
            exact lot_congr fun u hu => by
              have : u ≠ m + 1 := by omega
              simp [this]
          · have hpv := par_lt h e
            have hp1 : p ≠ m + 1 := by omega
            by_cases hv1 : v = m + 1
            · subst hv1
              rw [eq] at e
              cases e
              simp [hp1, hc]
            · simp only [hv1, hp1, if_false]
              exact hs v p (by omega) e
        · rw [if_neg hc] at hx
          cases hx
    · rintro ⟨s, rfl, h0, hs⟩
      refine ⟨lot (m + 1) s, (mem_grow h (by omega)).mpr ⟨s, rfl, h0, fun v p hv e => hs v p (by omega) e⟩, ?_⟩
      obtain ⟨h1, h2⟩ := hs (m + 1) q (Nat.le_refl _) eq
      unfold ext
      rw [ho, lot_succ (n := m + 1)]
      cases a : s (m + 1) with
      | true => simp [h1 a]
      | false =>
        have : (!s q || !isOpn rs (m + 1)) = true := by
          cases b : s q <;> cases c : isOpn rs (m + 1) <;> simp
          have := h2 c b
          rw [a] at this
          cases this
        simp [this]
def barred (rs : List Rm) (part : List Nat) : List Nat := (List.range rs.length).filter fun v => isBar rs v && oin (parOf rs v) part
def keepB (rs : List Rm) (big : Option Nat) (part : List Nat) : Bool := decide ((barred rs part).filter (fun v => decide (v ∈ part)) = if oin big part = true then barred rs part else [])
def partsL (rs : List Rm) (big : Option Nat) : List (List Nat) := (grow rs (rs.length - 1)).filter (keepB rs big)
theorem mem_parts (h : Dun rs) {big : Option Nat} (hb : ∀ b, big = some b → b < rs.length) {part : List Nat} : part ∈ partsL rs big ↔ ∃ s, part = lot rs.length s ∧ IsP rs big s := by
  have hl := h.len0
  have hn : rs.length - 1 + 1 = rs.length := by omega
  unfold partsL
  rw [List.mem_filter, mem_grow h (by omega), hn]
  have key : ∀ s : Nat → Bool, keepB rs big (lot rs.length s) = true ↔ ∀ v p, v < rs.length → parOf rs v = some p → isBar rs v = true → s p = true → s v = oinS big s := fun s => by
    unfold keepB
    rw [decide_eq_true_eq, oin_lot hb]
    have hin : ∀ v, v ∈ barred rs (lot rs.length s) ↔ v < rs.length ∧ isBar rs v = true ∧ oinS (parOf rs v) s = true := fun v => by
      unfold barred
      rw [List.mem_filter, List.mem_range, Bool.and_eq_true]
      constructor
      · rintro ⟨a, b, c⟩
        rw [oin_lot (fun p e => par_lt2 h a e)] at c
        exact ⟨a, b, c⟩
      · rintro ⟨a, b, c⟩
        rw [oin_lot (fun p e => par_lt2 h a e)]
        exact ⟨a, b, c⟩
    cases hbg : oinS big s with
    | true =>
      simp only [if_true]
      rw [List.filter_eq_self]
      constructor
      · intro hh v p hv e b c
        have := hh v ((hin v).mpr ⟨hv, b, by rw [e]; exact c⟩)
        exact (mem_lot.mp (of_decide_eq_true this)).2
      · intro hh v hv
        obtain ⟨a, b, c⟩ := (hin v).mp hv
        cases e : parOf rs v with
        | none => rw [e] at c; cases c
        | some p =>
          rw [e] at c
          exact decide_eq_true (mem_lot.mpr ⟨a, hh v p a e b c⟩)
    | false =>
      simp only [Bool.false_eq_true, if_false]
      rw [List.filter_eq_nil_iff]
      constructor
      · intro hh v p hv e b c
        have := hh v ((hin v).mpr ⟨hv, b, by rw [e]; exact c⟩)
        cases hs : s v with
        | false => rfl
        | true => exact absurd (decide_eq_true (mem_lot.mpr ⟨hv, hs⟩)) this
      · intro hh v hv
        obtain ⟨a, b, c⟩ := (hin v).mp hv
        cases e : parOf rs v with
        | none => rw [e] at c; cases c
        | some p =>
          rw [e] at c
          have := hh v p a e b c
          intro z
          have z2 := (mem_lot.mp (of_decide_eq_true z)).2
          rw [this] at z2
          cases z2
  constructor
  · rintro ⟨⟨s, rfl, h0, hs⟩, hk⟩
    exact ⟨s, rfl, h0, fun v p hv e => (hs v p (by omega) e).1, fun v p hv e => (hs v p (by omega) e).2, (key s).mp hk⟩
  · rintro ⟨s, rfl, hp⟩
    exact ⟨⟨s, rfl, hp.root, fun v p hv e => ⟨hp.par v p (by omega) e, hp.opn v p (by omega) e⟩⟩, (key s).mpr hp.bar⟩
def frS (rs : List Rm) (big : Option Nat) (lk : List Nat) (s : Nat → Bool) (v : Nat) : Bool := isOpn rs v || (isLck rs v && decide (v ∈ lk)) || (isBar rs v && oinS big s)
def Cl (rs : List Rm) (big : Option Nat) (lk : List Nat) (s : Nat → Bool) : Prop := s 0 = true ∧ ∀ v p, v < rs.length → parOf rs v = some p → s p = true → frS rs big lk s v = true → s v = true
end W


set_option autoImplicit false
namespace W
open PySem PySem.Spec L2 Den
variable {rs : List Rm} {k : Int}
def isBgB : Sl → Bool
  | .bg _ => true
  | .bd _ => true
  | _ => false
def Nb (s : Sl) : Prop := isBgB s = false
theorem nb_at {ρ : Lo} {i : Nat} {s : Sl} (p : Nb s) (e : ρ[i]? = some s) : notBg ρ i = true := by
  unfold notBg
  rw [e]
  cases s <;> first | rfl | cases p
section
variable {Γ : Gam} {it : Ci} {ifs : Co} {elt c : C} {t : Tg} {ρ ρ1 ρ2 : Lo} {i j : Nat} {s s2 : Sl}
theorem set_get {x : Sl} (h : ρ[i]? = some s) : (ρ.set i x)[i]? = some x := by
  have hl := (List.getElem?_eq_some_iff.mp h).1
  exact List.getElem?_set_self hl
theorem set_back (h : ρ[i]? = some s) {x : Sl} : (ρ.set i x).set i s = ρ := by
  obtain ⟨hl, e⟩ := List.getElem?_eq_some_iff.mp h
  rw [List.set_set, ← e, List.set_getElem_self]
theorem nm_ok {d : D} (p : Nb s) (e : ρ[i]? = some s) (q : ρ.set i (.va d) = ρ2) : (Tg.nm i).den d ρ = some ρ2 := by
  simp only [Tg.den, gNm, nb_at p e, if_true, q]
theorem lc1 {α : Type} {f g : α → D} {b : α → Bool} {l : List α} {x : Str} (hi : it.den Γ ρ = some (l.map f, ρ1)) (hl : l.length ≤ lim) (hs : ρ1[i]? = some s)
    (ht : ∀ a ∈ l, ifs.denT Γ (ρ1.set i (.va (f a))) = some (b a, ρ1.set i (.va (f a))))
    (he : ∀ a ∈ l, b a = true → fF (elt.den Γ) (ρ1.set i (.va (f a))) = some (g a, ρ1.set i (.va (f a)))) :
    (C.lc [(x, i)] elt (.nm i) it ifs).den Γ ρ = some (.ls ((l.filter b).map g), ρ1) := by
  have w : wipeL ρ1 (([(x, i)] : List (Str × Nat)).map (·.2)) = ρ1.set i .no := rfl
  refine lc_of (l := l) (f := f) (g := g) (ρ1 := ρ1) hi hl ?_ (fun a ha => ?_)
  · rw [w]
    show (restL ρ1 (ρ1.set i .no) []).set i (ρ1[i]?.getD .no) = ρ1
    rw [hs]
    exact set_back hs
  · rw [w]
    have e : (Tg.nm i).den (f a) (ρ1.set i .no) = some (ρ1.set i (.va (f a))) := nm_ok (s := .no) rfl (set_get hs) (List.set_set ..)
    have bk : wipeL (ρ1.set i (.va (f a))) (([(x, i)] : List (Str × Nat)).map (·.2)) = ρ1.set i .no := List.set_set ..
    exact ⟨_, _, e, ht a ha, fun hb => ⟨_, he a ha hb, bk⟩, fun _ => bk⟩
theorem lc2 {α : Type} {f1 f2 g : α → D} {b : α → Bool} {l : List α} {x y : Str} (hij : i ≠ j) (hi : it.den Γ ρ = some (l.map (fun a => .tuple [f1 a, f2 a]), ρ1)) (hl : l.length ≤ lim) (hs : ρ1[i]? = some s) (hs2 : ρ1[j]? = some s2)
    (ht : ∀ a ∈ l, ifs.denT Γ ((ρ1.set i (.va (f1 a))).set j (.va (f2 a))) = some (b a, (ρ1.set i (.va (f1 a))).set j (.va (f2 a))))
    (he : ∀ a ∈ l, b a = true → fF (elt.den Γ) ((ρ1.set i (.va (f1 a))).set j (.va (f2 a))) = some (g a, (ρ1.set i (.va (f1 a))).set j (.va (f2 a)))) :
    (C.lc [(x, i), (y, j)] elt (.tp [.nm i, .nm j]) it ifs).den Γ ρ = some (.ls ((l.filter b).map g), ρ1) := by
  have w : ∀ ρ : Lo, wipeL ρ (([(x, i), (y, j)] : List (Str × Nat)).map (·.2)) = (ρ.set j .no).set i .no := fun _ => rfl
  have i1 : ∀ z, (ρ1.set j z)[i]? = some s := fun z => by rw [List.getElem?_set_ne (Ne.symm hij)]; exact hs
  refine lc_of (l := l) (f := fun a => .tuple [f1 a, f2 a]) (g := g) (ρ1 := ρ1) hi hl ?_ (fun a ha => ?_)
  · rw [w]
    show ((restL ρ1 ((ρ1.set j .no).set i .no) []).set j (ρ1[j]?.getD .no)).set i (ρ1[i]?.getD .no) = ρ1
    rw [hs, hs2]
    show (((ρ1.set j .no).set i .no).set j s2).set i s = ρ1
    have e1 : ((ρ1.set j .no).set i .no).set j s2 = ρ1.set i .no := by
      rw [List.set_comm _ _ hij (l := ρ1.set j .no), set_back hs2]
    rw [e1, set_back hs]
  · rw [w]
    have e1 : (((ρ1.set j .no).set i .no).set i (.va (f1 a))).set j (.va (f2 a)) = (ρ1.set i (.va (f1 a))).set j (.va (f2 a)) := by
      rw [List.set_set, List.set_comm _ _ (Ne.symm hij) (l := ρ1), List.set_set]
    have g1 : ((ρ1.set j .no).set i .no)[i]? = some .no := set_get (i1 _)
    have g2 : (((ρ1.set j .no).set i .no).set i (.va (f1 a)))[j]? = some .no := by
      rw [List.set_set, List.getElem?_set_ne hij]
      exact set_get hs2
    have e : (Tg.tp [.nm i, .nm j]).den (.tuple [f1 a, f2 a]) ((ρ1.set j .no).set i .no) = some ((ρ1.set i (.va (f1 a))).set j (.va (f2 a))) := by
      simp only [Tg.den, Tg.dens, gTp, gsCons, gsNil, gNm, nb_at (s := .no) rfl g1, nb_at (s := .no) rfl g2, if_true, Option.bind_some, e1]
      rfl
    have bk : wipeL ((ρ1.set i (.va (f1 a))).set j (.va (f2 a))) (([(x, i), (y, j)] : List (Str × Nat)).map (·.2)) = (ρ1.set j .no).set i .no := by
      rw [w, List.set_set, List.set_comm _ _ hij (l := ρ1), List.set_set]
    exact ⟨_, _, e, ht a ha, fun hb => ⟨_, he a ha hb, bk⟩, fun _ => bk⟩
end
section
variable {Γ : Gam} {c : C} {t : Tg} {ρ ρ1 ρ2 : Lo} {i : Nat}
theorem step_set {r : RR} {s : Sl} (h : fO (c.den Γ) ρ = some (r, ρ1)) (p : Nb s) (e : ρ1[i]? = some s) (q : ρ1.set i (SlOf r) = ρ2) : (S.set i c).den Γ ρ = some (.nx, ρ2) := by
  simp only [S.den, fSet]
  rw [h, Option.bind_some]
  simp only [nb_at p e, if_true, q]
theorem step_setX {r : RR} {s : Sl} (h : c.den Γ ρ = some (r, ρ1)) (nb : ∀ j, r ≠ .br j) (p : Nb s) (e : ρ1[i]? = some s) (q : ρ1.set i (SlOf r) = ρ2) : (S.set i c).den Γ ρ = some (.nx, ρ2) := by
  refine step_set (r := r) (ρ1 := ρ1) ?_ p e q
  unfold fO
  rw [h, Option.bind_some]
  cases r with
  | br j => exact absurd rfl (nb j)
  | va d => rfl
  | ls ds => rfl
theorem set_ls {ds : List D} {s : Sl} (h : c.den Γ ρ = some (.ls ds, ρ1)) (p : Nb s) (e : ρ1[i]? = some s) (q : ρ1.set i (.ls ds) = ρ2) : (S.set i c).den Γ ρ = some (.nx, ρ2) := step_setX h (fun _ => nofun) p e q
theorem set_va {d : D} {s : Sl} (h : c.den Γ ρ = some (.va d, ρ1)) (p : Nb s) (e : ρ1[i]? = some s) (q : ρ1.set i (.va d) = ρ2) : (S.set i c).den Γ ρ = some (.nx, ρ2) := step_setX h (fun _ => nofun) p e q
theorem den_callM {j i : Nat} {es : Cs} {x : Str} {d : FD} {ds β β' : List D} {r : RR} (hf : Γ.fns[j]? = some (x, d)) (ha : es.denF Γ ρ = some (ds, ρ1)) (h0 : (items ρ i).isSome = true) (hi : items ρ1 i = some β) (hr : d.run β ds = some (r, β')) (hm : d.mt = true) (hn : d.np = ds.length + 1) :
    (C.callM j i es).den Γ ρ = some (r, putItems ρ1 i β') := by
  simp only [C.den, hf]
  rw [fCallM_eq, if_pos h0, ha, Option.bind_some]
  exact cm hr hm hn hi
theorem den_call {j : Nat} {es : Cs} {x : Str} {d : FD} {ds β : List D} {r : RR} (hf : Γ.fns[j]? = some (x, d)) (ha : es.denF Γ ρ = some (ds, ρ1)) (hr : d.run [] ds = some (r, β)) (hm : d.mt = false) (hn : d.np = ds.length) :
    (C.call j es).den Γ ρ = some (r, ρ1) := by
  simp only [C.den, hf]
  rw [fCall_eq, ha, Option.bind_some]
  exact cf hr hm hn ρ1
theorem denF_one {c : C} {r : RR} {d : D} (h : c.den Γ ρ = some (r, ρ1)) (hz : frz r ρ1 = some (d, ρ2)) : (Cs.cons c .nil).denF Γ ρ = some ([d], ρ2) := by
  simp only [Cs.denF, fsCons, fsNil, fF]
  rw [h, Option.bind_some, hz]
  rfl
end
end W


set_option autoImplicit false
namespace W
open PySem PySem.Spec L2 Den
variable {rs : List Rm} {k : Int}
theorem ne_nil {l : List Nat} : φNe (.list (nD l)) (.list []) = some (.va (.bool (!l.isEmpty))) := by
  have q : φNe (.list (nD l)) (.list []) = some (.va (.bool (!PyData.eqv (.list (nD l)) (.list [])))) := if_pos (.inl ⟨sh_nats.1, (sh_nats (ns := [])).1⟩)
  rw [q]
  cases l <;> simp [PyData.eqv, PyData.eqvAll, nD]
theorem any_filter {α : Type} {l : List α} {p : α → Bool} : l.any p = !(l.filter p).isEmpty := by
  induction l with
  | nil => rfl
  | cons a l ih => cases h : p a <;> simp [List.filter_cons, h, ih]
def barredB (rs : List Rm) : Bool := rs.any fun r => isBarD r.way
theorem lis_barred_ok (h : Dun rs) : d_lis_barred.run [] [dunD rs k] = some (.va (.bool (barredB rs)), []) := by
  have q : q_lis_barred_0.den g_lis_barred [.va (dunD rs k), .no] = some (.ls ((rs.filter fun r => isBarD r.way).map fun _ => .int 1), [.va (dunD rs k), .no]) := by
    unfold q_lis_barred_0
    refine lc1 (l := rs) (f := roomD) (b := fun r => isBarD r.way) (g := fun _ => .int 1) (s := .no) (by simp! [fIt, its, dunD]) (lim_11 h.len1) rfl (fun r hr => ?_) (fun r hr _ => by simp! [])
    simp! [roomD, (way_eq h hr).2]
  rw [ones] at q
  have e : barredB rs = !(List.replicate (rs.filter fun r => isBarD r.way).length 1).isEmpty := by
    unfold barredB
    rw [any_filter]
    cases rs.filter fun r => isBarD r.way <;> rfl
  rw [e, r_lis_barred]
  simp! [c_lis_barred, q, ne_nil]
theorem barred_iff (h : Dun rs) : barredB rs = true ↔ ∃ v, v < rs.length ∧ isBar rs v = true := by
  unfold barredB
  rw [List.any_eq_true]
  constructor
  · rintro ⟨r, hr, hb⟩
    obtain ⟨i, hi, e⟩ := List.getElem_of_mem hr
    refine ⟨i, hi, ?_⟩
    unfold isBar
    rw [List.getElem?_eq_getElem hi, e]
    exact hb
  · rintro ⟨v, hv, hb⟩
    unfold isBar at hb
    rw [List.getElem?_eq_getElem hv] at hb
    exact ⟨_, List.getElem_mem hv, hb⟩
def msr : Option Nat → Nat
  | none => 0
  | some p => p
def upBar (rs : List Rm) (o : Option Nat) : Bool := (upO rs o).any (isBar rs)
theorem lway_has_bar_ok (h : Dun rs) {o : Option Nat} (ho : ∀ v, o = some v → v < rs.length) : d_lway_has_bar.run [] [dunD rs k, pD o] = some (.va (.bool (upBar rs o)), []) := by
  refine eqr ?_
  rw [r_lway_has_bar]
  refine run_f ?_
  refine ok_cons (ok_while (n := msr o) (fun n ρ => ∃ o', ρ = [.va (dunD rs k), .va (pD o')] ∧ (∀ v, o' = some v → v < rs.length) ∧ upBar rs o' = upBar rs o ∧ msr o' ≤ n) ⟨o, rfl, ho, rfl, Nat.le_refl _⟩ ?_ ?_)
  · have := h.len1
    cases o with
    | none => decide
    | some p =>
      have := ho p rfl
      show p < 1000000
      omega
  rintro n ρ ⟨o', rfl, ho', hu, hn⟩
  cases o' with
  | none =>
    refine ⟨false, [.va (dunD rs k), .va (pD none)], by simp! [pD], fun _ => ?_, fun z => by cases z⟩
    exact ok_last (r := .va (.bool (upBar rs o))) (ρ1 := [.va (dunD rs k), .va (pD none)]) (by rw [← hu]; simp! [upBar, upO]) ⟨rfl, rfl⟩
  | some v =>
    have hv := ho' v rfl
    by_cases h0 : v = 0
    · subst h0
      refine ⟨false, [.va (dunD rs k), .va (pD (some 0))], by simp! [pD], fun _ => ?_, fun z => by cases z⟩
      have e : upBar rs (some 0) = false := by
        unfold upBar upO
        simp only
        rw [up_cons2 h hv, par_root h]
        simp [upO, (way_root h).2.2]
      exact ok_last (r := .va (.bool (upBar rs o))) (ρ1 := [.va (dunD rs k), .va (pD (some 0))]) (by rw [← hu, e]; simp! []) ⟨rfl, rfl⟩
    · have hpos : 0 < v := by omega
      refine ⟨true, [.va (dunD rs k), .va (pD (some v))], by simp! [pD, hpos], (fun z => by cases z), fun _ => ?_⟩
      obtain ⟨p, e1, hp, e2⟩ := par_some h hv hpos
      have hn2 : v ≤ n := hn
      refine ⟨n - 1, by omega, ?_⟩
      have eu : upBar rs (some v) = (isBar rs v || upBar rs (some p)) := by
        unfold upBar
        show (up rs v).any _ = _
        rw [up_cons2 h hv, e1]
        rfl
      unfold b_lway_has_bar_0
      refine ok_cons (ok_if (v := isBar rs v) (ρ1 := [.va (dunD rs k), .va (pD (some v))]) (by simp! [pD, dunD, roomD, room_at hv, bar_at h hv]) (fun hb => ?_) (fun hb => ?_))
      · exact ok_last (r := .va (.bool (upBar rs o))) (ρ1 := [.va (dunD rs k), .va (pD (some v))]) (by rw [← hu, eu, hb]; simp! []) ⟨rfl, rfl⟩
      · refine ok_nil (ok_step (ρ1 := [.va (dunD rs k), .va (pD (some p))]) (by simp! [pD, dunD, roomD, room_at hv, e2]) (ok_nil ⟨some p, rfl, fun q e => ?_, ?_, ?_⟩))
        · cases e
          omega
        · rw [← hu, eu, hb]
          rfl
        · show p ≤ n - 1
          omega
theorem nb_va {d : D} : Nb (.va d) := rfl
theorem nb_ls {l : List D} : Nb (.ls l) := rfl
theorem nb_no : Nb .no := rfl
def laidD (big : Option Nat) (sm : List Nat) : D := .tuple [pD big, .tuple (nD sm)]
structure Laid (rs : List Rm) (big : Option Nat) (sm : List Nat) : Prop where
  bg : ∀ b, big = some b → b < rs.length
  no : big = none → barredB rs = false
  yes : barredB rs = false → big = none
  len : sm.length = rs.length
  le : sm.sum ≤ 100
theorem nD_at {l : List Nat} {v : Nat} (hv : v < l.length) : (nD l)[v]? = some (.int (l[v] : Int)) := by
  unfold nD
  rw [List.getElem?_map, List.getElem?_eq_getElem hv]
  rfl
theorem nD_getE {l : List Nat} {v : Nat} (h : v < (nD l).length) (h2 : v < l.length) : (nD l)[v] = .int ((l[v] : Nat) : Int) := by
  have q := nD_at h2
  rw [List.getElem?_eq_getElem h] at q
  exact Option.some.inj q
theorem nD_set {l : List Nat} {v m : Nat} : (nD l).set v (.int (m : Int)) = nD (l.set v m) := by
  unfold nD
  rw [List.map_set]
  rfl
theorem sum_set : ∀ {l : List Nat} {v : Nat} (hv : v < l.length), (l.set v (l[v] + 1)).sum = l.sum + 1
  | [], _, h => by cases h
  | x :: l, 0, _ => by simp; omega
  | x :: l, v + 1, h => by
    have := sum_set (l := l) (v := v) (by simpa using h)
    simp at this ⊢
    omega
theorem ixN_nat {n v : Nat} (h : v < n) : ixN n ((v : Nat) : Int) = some v := by
  unfold ixN
  rw [if_pos (by omega), if_pos (by omega)]
  simp
theorem aug_one {l : List Nat} {v : Nat} (hv : v < l.length) : (nD l).set v (.int ((l[v] : Int) + 1)) = nD (l.set v (l[v] + 1)) := by
  rw [← nD_set]
  congr 2
theorem rep_zero2 {n : Nat} : List.replicate n (PyData.int 0) = nD (List.replicate n 0) := by
  rw [nD, List.map_replicate]
  rfl
def stL (β : List D) (rs : List Rm) (k : Int) (big : Option Nat) (s4 s5 s6 s7 s8 s10 s11 : Sl) : Lo := [.bg β, .va (dunD rs k), .va (.tuple (rs.map roomD)), .va (pD big), s4, s5, s6, s7, s8, .no, s10, s11]
theorem big_drawn {β : List D} (hb : Bag β) (h : Dun rs) (hbar : barredB rs = true) : ∃ b β', b < rs.length ∧ Bag β' ∧ Ok (Ss.den g_lany_laid (.cons (.set 4 q_lany_laid_0)
    (.cons (.set 3 (.callM 2 0 (.cons (.ite (.cmp .gt (.callM 3 0 (.cons (.int 4) .nil)) (.int 0)) (.var 4) (.lr (.blt .len (.cons (.var 2) .nil)))) .nil))) .nil)) (stL β rs k none .no .no .no .no .no .no .no))
    fun o ρ => o = .nx ∧ ∃ s4, Nb s4 ∧ ρ = stL β' rs k (some b) s4 .no .no .no .no .no .no := by
  have hl1 := h.len1
  have hl0 := h.len0
  have q : q_lany_laid_0.den g_lany_laid (stL β rs k none .no .no .no .no .no .no .no) = some (.ls (((List.range rs.length).filter fun v => !upBar rs (some v)).map nI), stL β rs k none .no .no .no .no .no .no .no) := by
    unfold q_lany_laid_0
    refine lc1 (l := List.range rs.length) (f := nI) (g := nI) (b := fun v => !upBar rs (some v)) (s := .no) (ρ1 := stL β rs k none .no .no .no .no .no .no .no) ?_ (by rw [List.length_range]; exact lim_11 hl1) rfl (fun v hv => ?_) (fun v hv _ => by rfl)
    · rw [it_rng1 (x := rs.length) (ρ1 := stL β rs k none .no .no .no .no .no .no .no) (by unfold stL; simp! []) (rng_ok hl1), rng_nat]
      rfl
    · have e := cf (lway_has_bar_ok (k := k) h (o := some v) fun u e => by cases e; exact List.mem_range.mp hv) mt_lway_has_bar np_lway_has_bar
      simp only [pD] at e
      unfold stL nI
      simp_all! [g_lany_laid, pD, e]
  obtain ⟨t, β1, t0, t1, hb1, e1⟩ := take_ok (m := 4) hb (by omega) (by omega)
  generalize hL : (List.range rs.length).filter (fun v => !upBar rs (some v)) = L at q
  have hL0 : L ≠ [] := by
    intro z
    have : 0 ∈ L := by
      rw [← hL, List.mem_filter, List.mem_range]
      refine ⟨hl0, ?_⟩
      unfold upBar
      show (!(up rs 0).any (isBar rs)) = true
      rw [up_cons2 h hl0, par_root h]
      simp [upO, (way_root h).2.2]
    rw [z] at this
    cases this
  have hLn : ∀ x ∈ L, x < rs.length := fun x hx => by
    rw [← hL] at hx
    exact List.mem_range.mp (List.mem_filter.mp hx).1
  have hLl : L.length ≤ 11 := by
    rw [← hL]
    have := List.length_filter_le (fun v => !upBar rs (some v)) (List.range rs.length)
    rw [List.length_range] at this
    omega
  have pick : ∀ {things : List Nat}, things ≠ [] → things.length ≤ 11 → (∀ x ∈ things, x < rs.length) → ∃ b β', b < rs.length ∧ Bag β' ∧ d_lsome.run β1 [.list (nD things)] = some (.va (.int ((b : Nat) : Int)), β') := fun {things} a b c => by
    obtain ⟨x, β', ⟨n, rfl, hn⟩, hb', e⟩ := some_p (things := nD things) (fun x => ∃ n : Nat, x = .int (n : Int) ∧ n < rs.length) hb1 (by simpa [nD] using a) (by rw [nD_len]; omega) (fun x hx => by
      obtain ⟨n, hn, rfl⟩ := List.mem_map.mp hx
      exact ⟨n, rfl, c n hn⟩)
    exact ⟨n, β', hn, hb', e⟩
  by_cases ht : 0 < t
  · obtain ⟨b, β2, hbn, hb2, e2⟩ := pick hL0 hLl hLn
    refine ⟨b, β2, hbn, hb2, ?_⟩
    refine ok_step (ρ1 := stL β rs k none (.ls (nD L)) .no .no .no .no .no .no) (by unfold stL at q ⊢; simp! [q, nD]) ?_
    refine ok_step (ρ1 := stL β2 rs k (some b) (.va (.list (nD L))) .no .no .no .no .no .no) ?_ (ok_nil ⟨rfl, .va (.list (nD L)), rfl, rfl⟩)
    unfold stL
    simp! [g_lany_laid, mt_ltake, np_ltake, mt_lsome, np_lsome, e1, e2, ht, pD]
  · obtain ⟨b, β2, hbn, hb2, e2⟩ := pick (things := List.range rs.length) (by
      intro z
      have := congrArg List.length z
      rw [List.length_range, List.length_nil] at this
      omega) (by rw [List.length_range]; exact hl1) (fun x hx => List.mem_range.mp hx)
    refine ⟨b, β2, hbn, hb2, ?_⟩
    refine ok_step (ρ1 := stL β rs k none (.ls (nD L)) .no .no .no .no .no .no) (by unfold stL at q ⊢; simp! [q, nD]) ?_
    refine ok_step (ρ1 := stL β2 rs k (some b) (.ls (nD L)) .no .no .no .no .no .no) ?_ (ok_nil ⟨rfl, .ls (nD L), rfl, rfl⟩)
    have hr := rng_ok hl1
    unfold stL
    simp! [g_lany_laid, mt_ltake, np_ltake, mt_lsome, np_lsome, e1, ht, pD, fLr, fR1, hr, rng_nat, e2]
theorem step_ok {β : List D} {big : Option Nat} {s4 s7 s8 s10 s11 : Sl} {v : Nat} {sm : List Nat} (hb : Bag β) (h : Dun rs) (hv : v < rs.length) :
    Ok (b_lany_laid_0.den g_lany_laid (stL β rs k big s4 (.va (.int (v : Int))) (.ls (nD sm)) s7 s8 s10 s11)) fun o ρ => o = .nx ∧ ∃ β' u, u < rs.length ∧ Bag β' ∧ ρ = stL β' rs k big s4 (.va (.int ((u : Nat) : Int))) (.ls (nD sm)) s7 s8 s10 s11 := by
  unfold b_lany_laid_0
  by_cases h0 : v = 0
  · subst h0
    refine ok_step (ρ1 := stL β rs k big s4 (.va (.int ((0 : Nat) : Int))) (.ls (nD sm)) s7 s8 s10 s11) (by unfold stL; simp! []) (ok_nil ⟨rfl, β, 0, hv, hb, rfl⟩)
  · have hpos : 0 < v := by omega
    obtain ⟨t, β1, t0, t1, hb1, e1⟩ := take_ok (m := 2) hb (by omega) (by omega)
    obtain ⟨p, _, hp, e2⟩ := par_some h hv hpos
    by_cases ht : t = 0
    · subst ht
      refine ok_step (ρ1 := stL β1 rs k big s4 (.va (.int ((p : Nat) : Int))) (.ls (nD sm)) s7 s8 s10 s11) ?_ (ok_nil ⟨rfl, β1, p, by omega, hb1, rfl⟩)
      unfold stL
      simp! [g_lany_laid, mt_ltake, np_ltake, e1, hpos, room_at hv, roomD, e2, pD]
    · refine ok_step (ρ1 := stL β1 rs k big s4 (.va (.int ((v : Nat) : Int))) (.ls (nD sm)) s7 s8 s10 s11) ?_ (ok_nil ⟨rfl, β1, v, hv, hb1, rfl⟩)
      unfold stL
      simp! [g_lany_laid, mt_ltake, np_ltake, e1, hpos, ht]
theorem turn_ok {β : List D} {big : Option Nat} {s4 s5 s8 s10 s11 : Sl} {w : Int} {sm : List Nat} (hb : Bag β) (h : Dun rs) (hw : 0 ≤ w ∧ w < 4) (hl : sm.length = rs.length) (p5 : Nb s5) (p11 : Nb s11) :
    Ok (b_lany_laid_1.den g_lany_laid (stL β rs k big s4 s5 (.ls (nD sm)) (.va (.int w)) s8 s10 s11)) fun o ρ => o = .nx ∧ ∃ β' t5 t11 sm', Nb t5 ∧ Nb t11 ∧ sm'.length = rs.length ∧ sm'.sum = sm.sum + 1 ∧ Bag β' ∧ ρ = stL β' rs k big s4 t5 (.ls (nD sm')) (.va (.int w)) s8 s10 t11 := by
  unfold b_lany_laid_1
  have hl1 := h.len1
  have hl0 := h.len0
  obtain ⟨t, β1, t0, t1, hb1, e1⟩ := take_ok (m := rs.length) hb (by omega) (by omega)
  obtain ⟨v, rfl⟩ : ∃ v : Nat, t = v := ⟨t.toNat, by omega⟩
  refine ok_step (ρ1 := stL β1 rs k big s4 (.va (.int (v : Int))) (.ls (nD sm)) (.va (.int w)) s8 s10 s11) ?_ ?_
  · unfold stL
    cases s5 <;> first | cases p5; done | simp! [g_lany_laid, mt_ltake, np_ltake, e1]
  refine ok_cons (ok_for (ds := rng 0 w) (ρ1 := stL β1 rs k big s4 (.va (.int (v : Int))) (.ls (nD sm)) (.va (.int w)) s8 s10 s11)
    (fun ds ρ => ∃ β u t11, u < rs.length ∧ Bag β ∧ Nb t11 ∧ ρ = stL β rs k big s4 (.va (.int ((u : Nat) : Int))) (.ls (nD sm)) (.va (.int w)) s8 s10 t11)
    (by rw [it_rng1 (x := w) (ρ1 := stL β1 rs k big s4 (.va (.int (v : Int))) (.ls (nD sm)) (.va (.int w)) s8 s10 s11) (by unfold stL; simp! []) (by omega)]) ⟨β1, v, s11, by omega, hb1, p11, rfl⟩ ?_ ?_)
  · rintro d ds ρ ⟨β, u, t11, hu, hb, p11, rfl⟩
    refine ⟨stL β rs k big s4 (.va (.int ((u : Nat) : Int))) (.ls (nD sm)) (.va (.int w)) s8 s10 (.va d), nm_ok p11 rfl rfl, ok_mono (step_ok hb h hu) ?_⟩
    rintro o ρ ⟨rfl, β', u', hu', hb', rfl⟩
    exact ⟨β', u', _, hu', hb', nb_va, rfl⟩
  · rintro ρ ⟨β, u, t11, hu, hb, p11, rfl⟩
    have hu2 : u < sm.length := by omega
    refine ok_step (ρ1 := stL β rs k big s4 (.va (.int ((u : Nat) : Int))) (.ls (nD (sm.set u (sm[u] + 1)))) (.va (.int w)) s8 s10 t11) ?_ (ok_nil ⟨rfl, β, _, t11, _, nb_va, p11, by rw [List.length_set]; exact hl, sum_set hu2, hb, rfl⟩)
    unfold stL
    have e3 := ixN_nat (n := (nD sm).length) (v := u) (by rw [nD_len]; exact hu2)
    rw [← aug_one hu2]
    have hu3 : u < (nD sm).length := by rw [nD_len]; exact hu2
    simp! [e3, hu3, nD_getE hu3 hu2]
theorem rest_ok {β : List D} {big : Option Nat} {s4 : Sl} (hb : Bag β) (h : Dun rs) (p4 : Nb s4) (hL : Laid rs big (List.replicate rs.length 0)) :
    Ok (Ss.den g_lany_laid (.cons (.par 6 7 (.rep (.lst (.cons (.int 0) .nil)) (.blt .len (.cons (.var 2) .nil))) (.callM 3 0 (.cons (.int 4) .nil)))
  (.cons (.set 8 (.blt .len (.cons q_lany_laid_1 .nil)))
  (.cons (.fors (.nm 10) (.rng1 (.callM 2 0 (.cons (.lst (.cons (.var 8) (.cons (.var 8) (.cons (.bin .add (.var 8) (.int 1)) (.cons (.blt .max (.cons (.int 0) (.cons (.bin .sub (.var 8) (.int 1)) .nil))) (.cons (.callM 3 0 (.cons (.int 4) .nil)) .nil)))))) .nil)))
    b_lany_laid_1)
  (.cons (.ret (.tup (.cons (.var 3) (.cons (.blt .tuple (.cons (.var 6) .nil)) .nil)))) .nil)))) (stL β rs k big s4 .no .no .no .no .no .no))
    fun o ρ => ∃ β', ρ[0]? = some (.bg β') ∧ match o with
      | .rt r => ∃ big sm, r = .va (laidD big sm) ∧ (Laid rs big sm ∧ sm.sum ≤ 12) ∧ Bag β'
      | .nx => ∃ big sm, RR.va .none = .va (laidD big sm) ∧ (Laid rs big sm ∧ sm.sum ≤ 12) ∧ Bag β'
      | _ => False := by
  have hl1 := h.len1
  have hl0 := h.len0
  obtain ⟨w, β1, w0, w1, hb1, e1⟩ := take_ok (m := 4) hb (by omega) (by omega)
  have hz : [PyData.int 0].length * ((rs.length : Nat) : Int).toNat ≤ lim := by
    simp
    show _ ≤ 1000000
    omega
  have hr := rng_ok hl1
  refine ok_step (ρ1 := stL β1 rs k big s4 .no (.ls (nD (List.replicate rs.length 0))) (.va (.int w)) .no .no .no) ?_ ?_
  · unfold stL
    simp! [g_lany_laid, mt_ltake, np_ltake, e1, hr, hz, rep_zero2]
  have q : q_lany_laid_1.den g_lany_laid (stL β1 rs k big s4 .no (.ls (nD (List.replicate rs.length 0))) (.va (.int w)) .no .no .no) = some (.ls ((rs.filter fun r => isLockD r.way).map roomD), stL β1 rs k big s4 .no (.ls (nD (List.replicate rs.length 0))) (.va (.int w)) .no .no .no) := by
    unfold q_lany_laid_1
    refine lc1 (l := rs) (f := roomD) (g := roomD) (b := fun r => isLockD r.way) (s := .no) (ρ1 := stL β1 rs k big s4 .no (.ls (nD (List.replicate rs.length 0))) (.va (.int w)) .no .no .no) (by unfold stL; simp! [fIt, its]) (lim_11 hl1) rfl (fun r hr => ?_) (fun r hr _ => by rfl)
    unfold stL
    simp! [roomD, (way_eq h hr).1]
  generalize hM : (rs.filter fun r => isLockD r.way) = M at q
  have hM2 : M.length ≤ 11 := by
    rw [← hM]
    exact Nat.le_trans (List.length_filter_le _ _) hl1
  refine ok_step (ρ1 := stL β1 rs k big s4 .no (.ls (nD (List.replicate rs.length 0))) (.va (.int w)) (.va (.int (M.length : Int))) .no .no) ?_ ?_
  · unfold stL at q ⊢
    simp! [q]
  obtain ⟨w2, β2, w20, w21, hb2, e2⟩ := take_ok (m := 4) hb1 (by omega) (by omega)
  obtain ⟨x3, β3, ⟨T, rfl, hT⟩, hb3, e3⟩ := some_p (things := [.int (M.length : Int), .int (M.length : Int), .int ((M.length : Int) + 1), .int (if 1 < (M.length : Int) then (M.length : Int) - 1 else 0), .int w2]) (fun x => ∃ c : Nat, x = .int (c : Int) ∧ c ≤ 12) hb2 (by simp) (by simp) (by
    intro x hx
    simp only [List.mem_cons, List.not_mem_nil, or_false] at hx
    rcases hx with rfl | rfl | rfl | rfl | rfl
    · exact ⟨M.length, rfl, by omega⟩
    · exact ⟨M.length, rfl, by omega⟩
    · exact ⟨M.length + 1, by simp, by omega⟩
    · exact ⟨M.length - 1, by congr 1; split <;> omega, by omega⟩
    · exact ⟨w2.toNat, by congr 1; omega, by omega⟩)
  refine ok_cons (ok_for (ds := nD (List.range T)) (ρ1 := stL β3 rs k big s4 .no (.ls (nD (List.replicate rs.length 0))) (.va (.int w)) (.va (.int (M.length : Int))) .no .no)
    (fun ds ρ => ∃ β s5 s10 s11 sm, Bag β ∧ Nb s5 ∧ Nb s10 ∧ Nb s11 ∧ sm.length = rs.length ∧ sm.sum + ds.length ≤ 12 ∧ ρ = stL β rs k big s4 s5 (.ls (nD sm)) (.va (.int w)) (.va (.int (M.length : Int))) s10 s11)
    ?_ ⟨β3, .no, .no, .no, _, hb3, rfl, rfl, rfl, hL.len, by rw [nD_len, List.length_range, List.sum_replicate_nat]; omega, rfl⟩ ?_ ?_)
  · rw [it_rng1 (x := (T : Int)) (ρ1 := stL β3 rs k big s4 .no (.ls (nD (List.replicate rs.length 0))) (.va (.int w)) (.va (.int (M.length : Int))) .no .no) ?_ (by omega), rng_nat]
    unfold stL
    simp! [g_lany_laid, mt_ltake, np_ltake, mt_lsome, np_lsome, e2, φMax, e3]
  · rintro d ds ρ ⟨β, s5, s10, s11, sm, hb, p5, p10, p11, hl, hs, rfl⟩
    refine ⟨stL β rs k big s4 s5 (.ls (nD sm)) (.va (.int w)) (.va (.int (M.length : Int))) (.va d) s11, nm_ok p10 rfl rfl, ok_mono (turn_ok hb h ⟨w0, w1⟩ hl p5 p11) ?_⟩
    rintro o ρ ⟨rfl, β', t5, t11, sm', q5, q11, hl', hs', hb', rfl⟩
    refine ⟨β', t5, _, t11, sm', hb', q5, nb_va, q11, hl', ?_, rfl⟩
    simp at hs
    omega
  · rintro ρ ⟨β, s5, s10, s11, sm, hb, p5, p10, p11, hl, hs, rfl⟩
    refine ok_last (r := .va (laidD big sm)) (ρ1 := stL β rs k big s4 s5 (.ls (nD sm)) (.va (.int w)) (.va (.int (M.length : Int))) s10 s11) ?_ ⟨β, rfl, big, sm, rfl, ⟨⟨hL.bg, hL.no, hL.yes, hl, by simp at hs; omega⟩, by simp at hs; omega⟩, hb⟩
    unfold stL
    simp! [laidD]
theorem any_laid_ok2 {β : List D} (hb : Bag β) (h : Dun rs) : Ans (d_lany_laid.run β [dunD rs k]) fun r β' => ∃ big sm, r = .va (laidD big sm) ∧ (Laid rs big sm ∧ sm.sum ≤ 12) ∧ Bag β' := by
  have hl1 := h.len1
  have hl0 := h.len0
  rw [r_lany_laid]
  refine run_t ?_
  refine ok_step (ρ1 := stL β rs k none .no .no .no .no .no .no .no) (by unfold stL; simp! [dunD, pD]) ?_
  have e0 := cf (lis_barred_ok (k := k) h) mt_lis_barred np_lis_barred
  refine ok_cons (ok_if (v := barredB rs) (ρ1 := stL β rs k none .no .no .no .no .no .no .no) (by unfold stL; simp_all! [g_lany_laid, e0]) (fun hbar => ?_) (fun hbar => ?_))
  · obtain ⟨b, β1, hbn, hb1, hok⟩ := big_drawn (k := k) hb h hbar
    refine ok_mono hok ?_
    rintro o ρ ⟨rfl, s4, p4, rfl⟩
    exact rest_ok (big := some b) hb1 h p4 ⟨(fun u e => by cases e; exact hbn), (fun e => by cases e), (fun e => by rw [hbar] at e; cases e), by simp, by simp⟩
  · exact ok_nil (rest_ok (big := none) hb h rfl ⟨(fun u e => by cases e), fun _ => hbar, fun _ => rfl, by simp, by simp⟩)
theorem any_laid_ok {β : List D} (hb : Bag β) (h : Dun rs) : Ans (d_lany_laid.run β [dunD rs k]) fun r β' => ∃ big sm, r = .va (laidD big sm) ∧ Laid rs big sm ∧ Bag β' := by
  obtain ⟨r, β', e, big, sm, h1, h2, h3⟩ := any_laid_ok2 (k := k) hb h
  exact ⟨r, β', e, big, sm, h1, h2.1, h3⟩
end W


set_option autoImplicit false
namespace W
open PySem PySem.Spec L2 Den
variable {rs : List Rm} {k : Int}
section
variable {Γ : Gam} {it : Ci} {t : Tg} {a : Ss} {ρ ρ1 : Lo} {P : Out → Lo → Prop}
theorem for_at {α : Type} {f : α → D} {l : List α} (I : Nat → Lo → Prop) (hit : it.den Γ ρ = some (l.map f, ρ1)) (h0 : I 0 ρ1)
    (step : ∀ i (hi : i < l.length) ρ, I i ρ → ∃ ρ', t.den (f l[i]) ρ = some ρ' ∧ Ok (a.den Γ ρ') fun o ρ2 => match o with
      | .nx => I (i + 1) ρ2
      | .ct => I (i + 1) ρ2
      | .bk => P .nx ρ2
      | .rt r => P (.rt r) ρ2) (fin : ∀ ρ, I l.length ρ → P .nx ρ) : Ok ((S.fors t it a).den Γ ρ) P := by
  refine ok_for (fun ds ρ => ∃ i, i ≤ l.length ∧ ds = (l.drop i).map f ∧ I i ρ) hit ⟨0, Nat.zero_le _, rfl, h0⟩ ?_ ?_
  · rintro d ds ρ ⟨i, hi, he, hI⟩
    have hlt : i < l.length := by
      rcases Nat.lt_or_eq_of_le hi with z | z
      · exact z
      · rw [z, List.drop_length] at he
        cases he
    rw [List.drop_eq_getElem_cons hlt, List.map_cons] at he
    obtain ⟨e1, e2⟩ := List.cons.inj he
    subst e1 e2
    obtain ⟨ρ', e3, h⟩ := step i hlt ρ hI
    refine ⟨ρ', e3, ok_mono h fun o ρ2 q => ?_⟩
    cases o with
    | nx => exact ⟨i + 1, hlt, rfl, q⟩
    | ct => exact ⟨i + 1, hlt, rfl, q⟩
    | bk => exact q
    | rt r => exact q
  · rintro ρ ⟨i, hi, he, hI⟩
    have : i = l.length := by
      have := congrArg List.length he
      simp at this
      omega
    subst this
    exact fin ρ hI
end
def enI (rs : List Rm) (i : Nat) : D := .tuple [.int (i : Int), (rs.map roomD)[i]?.getD .none]
theorem enI_at {i : Nat} (h : i < rs.length) : enI rs i = .tuple [.int (i : Int), roomD rs[i]] := by
  unfold enI
  rw [List.getElem?_map, List.getElem?_eq_getElem h]
  rfl
theorem enum_rooms : enumFrom 0 (rs.map roomD) = (List.range rs.length).map (enI rs) := by
  have e := enum_map (xs := rs.map roomD) (k := 0)
  rw [List.length_map] at e
  rw [e]
  refine List.map_congr_left fun i _ => ?_
  unfold enI
  rw [Nat.zero_add]
theorem opn_at (h : Dun rs) {v : Nat} (hv : v < rs.length) : φEq rs[v].way (.str "open") = some (.va (.bool (isOpn rs v))) ∧ φNe rs[v].way (.str "open") = some (.va (.bool (!isOpn rs v))) := by
  unfold isOpn
  rw [List.getElem?_eq_getElem hv]
  show φEq rs[v].way (.str "open") = some (RR.va (PyData.bool (isOpenD rs[v].way))) ∧ φNe rs[v].way (.str "open") = some (RR.va (PyData.bool (!isOpenD rs[v].way)))
  by_cases h0 : v = 0
  · subst h0
    rw [(h.root rs[0] (List.getElem?_eq_getElem hv)).2]
    exact ⟨if_pos (.inl ⟨rfl, by decide +kernel⟩), if_pos (.inl ⟨rfl, by decide +kernel⟩)⟩
  · rcases h.way v rs[v] (List.getElem?_eq_getElem hv) (by omega) with e | e | e <;> rw [e] <;> exact ⟨eq_str, ne_str⟩
theorem lck_at (h : Dun rs) {v : Nat} (hv : v < rs.length) : φEq rs[v].way (.str "lock") = some (.va (.bool (isLck rs v))) := by
  unfold isLck
  rw [List.getElem?_eq_getElem hv]
  exact (way_eq h (List.getElem_mem hv)).1
theorem add_tup {xs ys : List D} (h : xs.length + ys.length ≤ lim) : φAdd (.tuple xs) (.tuple ys) = some (.va (.tuple (xs ++ ys))) := if_pos h
theorem ext_len {v : Nat} {p : List Nat} : (ext rs v p).length ≤ 2 := by
  unfold ext
  rw [List.length_append]
  split <;> split <;> simp
theorem flat_len {v : Nat} : ∀ {l : List (List Nat)}, (l.flatMap (ext rs v)).length ≤ 2 * l.length
  | [] => by simp
  | p :: l => by
    have h1 := ext_len (rs := rs) (v := v) (p := p)
    have h2 := flat_len (v := v) (l := l)
    rw [List.flatMap_cons, List.length_append, List.length_cons]
    omega
theorem grow_len : ∀ {m : Nat}, (grow rs m).length ≤ 2 ^ m
  | 0 => by simp [grow]
  | m + 1 => by
    have := flat_len (rs := rs) (v := m + 1) (l := grow rs m)
    have h2 := grow_len (m := m)
    rw [grow, Nat.pow_succ]
    omega
theorem grow_small (h : Dun rs) {m : Nat} (hm : m < rs.length) : (grow rs m).length ≤ 1024 := by
  have h1 := h.len1
  have := grow_len (rs := rs) (m := m)
  have h2 : 2 ^ m ≤ 2 ^ 10 := Nat.pow_le_pow_right (by omega) (by omega)
  omega
def stP (rs : List Rm) (k : Int) (big : Option Nat) (s2 s3 s4 s5 s6 s7 s8 s9 s10 s12 : Sl) : Lo := [.va (dunD rs k), .va (pD big), s2, s3, s4, s5, s6, s7, s8, s9, s10, .no, s12]
theorem lp0_ok (h : Dun rs) {big : Option Nat} {s2 s6 s9 s10 s12 : Sl} {v : Nat} (hv : v < rs.length) {p : List Nat} {acc : List (List Nat)} (hp : p.length ≤ 100) (ha : acc.length ≤ 10000) :
    Ok (b_lparts_0.den g_lparts (stP rs k big s2 (.va (.int (v : Int))) (.va (pD (parOf rs v))) (.va rs[v].way) s6 (.ls (acc.map tN)) (.va (tN p)) s9 s10 s12))
      fun o ρ => o = .nx ∧ ρ = stP rs k big s2 (.va (.int (v : Int))) (.va (pD (parOf rs v))) (.va rs[v].way) s6 (.ls ((acc ++ ext rs v p).map tN)) (.va (tN p)) s9 s10 s12 := by
  unfold b_lparts_0
  have c1 : (acc.map tN).length < lim := by
    rw [List.length_map]
    show _ < 1000000
    omega
  have c4 : acc.length < lim := by
    show _ < 1000000
    omega
  have c2 : ((acc ++ [p]).map tN).length < lim := by
    rw [List.length_map, List.length_append]
    show _ < 1000000
    simp
    omega
  have c3 : (nD p).length + [PyData.int (v : Int)].length ≤ lim := by
    rw [nD_len]
    simp
    show _ ≤ 1000000
    omega
  have e1 := notin_pD (l := p) (parOf rs v)
  have e2 := in_pD (l := p) (parOf rs v)
  have e3 := (opn_at h hv).2
  have e4 : nD p ++ [PyData.int (v : Int)] = nD (p ++ [v]) := by rw [nD_app]; rfl
  have hd : ext rs v p = (if (!oin (parOf rs v) p || !isOpn rs v) = true then [p] else []) ++ (if oin (parOf rs v) p = true then [p ++ [v]] else []) := rfl
  rw [hd]
  cases a : oin (parOf rs v) p <;> cases b : isOpn rs v <;> rw [a] at e1 e2 <;> rw [b] at e3
  · refine ok_cons (ok_if (v := true) (ρ1 := stP rs k big s2 (.va (.int (v : Int))) (.va (pD (parOf rs v))) (.va rs[v].way) s6 (.ls (acc.map tN)) (.va (tN p)) s9 s10 s12) (by unfold stP tN; simp! [e1]) (fun _ => ?_) (fun z => by cases z))
    refine ok_step (ρ1 := stP rs k big s2 (.va (.int (v : Int))) (.va (pD (parOf rs v))) (.va rs[v].way) s6 (.ls ((acc ++ [p]).map tN)) (.va (tN p)) s9 s10 s12) (by unfold stP; simp! [c4]) (ok_nil ?_)
    refine ok_cons (ok_if (v := false) (ρ1 := stP rs k big s2 (.va (.int (v : Int))) (.va (pD (parOf rs v))) (.va rs[v].way) s6 (.ls ((acc ++ [p]).map tN)) (.va (tN p)) s9 s10 s12) (by unfold stP tN; simp! [e2]) (fun z => by cases z) (fun _ => ok_nil (ok_nil ⟨rfl, by simp⟩)))
  · refine ok_cons (ok_if (v := true) (ρ1 := stP rs k big s2 (.va (.int (v : Int))) (.va (pD (parOf rs v))) (.va rs[v].way) s6 (.ls (acc.map tN)) (.va (tN p)) s9 s10 s12) (by unfold stP tN; simp! [e1]) (fun _ => ?_) (fun z => by cases z))
    refine ok_step (ρ1 := stP rs k big s2 (.va (.int (v : Int))) (.va (pD (parOf rs v))) (.va rs[v].way) s6 (.ls ((acc ++ [p]).map tN)) (.va (tN p)) s9 s10 s12) (by unfold stP; simp! [c4]) (ok_nil ?_)
    refine ok_cons (ok_if (v := false) (ρ1 := stP rs k big s2 (.va (.int (v : Int))) (.va (pD (parOf rs v))) (.va rs[v].way) s6 (.ls ((acc ++ [p]).map tN)) (.va (tN p)) s9 s10 s12) (by unfold stP tN; simp! [e2]) (fun z => by cases z) (fun _ => ok_nil (ok_nil ⟨rfl, by simp⟩)))
  · refine ok_cons (ok_if (v := true) (ρ1 := stP rs k big s2 (.va (.int (v : Int))) (.va (pD (parOf rs v))) (.va rs[v].way) s6 (.ls (acc.map tN)) (.va (tN p)) s9 s10 s12) (by unfold stP tN; simp! [e1, e3]) (fun _ => ?_) (fun z => by cases z))
    refine ok_step (ρ1 := stP rs k big s2 (.va (.int (v : Int))) (.va (pD (parOf rs v))) (.va rs[v].way) s6 (.ls ((acc ++ [p]).map tN)) (.va (tN p)) s9 s10 s12) (by unfold stP; simp! [c4]) (ok_nil ?_)
    refine ok_cons (ok_if (v := true) (ρ1 := stP rs k big s2 (.va (.int (v : Int))) (.va (pD (parOf rs v))) (.va rs[v].way) s6 (.ls ((acc ++ [p]).map tN)) (.va (tN p)) s9 s10 s12) (by unfold stP tN; simp! [e2]) (fun _ => ?_) (fun z => by cases z))
    refine ok_step (ρ1 := stP rs k big s2 (.va (.int (v : Int))) (.va (pD (parOf rs v))) (.va rs[v].way) s6 (.ls ((acc ++ [p] ++ [p ++ [v]]).map tN)) (.va (tN p)) s9 s10 s12) ?_ (ok_nil (ok_nil ⟨rfl, by simp⟩))
    generalize hA : (acc ++ [p]).map tN = A at c2 ⊢
    rw [List.map_append, hA]
    unfold stP
    simp only [List.map_cons, List.map_nil, tN]
    simp! [add_tup c3, c2, e4]
  · refine ok_cons (ok_if (v := false) (ρ1 := stP rs k big s2 (.va (.int (v : Int))) (.va (pD (parOf rs v))) (.va rs[v].way) s6 (.ls (acc.map tN)) (.va (tN p)) s9 s10 s12) (by unfold stP tN; simp! [e1, e3]) (fun z => by cases z) (fun _ => ok_nil ?_))
    refine ok_cons (ok_if (v := true) (ρ1 := stP rs k big s2 (.va (.int (v : Int))) (.va (pD (parOf rs v))) (.va rs[v].way) s6 (.ls (acc.map tN)) (.va (tN p)) s9 s10 s12) (by unfold stP tN; simp! [e2]) (fun _ => ?_) (fun z => by cases z))
    refine ok_step (ρ1 := stP rs k big s2 (.va (.int (v : Int))) (.va (pD (parOf rs v))) (.va rs[v].way) s6 (.ls ((acc ++ [p ++ [v]]).map tN)) (.va (tN p)) s9 s10 s12) ?_ (ok_nil (ok_nil ⟨rfl, by simp⟩))
    generalize hA : acc.map tN = A at c1 ⊢
    rw [List.map_append, hA]
    unfold stP
    simp only [List.map_cons, List.map_nil, tN]
    simp! [add_tup c3, c1, e4]
theorem par_eq {v : Nat} (hv : v < rs.length) : rs[v].par = parOf rs v := (parOf_at hv).symm
theorem flat_succ {v : Nat} {l : List (List Nat)} {i : Nat} (hi : i < l.length) : (l.take (i + 1)).flatMap (ext rs v) = (l.take i).flatMap (ext rs v) ++ ext rs v l[i] := by
  rw [List.take_succ_eq_append_getElem hi, List.flatMap_append]
  simp
theorem flat_small {v : Nat} {l : List (List Nat)} {i : Nat} (hl : l.length ≤ 1024) : ((l.take i).flatMap (ext rs v)).length ≤ 10000 := by
  have h1 := flat_len (rs := rs) (v := v) (l := l.take i)
  have h2 : (l.take i).length ≤ l.length := by
    rw [List.length_take]
    omega
  omega
def LsV (s : Sl) (L : List (List Nat)) : Prop := s = .ls (L.map tN) ∨ s = .va (.list (L.map tN))
theorem lp1_ok (h : Dun rs) {big : Option Nat} {s2 s6 s7 s8 : Sl} {v : Nat} (hv : v < rs.length) (h2 : LsV s2 (grow rs (v - 1))) (p7 : Nb s7) (p8 : Nb s8) :
    Ok (b_lparts_1.den g_lparts (stP rs k big s2 (.va (.int (v : Int))) (.va (pD (parOf rs v))) (.va rs[v].way) s6 s7 s8 .no .no .no))
      fun o ρ => o = .nx ∧ ∃ t2 t7 t8, LsV t2 (grow rs v) ∧ Nb t7 ∧ Nb t8 ∧ ρ = stP rs k big t2 (.va (.int (v : Int))) (.va (pD (parOf rs v))) (.va rs[v].way) s6 t7 t8 .no .no .no := by
  unfold b_lparts_1
  by_cases h0 : v = 0
  · subst h0
    refine ok_cons (ok_if (v := false) (ρ1 := stP rs k big s2 (.va (.int ((0 : Nat) : Int))) (.va (pD (parOf rs 0))) (.va rs[0].way) s6 s7 s8 .no .no .no) (by unfold stP; simp! []) (fun z => by cases z) (fun _ => ok_nil (ok_nil ⟨rfl, s2, s7, s8, h2, p7, p8, rfl⟩)))
  · have hpos : 0 < v := by omega
    obtain ⟨m, rfl⟩ : ∃ m, v = m + 1 := ⟨v - 1, by omega⟩
    have hpos2 : (0 : Int) < ((m + 1 : Nat) : Int) := by omega
    rw [Nat.add_sub_cancel] at h2
    refine ok_cons (ok_if (v := true) (ρ1 := stP rs k big s2 (.va (.int ((m + 1 : Nat) : Int))) (.va (pD (parOf rs (m + 1)))) (.va rs[m + 1].way) s6 s7 s8 .no .no .no) (by unfold stP; simp! [hpos2]) (fun _ => ?_) (fun z => by cases z))
    refine ok_step (ρ1 := stP rs k big s2 (.va (.int ((m + 1 : Nat) : Int))) (.va (pD (parOf rs (m + 1)))) (.va rs[m + 1].way) s6 (.ls []) s8 .no .no .no) (by unfold stP; cases s7 <;> first | cases p7; done | simp! []) ?_
    have hgl := grow_small h (m := m) (by omega)
    refine ok_cons (for_at (f := tN) (l := grow rs m) (ρ1 := stP rs k big (.va (.list ((grow rs m).map tN))) (.va (.int ((m + 1 : Nat) : Int))) (.va (pD (parOf rs (m + 1)))) (.va rs[m + 1].way) s6 (.ls []) s8 .no .no .no)
      (fun i ρ => ∃ t8, Nb t8 ∧ ρ = stP rs k big (.va (.list ((grow rs m).map tN))) (.va (.int ((m + 1 : Nat) : Int))) (.va (pD (parOf rs (m + 1)))) (.va rs[m + 1].way) s6 (.ls ((((grow rs m).take i).flatMap (ext rs (m + 1))).map tN)) t8 .no .no .no)
      ?_ ⟨s8, p8, by simp⟩ ?_ ?_)
    · unfold stP
      rcases h2 with rfl | rfl <;> simp! [fIt, its]
    · rintro i hi ρ ⟨t8, q8, rfl⟩
      refine ⟨stP rs k big (.va (.list ((grow rs m).map tN))) (.va (.int ((m + 1 : Nat) : Int))) (.va (pD (parOf rs (m + 1)))) (.va rs[m + 1].way) s6 (.ls ((((grow rs m).take i).flatMap (ext rs (m + 1))).map tN)) (.va (tN (grow rs m)[i])) .no .no .no, nm_ok q8 rfl rfl, ok_mono (lp0_ok h hv ?_ (flat_small hgl)) ?_⟩
      · obtain ⟨s, e, _⟩ := (mem_grow h (m := m) (by omega)).mp (List.getElem_mem hi)
        rw [e]
        have := lot_len (n := m + 1) (s := s)
        have := h.len1
        omega
      · rintro o ρ ⟨rfl, rfl⟩
        exact ⟨_, nb_va, by rw [flat_succ hi]⟩
    · rintro ρ ⟨t8, q8, rfl⟩
      rw [List.take_length]
      refine ok_step (ρ1 := stP rs k big (.va (.list ((grow rs (m + 1)).map tN))) (.va (.int ((m + 1 : Nat) : Int))) (.va (pD (parOf rs (m + 1)))) (.va rs[m + 1].way) s6 (.va (.list ((grow rs (m + 1)).map tN))) t8 .no .no .no) ?_ (ok_nil (ok_nil ⟨rfl, _, _, t8, .inr rfl, nb_va, q8, rfl⟩))
      show _ = some (Out.nx, stP rs k big (.va (.list (((grow rs m).flatMap (ext rs (m + 1))).map tN))) _ _ _ _ (.va (.list (((grow rs m).flatMap (ext rs (m + 1))).map tN))) _ _ _ _)
      generalize ((grow rs m).flatMap (ext rs (m + 1))).map tN = X
      unfold stP
      simp! []
theorem alike_tN {a b : List Nat} : PySem.W.alike (tN a) (tN b) = true := by
  have q : ∀ a b : List Nat, PySem.W.alikeAll (nD a) (nD b) = true := fun a => by
    induction a with
    | nil => intro b; simp [nD, PySem.W.alikeAll]
    | cons x a ih =>
      intro b
      cases b with
      | nil => simp [nD, PySem.W.alikeAll]
      | cons y b =>
        have e : ∀ (z : Nat) (zs : List Nat), nD (z :: zs) = nI z :: nD zs := fun _ _ => rfl
        rw [e, e, PySem.W.alikeAll, ih b]
        simp [PySem.W.alike, nI]
  rw [tN, tN, PySem.W.alike]
  exact q a b
theorem sorted_tN {L : List (List Nat)} (hn : ∀ p ∈ L, p ≠ []) (hl : L.length ≤ lim) : φSorted [.list (L.map tN)] = some (.ls (sortD (L.map tN))) := by
  unfold φSorted
  refine if_pos ⟨?_, .inl ?_, by rw [List.length_map]; exact hl, ?_⟩
  · unfold alikes
    rw [List.all_eq_true]
    intro x hx
    rw [List.all_eq_true]
    intro y hy
    obtain ⟨a, _, rfl⟩ := List.mem_map.mp hx
    obtain ⟨b, _, rfl⟩ := List.mem_map.mp hy
    exact alike_tN
  · rw [List.all_eq_true]
    intro x hx
    obtain ⟨a, ha, rfl⟩ := List.mem_map.mp hx
    cases a with
    | nil => exact absurd rfl (hn _ ha)
    | cons y ys => rfl
  · rw [List.all_eq_true]
    intro x hx
    obtain ⟨a, _, rfl⟩ := List.mem_map.mp hx
    have := (tN_lay (a := a)).2
    simp
    omega
def unT : D → List Nat
  | .tuple ds => ds.map fun d => match d with | .int i => i.toNat | _ => 0
  | _ => []
theorem unT_tN {a : List Nat} : unT (tN a) = a := by
  unfold tN unT nD
  simp only [List.map_map]
  conv => rhs; rw [← List.map_id a]
  exact List.map_congr_left fun i _ => by simp [nI]
theorem sort_tN {L : List (List Nat)} : ∃ M : List (List Nat), sortD (L.map tN) = M.map tN ∧ M.Perm L := by
  have p := sort_perm (ds := L.map tN)
  have inv : ∀ {l : List D}, (∀ x ∈ l, ∃ a, x = tN a) → ∃ M : List (List Nat), l = M.map tN := by
    intro l
    induction l with
    | nil => exact fun _ => ⟨[], rfl⟩
    | cons x l ih =>
      intro h
      obtain ⟨a, rfl⟩ := h x List.mem_cons_self
      obtain ⟨M, rfl⟩ := ih fun y hy => h y (List.mem_cons_of_mem _ hy)
      exact ⟨a :: M, rfl⟩
  obtain ⟨M, e⟩ := inv (l := sortD (L.map tN)) fun x hx => by
    obtain ⟨a, _, rfl⟩ := List.mem_map.mp (p.mem_iff.mp hx)
    exact ⟨a, rfl⟩
  refine ⟨M, e, ?_⟩
  rw [e] at p
  have q := p.map unT
  rw [List.map_map, List.map_map] at q
  have e2 : ∀ X : List (List Nat), X.map (unT ∘ tN) = X := fun X => by
    conv => rhs; rw [← List.map_id X]
    exact List.map_congr_left fun a _ => unT_tN
  rw [e2, e2] at q
  exact q
theorem lp2_ok (h : Dun rs) {big : Option Nat} {s2 s3 s4 s5 s6 s7 s10 s12 : Sl} {p : List Nat} {acc : List (List Nat)} (hb : ∀ b, big = some b → b < rs.length) (ha : acc.length ≤ 10000) (p3 : Nb s3) (p10 : Nb s10) (p12 : Nb s12) :
    Ok (b_lparts_2.den g_lparts (stP rs k big s2 s3 s4 s5 s6 s7 (.va (tN p)) (.ls (acc.map tN)) s10 s12))
      fun o ρ => o = .nx ∧ ∃ t10 t12, Nb t10 ∧ Nb t12 ∧ ρ = stP rs k big s2 s3 s4 s5 s6 s7 (.va (tN p)) (.ls ((acc ++ if keepB rs big p = true then [p] else []).map tN)) t10 t12 := by
  unfold b_lparts_2
  have hl1 := h.len1
  have q0 : q_lparts_0.den g_lparts (stP rs k big s2 s3 s4 s5 s6 s7 (.va (tN p)) (.ls (acc.map tN)) s10 s12) = some (.ls ((barred rs p).map nI), stP rs k big s2 s3 s4 s5 s6 s7 (.va (tN p)) (.ls (acc.map tN)) s10 s12) := by
    unfold q_lparts_0
    have hr : ((List.range rs.length).map fun i => .tuple [nI i, (rs.map roomD)[i]?.getD .none]) = enumFrom 0 (rs.map roomD) := enum_rooms.symm
    refine lc2 (l := List.range rs.length) (f1 := nI) (f2 := fun i => (rs.map roomD)[i]?.getD .none) (g := nI) (b := fun v => isBar rs v && oin (parOf rs v) p) (s := s3) (s2 := .no) (ρ1 := stP rs k big s2 s3 s4 s5 s6 s7 (.va (tN p)) (.ls (acc.map tN)) s10 s12) (by decide) ?_ (by rw [List.length_range]; exact lim_11 hl1) rfl rfl (fun v hv => ?_) (fun v hv _ => by rfl)
    · rw [hr]
      unfold stP
      simp! [fEn, fIt, its, dunD]
    · have hv2 : v < rs.length := List.mem_range.mp hv
      have e1 : (rs.map roomD)[v]?.getD .none = roomD rs[v] := by
        rw [List.getElem?_map, List.getElem?_eq_getElem hv2]
        rfl
      rw [e1]
      have e2 := in_pD (l := p) (parOf rs v)
      rw [← par_eq hv2] at e2 ⊢
      have e3 := bar_at h hv2
      cases hbv : isBar rs v <;> rw [hbv] at e3 <;> unfold stP tN <;> simp! [roomD, e3, e2]
  have hbn : (barred rs p).length ≤ lim := by
    unfold barred
    have := List.length_filter_le (fun v => isBar rs v && oin (parOf rs v) p) (List.range rs.length)
    rw [List.length_range] at this
    exact lim_11 (by omega)
  refine ok_step (ρ1 := stP rs k big s2 s3 s4 s5 s6 s7 (.va (tN p)) (.ls (acc.map tN)) (.ls (nD (barred rs p))) s12) (set_ls q0 p10 rfl rfl) ?_
  have q1 : q_lparts_1.den g_lparts (stP rs k big s2 s3 s4 s5 s6 s7 (.va (tN p)) (.ls (acc.map tN)) (.ls (nD (barred rs p))) s12) = some (.ls (((barred rs p).filter fun v => decide (v ∈ p)).map nI), stP rs k big s2 s3 s4 s5 s6 s7 (.va (tN p)) (.ls (acc.map tN)) (.va (.list (nD (barred rs p)))) s12) := by
    unfold q_lparts_1
    refine lc1 (l := barred rs p) (f := nI) (g := nI) (s := s3) (ρ1 := stP rs k big s2 s3 s4 s5 s6 s7 (.va (tN p)) (.ls (acc.map tN)) (.va (.list (nD (barred rs p)))) s12) (by unfold stP; simp! [fIt, its, nD]) hbn rfl (fun v hv => ?_) (fun v hv _ => by rfl)
    unfold stP tN nI
    simp! [in_natT]
  refine ok_step (ρ1 := stP rs k big s2 s3 s4 s5 s6 s7 (.va (tN p)) (.ls (acc.map tN)) (.va (.list (nD (barred rs p)))) (.ls (nD ((barred rs p).filter fun v => decide (v ∈ p))))) (set_ls q1 p12 rfl rfl) ?_
  have c4 : acc.length < lim := by
    show _ < 1000000
    omega
  have e3 := in_pD (l := p) big
  have e4 : ([] : List D) = nD [] := rfl
  refine ok_cons (ok_if (v := keepB rs big p) (ρ1 := stP rs k big s2 s3 s4 s5 s6 s7 (.va (tN p)) (.ls (acc.map tN)) (.va (.list (nD (barred rs p)))) (.ls (nD ((barred rs p).filter fun v => decide (v ∈ p))))) ?_ (fun hk => ?_) (fun hk => ?_))
  · unfold keepB
    have e5 : φEq (.list (nD ((barred rs p).filter fun v => decide (v ∈ p)))) (.list []) = some (.va (.bool (decide ((barred rs p).filter (fun v => decide (v ∈ p)) = [])))) := eq_lN (b := [])
    generalize hF : ((barred rs p).filter fun v => decide (v ∈ p)) = F at e5 ⊢
    cases hbg : oin big p <;> rw [hbg] at e3
    · unfold stP tN
      simp! [e3, e5]
    · unfold stP tN
      simp! [e3, eq_lN]
  · refine ok_step (ρ1 := stP rs k big s2 s3 s4 s5 s6 s7 (.va (tN p)) (.ls ((acc ++ [p]).map tN)) (.va (.list (nD (barred rs p)))) (.ls (nD ((barred rs p).filter fun v => decide (v ∈ p))))) (by unfold stP; simp! [c4]) (ok_nil (ok_nil ⟨rfl, _, _, nb_va, nb_ls, by rw [if_pos hk]⟩))
  · exact ok_nil (ok_nil ⟨rfl, _, _, nb_va, nb_ls, by rw [if_neg (by simp [hk]), List.append_nil]⟩)
theorem filt_succ {α : Type} {p : α → Bool} {l : List α} {i : Nat} (hi : i < l.length) : (l.take (i + 1)).filter p = (l.take i).filter p ++ (if p l[i] = true then [l[i]] else []) := by
  rw [List.take_succ_eq_append_getElem hi, List.filter_append]
  congr 1
  cases h : p l[i] <;> simp [List.filter_cons, h]
theorem lparts_ok (h : Dun rs) {big : Option Nat} (hb : ∀ b, big = some b → b < rs.length) : d_lparts.run [] [dunD rs k, pD big] = some (.ls (sortD ((partsL rs big).map tN)), []) := by
  refine eqr ?_
  rw [r_lparts]
  refine run_f ?_
  have hl1 := h.len1
  have hl0 := h.len0
  refine ok_step (ρ1 := stP rs k big (.ls ((grow rs 0).map tN)) .no .no .no .no .no .no .no .no .no) (by unfold stP; simp! [grow, tN, nD, nI]) ?_
  refine ok_cons (for_at (f := enI rs) (l := List.range rs.length) (ρ1 := stP rs k big (.ls ((grow rs 0).map tN)) .no .no .no .no .no .no .no .no .no)
    (fun i ρ => ∃ t2 t3 t4 t5 t6 t7 t8, LsV t2 (grow rs (i - 1)) ∧ Nb t3 ∧ Nb t4 ∧ Nb t5 ∧ Nb t6 ∧ Nb t7 ∧ Nb t8 ∧ ρ = stP rs k big t2 t3 t4 t5 t6 t7 t8 .no .no .no)
    (by rw [← enum_rooms]; unfold stP; simp! [fEn, fIt, its, dunD]) ⟨_, .no, .no, .no, .no, .no, .no, .inl rfl, rfl, rfl, rfl, rfl, rfl, rfl, rfl⟩ ?_ ?_)
  · rintro i hi ρ ⟨t2, t3, t4, t5, t6, t7, t8, h2, p3, p4, p5, p6, p7, p8, rfl⟩
    have hv : i < rs.length := by simpa using hi
    rw [List.getElem_range, enI_at hv]
    refine ⟨stP rs k big t2 (.va (.int (i : Int))) (.va (pD (parOf rs i))) (.va rs[i].way) (.va (.int rs[i].ch)) t7 t8 .no .no .no, ?_, ok_mono (lp1_ok h hv h2 p7 p8) ?_⟩
    · rw [← par_eq hv]
      unfold stP roomD
      cases t3 <;> first | cases p3; done | skip
      all_goals cases t4 <;> first | cases p4; done | skip
      all_goals cases t5 <;> first | cases p5; done | skip
      all_goals cases t6 <;> first | cases p6; done | rfl
    · rintro o ρ ⟨rfl, u2, u7, u8, q2, q7, q8, rfl⟩
      exact ⟨u2, _, _, _, _, u7, u8, q2, nb_va, nb_va, nb_va, nb_va, q7, q8, rfl⟩
  · rintro ρ ⟨t2, t3, t4, t5, t6, t7, t8, h2, p3, p4, p5, p6, p7, p8, rfl⟩
    rw [List.length_range] at h2
    have hgl := grow_small h (m := rs.length - 1) (by omega)
    refine ok_step (ρ1 := stP rs k big t2 t3 t4 t5 t6 t7 t8 (.ls []) .no .no) (by unfold stP; simp! []) ?_
    refine ok_cons (for_at (f := tN) (l := grow rs (rs.length - 1)) (ρ1 := stP rs k big (.va (.list ((grow rs (rs.length - 1)).map tN))) t3 t4 t5 t6 t7 t8 (.ls []) .no .no)
      (fun i ρ => ∃ t8 t10 t12, Nb t8 ∧ Nb t10 ∧ Nb t12 ∧ ρ = stP rs k big (.va (.list ((grow rs (rs.length - 1)).map tN))) t3 t4 t5 t6 t7 t8 (.ls ((((grow rs (rs.length - 1)).take i).filter (keepB rs big)).map tN)) t10 t12)
      (by unfold stP; rcases h2 with rfl | rfl <;> simp! [fIt, its]) ⟨t8, .no, .no, p8, rfl, rfl, by simp⟩ ?_ ?_)
    · rintro i hi ρ ⟨t8, t10, t12, p8, p10, p12, rfl⟩
      refine ⟨stP rs k big (.va (.list ((grow rs (rs.length - 1)).map tN))) t3 t4 t5 t6 t7 (.va (tN (grow rs (rs.length - 1))[i])) (.ls ((((grow rs (rs.length - 1)).take i).filter (keepB rs big)).map tN)) t10 t12, nm_ok p8 rfl rfl, ok_mono (lp2_ok h hb ?_ p3 p10 p12) ?_⟩
      · have h1 := List.length_filter_le (keepB rs big) ((grow rs (rs.length - 1)).take i)
        rw [List.length_take] at h1
        omega
      · rintro o ρ ⟨rfl, u10, u12, q10, q12, rfl⟩
        exact ⟨_, u10, u12, nb_va, q10, q12, by rw [filt_succ hi]⟩
    · rintro ρ ⟨t8, t10, t12, p8, p10, p12, rfl⟩
      rw [List.take_length]
      have hs := sorted_tN (L := partsL rs big) (fun p hp => by
        obtain ⟨s, rfl, hP⟩ := (mem_parts h hb).mp hp
        intro z
        have : 0 ∈ lot rs.length s := mem_lot.mpr ⟨hl0, hP.root⟩
        rw [z] at this
        cases this) (by
        unfold partsL
        have := List.length_filter_le (keepB rs big) (grow rs (rs.length - 1))
        show _ ≤ 1000000
        omega)
      refine ok_last (r := .ls (sortD ((partsL rs big).map tN))) (ρ1 := stP rs k big (.va (.list ((grow rs (rs.length - 1)).map tN))) t3 t4 t5 t6 t7 t8 (.ls ((partsL rs big).map tN)) t10 t12) ?_ ⟨rfl, rfl⟩
      show S.den g_lparts _ (stP rs k big (.va (.list ((grow rs (rs.length - 1)).map tN))) t3 t4 t5 t6 t7 t8 (.ls ((partsL rs big).map tN)) t10 t12) = _
      generalize hX : (partsL rs big).map tN = X at hs ⊢
      unfold stP
      simp! [hs]
end W


set_option autoImplicit false
namespace W
open PySem PySem.Spec L2 Den
variable {rs : List Rm} {k : Int}
end W


set_option autoImplicit false
namespace W
open PySem PySem.Spec L2 Den
variable {rs : List Rm} {k : Int}
structure Gd (rs : List Rm) (big : Option Nat) (lk F : List Nat) : Prop where
  nd : F.Nodup
  lt : ∀ u ∈ F, u < rs.length
  z : 0 ∈ F
  inn : ∀ t, Cl rs big lk t → ∀ u ∈ F, t u = true
end W


set_option autoImplicit false
namespace W
open PySem PySem.Spec L2 Den
variable {rs : List Rm} {k : Int}
theorem lot_ok2 {β : List D} {n : Nat} (hb : Bag β) (hn : n ≤ 1000) : Ans (d_lany_lot.run β [.int (n : Int)]) fun r β' => ∃ us : List Nat, r = .va (tN us) ∧ us.Pairwise (· < ·) ∧ (∀ u ∈ us, u < n) ∧ Bag β' := by
  rw [r_lany_lot]
  refine run_t ?_
  obtain ⟨w, β1, w0, w1, hb1, e⟩ := take_ok (m := 3) hb (by omega) (by omega)
  refine ok_step (ρ1 := [.bg β1, .va (.int (n : Int)), .va (.int w), .no]) (by simp! [g_lany_lot, mt_ltake, np_ltake, e]) ?_
  have hr : (-1000000 : Int) ≤ (n : Int) ∧ (n : Int) ≤ 1000000 := by omega
  obtain ⟨out, ρ2, e2, β2, us, a, e3, ha, ed, e5, e6, e7, e8⟩ := lc_inv (vs := [3]) (t := Tg.den (.nm 3)) (test := Co.denT g_lany_lot (.so (.cmp .eq (.callM 0 0 (.cons (.bin .add (.int 2) (.var 2)) .nil)) (.int 0)))) (elt := fF (C.den g_lany_lot (.var 3)))
    (fun ds acc ρ => ∃ β us a, ρ = [.bg β, .va (.int (n : Int)), .va (.int w), .no] ∧ a ≤ n ∧ ds = nD (List.range' a (n - a)) ∧ acc = nD us ∧ us.Pairwise (· < ·) ∧ (∀ u ∈ us, u < a) ∧ Bag β) (by
      rintro d ds acc ρ ⟨β, us, a, rfl, ha, hd, rfl, hp, hu, hb⟩
      obtain ⟨m, hm⟩ : ∃ m, n - a = m + 1 := by
        cases z : n - a with
        | zero => rw [z] at hd; cases hd
        | succ m => exact ⟨m, rfl⟩
      rw [hm, List.range'_succ] at hd
      have hd1 : d = .int (a : Int) := (List.cons.inj hd).1
      have hd2 : ds = nD (List.range' (a + 1) m) := (List.cons.inj hd).2
      subst hd1
      have hm2 : n - (a + 1) = m := by omega
      obtain ⟨x, β2, x0, x1, hb2, e2⟩ := take_ok (m := 2 + w) hb (by omega) (by omega)
      refine ⟨[.bg β, .va (.int (n : Int)), .va (.int w), .va (.int (a : Int))], x == 0, [.bg β2, .va (.int (n : Int)), .va (.int w), .va (.int (a : Int))], by rfl, ?_, fun _ => ⟨.int (a : Int), [.bg β2, .va (.int (n : Int)), .va (.int w), .va (.int (a : Int))], by rfl, β2, us ++ [a], a + 1, by rfl, by omega, by rw [hd2, hm2], by rw [nD_app, nD_one], ?_, ?_, hb2⟩,
        fun _ => ⟨β2, us, a + 1, by rfl, by omega, by rw [hd2, hm2], rfl, hp, fun u z => Nat.lt_succ_of_lt (hu u z), hb2⟩⟩
      · simp! [g_lany_lot, mt_ltake, np_ltake, e2]
      · refine List.pairwise_append.mpr ⟨hp, by simp, fun u z v y => ?_⟩
        rw [List.mem_singleton.mp y]
        exact hu u z
      · intro y hy
        rcases List.mem_append.mp hy with z | z
        · exact Nat.lt_succ_of_lt (hu y z)
        · rw [List.mem_singleton.mp z]
          exact Nat.lt_succ_self _) (ds := nD (List.range n)) (acc := []) (ρ := [.bg β1, .va (.int (n : Int)), .va (.int w), .no]) ⟨β1, [], 0, rfl, by omega, by rw [Nat.sub_zero, List.range_eq_range'], rfl, by simp, (fun _ z => by cases z), hb1⟩
  have q : (q_lany_lot_0).den g_lany_lot [.bg β1, .va (.int (n : Int)), .va (.int w), .no] = some (.ls out, [.bg β2, .va (.int (n : Int)), .va (.int w), .no]) := by
    subst e3
    unfold q_lany_lot_0
    refine Eq.trans (lc_val (ds := nD (List.range n)) (ρ1 := [.bg β1, .va (.int (n : Int)), .va (.int w), .no]) (by rw [it_rng1 (x := n) (ρ1 := [.bg β1, .va (.int (n : Int)), .va (.int w), .no]) (by simp! []) hr, rng_nat]) (by rw [nD_len, List.length_range]; show _ ≤ 1000000; omega) e2) ?_
    rfl
  subst e5
  exact ok_last (r := .va (.tuple (nD us))) (ρ1 := [.bg β2, .va (.int (n : Int)), .va (.int w), .no]) (by simp! [q]) ⟨β2, rfl, us, rfl, e6, fun u z => Nat.lt_of_lt_of_le (e7 u z) ha, e8⟩
section
variable {Γ : Gam} {it : Ci} {ifs : Co} {elt c : C} {t : Tg} {ρ ρ1 ρ2 : Lo} {i j : Nat} {s : Sl}
end
end W


set_option autoImplicit false
namespace K16
open PySem PySem.Spec L2 Den W
noncomputable section
abbrev topS (i : Nat) : Stmt := PySem.Challenge.pw_wellstrewn_k16_parts_judged_and_listed.main.body.getD i (.Pass ⟨0, 0, 0, 0⟩)
abbrev t_is_integer : Stmt := topS 1
abbrev n_is_integer : List Str := ["thing"]
abbrev t_is_index : Stmt := topS 2
abbrev n_is_index : List Str := ["thing", "many"]
abbrev t_is_ascending : Stmt := topS 3
abbrev n_is_ascending : List Str := ["row", "one", "other"]
abbrev t_is_lot : Stmt := topS 4
abbrev n_is_lot : List Str := ["thing", "many", "part"]
abbrev t_stands_right : Stmt := topS 6
abbrev n_stands_right : List Str := ["dungeon", "laid", "lot", "v", "parent", "way", "_"]
abbrev t_is_part : Stmt := topS 7
abbrev n_is_part : List Str := ["dungeon", "laid", "thing", "many", "v"]
abbrev t_all_parts : Stmt := topS 8
abbrev n_all_parts : List Str := ["dungeon", "laid", "lots", "v", "lot"]
abbrev t_net_of : Stmt := topS 9
abbrev n_net_of : List Str := ["dungeon", "laid", "part", "keys", "v"]
abbrev t_lbag : Stmt := topS 11
abbrev n_lbag : List Str := ["script", "cell"]
abbrev t_ltake : Stmt := topS 12
abbrev n_ltake : List Str := ["bag", "many", "cell", "stirred", "value", "begin", "second"]
abbrev t_lsome : Stmt := topS 13
abbrev n_lsome : List Str := ["bag", "things"]
abbrev t_lalike : Stmt := topS 14
abbrev n_lalike : List Str := ["found", "due"]
abbrev t_ldungeon : Stmt := topS 15
abbrev n_ldungeon : List Str := ["bag", "most", "rooms", "has_bars", "v", "way", "locks", "room", "needed", "many", "keys"]
abbrev t_lis_barred : Stmt := topS 16
abbrev n_lis_barred : List Str := ["dungeon", "room"]
abbrev t_lparts : Stmt := topS 17
abbrev n_lparts : List Str := ["dungeon", "big", "found", "v", "parent", "way", "chests", "longer", "part", "told", "barred", "room", "inner"]
abbrev t_lnet : Stmt := topS 18
abbrev n_lnet : List Str := ["dungeon", "small", "part", "v"]
abbrev t_lway_has_bar : Stmt := topS 19
abbrev n_lway_has_bar : List Str := ["dungeon", "v"]
abbrev t_lany_laid : Stmt := topS 20
abbrev n_lany_laid : List Str := ["bag", "dungeon", "rooms", "big", "open_ways", "v", "small", "way", "locks", "room", "turn", "step"]
abbrev t_lany_lot : Stmt := topS 21
abbrev n_lany_lot : List Str := ["bag", "many", "way", "v"]
abbrev t_lbent_lot : Stmt := topS 22
abbrev n_lbent_lot : List Str := ["bag", "lot", "many", "at", "other", "odd", "some", "v"]
def q_lbent_lot_0 : C := .lc [("v", 7)] (.tup (.cons (.var 7) (.cons (.var 7) .nil))) (.nm 7) (.seq (.var 1)) .no
def c_lbent_lot : Ss :=
  (.cons (.par 3 4 (.callM 0 0 (.cons (.bin .add (.blt .len (.cons (.var 1) .nil)) (.int 1)) .nil)) (.callM 0 0 (.cons (.blt .max (.cons (.int 1) (.cons (.var 2) .nil))) .nil)))
  (.cons (.set 5 (.callM 1 0 (.cons (.lst (.cons (.int 0) (.cons (.var 2) (.cons (.bin .sub (.var 2) (.int 1)) (.cons (.neg (.int 1)) (.cons (.bool true) (.cons .non (.cons (.tup .nil) (.cons (.str "0") (.cons (.var 4) .nil)))))))))) .nil)))
  (.cons (.set 6 (.lst (.cons (.bin .add (.sl (.var 1) .no (.so (.var 3))) (.sl (.var 1) (.so (.bin .add (.var 3) (.int 1))) .no)) (.cons (.bin .add (.bin .add (.sl (.var 1) .no (.so (.var 3))) (.tup (.cons (.var 5) .nil))) (.sl (.var 1) (.so (.var 3)) .no)) (.cons (.bin .add (.bin .add (.sl (.var 1) .no (.so (.var 3))) (.tup (.cons (.var 5) .nil))) (.sl (.var 1) (.so (.bin .add (.var 3) (.int 1))) .no)) .nil)))))
  (.cons (.exp (.mut .append 6 (.cons (.bin .add (.sl (.var 1) .no (.so (.var 3))) (.sl (.var 1) (.so (.bin .sub (.var 3) (.int 1))) .no)) .nil)))
  (.cons (.exp (.ext 6 (.lst (.cons (.rev (.var 1)) (.cons (.blt .list (.cons (.var 1) .nil)) (.cons (.tup (.cons (.var 1) .nil)) (.cons .non (.cons .dct0 (.cons (.blt .dict (.cons q_lbent_lot_0 .nil)) (.cons (.bin .add (.var 1) (.sl (.var 1) .no (.so (.int 1)))) (.cons (.int 0) .nil)))))))))))
  (.cons (.ret (.callM 1 0 (.cons (.var 6) .nil))) .nil))))))
def g_lbent_lot : Gam := ⟨[("_law_take", d_ltake), ("_law_some", d_lsome)], [], ["len", "max", "dict", "list"], []⟩
def d_lbent_lot : FD := fdOf g_lbent_lot true 3 5 c_lbent_lot
theorem mt_lbent_lot : d_lbent_lot.mt = true := nr rfl
theorem np_lbent_lot : d_lbent_lot.np = 3 := nr rfl
theorem r_lbent_lot {β ds : List D} : d_lbent_lot.run β ds = bodyRun true 5 (c_lbent_lot.den g_lbent_lot) β ds := by unfold d_lbent_lot; exact fdrun
abbrev t_law : Stmt := topS 23
abbrev n_law : List Str := ["script", "bag", "turn", "dungeon", "laid", "parts", "text", "many", "some", "k", "thing", "due", "part", "told"]
def q_law_0 : C := .lc [("part", 12)] (.var 12) (.nm 12) (.seq (.var 5)) (.so (.call 5 (.cons (.var 10) (.cons (.var 12) .nil))))
def b_law_0 : Ss :=
  (.cons (.exp (.mut .append 8 (.cons (.callM 8 1 (.cons (.callM 2 1 (.cons (.var 5) .nil)) (.cons (.var 7) .nil))) .nil))) .nil)
def b_law_1 : Ss :=
  (.cons (.set 11 (.cmp .ne q_law_0 (.lst .nil)))
  (.cons (.ife (.not (.call 5 (.cons (.call 9 (.cons (.var 3) (.cons (.var 4) (.cons (.var 10) .nil)))) (.cons (.var 11) .nil))))
    (.cons (.ret (.bool false)) .nil)
    .nil) .nil))
def b_law_2 : Ss :=
  (.cons (.ife (.not (.call 5 (.cons (.call 11 (.cons (.var 3) (.cons (.var 4) (.cons (.var 12) .nil)))) (.cons (.call 10 (.cons (.var 3) (.cons (.ix (.var 4) (.int 1)) (.cons (.var 12) .nil)))) .nil))))
    (.cons (.ret (.bool false)) .nil)
    .nil) .nil)
def b_law_3 : Ss :=
  (.cons (.set 3 (.callM 1 1 (.cons (.callM 2 1 (.cons (.lst (.cons (.int 4) (.cons (.int 9) (.cons (.int 6) .nil)))) .nil)) .nil)))
  (.cons (.set 4 (.callM 3 1 (.cons (.var 3) .nil)))
  (.cons (.par3 5 6 7 (.call 4 (.cons (.var 3) (.cons (.ix (.var 4) (.int 0)) .nil))) (.blt .repr (.cons (.lst (.cons (.var 3) (.cons (.var 4) .nil))) .nil)) (.blt .len (.cons (.ix (.var 3) (.int 0)) .nil)))
  (.cons (.ife (.not (.call 5 (.cons (.call 6 (.cons (.var 3) (.cons (.var 4) .nil))) (.cons (.var 5) .nil))))
    (.cons (.ret (.bool false)) .nil)
    .nil)
  (.cons (.set 8 (.lst (.cons (.callM 2 1 (.cons (.var 5) .nil)) (.cons (.callM 7 1 (.cons (.var 7) .nil)) (.cons (.tr (.var 7)) (.cons (.tup .nil) (.cons (.tup (.cons (.int 0) .nil)) .nil)))))))
  (.cons (.fors (.nm 9) (.rng1 (.int 12))
    b_law_0)
  (.cons (.fors (.nm 10) (.seq (.var 8))
    b_law_1)
  (.cons (.fors (.nm 12) (.seq (.bin .add (.sl (.var 5) .no (.so (.int 20))) (.sl (.var 5) (.so (.neg (.int 3))) .no)))
    b_law_2)
  (.cons (.set 13 (.call 6 (.cons (.var 3) (.cons (.var 4) .nil))))
  (.cons (.exp (.mut .append 13 (.cons (.tup (.cons (.int 0) .nil)) .nil)))
  (.cons (.ife (.or (.cons (.not (.call 5 (.cons (.call 6 (.cons (.var 3) (.cons (.var 4) .nil))) (.cons (.var 5) .nil)))) (.cons (.cmp .ne (.blt .repr (.cons (.lst (.cons (.var 3) (.cons (.var 4) .nil))) .nil)) (.var 6)) .nil)))
    (.cons (.ret (.bool false)) .nil)
    .nil) .nil)))))))))))
def c_law : Ss :=
  (.cons (.set 1 (.call 0 (.cons (.var 0) .nil)))
  (.cons (.fors (.nm 2) (.rng1 (.int 3))
    b_law_3)
  (.cons (.ret (.bool true)) .nil)))
def g_law : Gam := ⟨[("_law_bag", d_lbag), ("_law_dungeon", d_ldungeon), ("_law_some", d_lsome), ("_law_any_laid", d_lany_laid), ("_law_parts", d_lparts), ("_law_alike", d_lalike), ("all_parts", d_all_parts), ("_law_any_lot", d_lany_lot), ("_law_bent_lot", d_lbent_lot), ("is_part", d_is_part), ("_law_net", d_lnet), ("net_of", d_net_of)], [], ["range", "repr", "len", "tuple"], []⟩
def d_law : FD := fdOf g_law false 1 13 c_law
theorem f_law_0 : g_law.fns[0]? = some (("_law_bag" : Str), d_lbag) := rfl
theorem f_law_1 : g_law.fns[1]? = some (("_law_dungeon" : Str), d_ldungeon) := rfl
theorem f_law_2 : g_law.fns[2]? = some (("_law_some" : Str), d_lsome) := rfl
theorem f_law_3 : g_law.fns[3]? = some (("_law_any_laid" : Str), d_lany_laid) := rfl
theorem f_law_4 : g_law.fns[4]? = some (("_law_parts" : Str), d_lparts) := rfl
theorem f_law_5 : g_law.fns[5]? = some (("_law_alike" : Str), d_lalike) := rfl
theorem f_law_6 : g_law.fns[6]? = some (("all_parts" : Str), d_all_parts) := rfl
theorem f_law_7 : g_law.fns[7]? = some (("_law_any_lot" : Str), d_lany_lot) := rfl
theorem f_law_8 : g_law.fns[8]? = some (("_law_bent_lot" : Str), d_lbent_lot) := rfl
theorem f_law_9 : g_law.fns[9]? = some (("is_part" : Str), d_is_part) := rfl
theorem f_law_10 : g_law.fns[10]? = some (("_law_net" : Str), d_lnet) := rfl
theorem f_law_11 : g_law.fns[11]? = some (("net_of" : Str), d_net_of) := rfl
theorem r_law {β ds : List D} : d_law.run β ds = bodyRun false 13 (c_law.den g_law) β ds := by unfold d_law; exact fdrun
end
end K16


set_option autoImplicit false
namespace K16
open PySem PySem.Spec L2 Den W
theorem sc_is_integer : FnScope n_is_integer ["thing"] (defScope t_is_integer) := ⟨rfl, rfl, rfl, by decide +kernel, rfl, by decide +kernel, by decide +kernel⟩
theorem k_is_integer : c_is_integer.chk g_is_integer ⟨n_is_integer, defScope t_is_integer, fun _ => true⟩ (defBody t_is_integer) = true := by decide +kernel
theorem sc_is_index : FnScope n_is_index ["thing", "many"] (defScope t_is_index) := ⟨rfl, rfl, rfl, by decide +kernel, rfl, by decide +kernel, by decide +kernel⟩
theorem k_is_index : c_is_index.chk g_is_index ⟨n_is_index, defScope t_is_index, fun _ => true⟩ (defBody t_is_index) = true := by decide +kernel
theorem sc_is_ascending : FnScope n_is_ascending ["row"] (defScope t_is_ascending) := ⟨rfl, rfl, rfl, by decide +kernel, rfl, by decide +kernel, by decide +kernel⟩
theorem k_is_ascending : c_is_ascending.chk g_is_ascending ⟨n_is_ascending, defScope t_is_ascending, fun _ => true⟩ (defBody t_is_ascending) = true := by decide +kernel
theorem sc_is_lot : FnScope n_is_lot ["thing", "many"] (defScope t_is_lot) := ⟨rfl, rfl, rfl, by decide +kernel, rfl, by decide +kernel, by decide +kernel⟩
theorem k_is_lot : c_is_lot.chk g_is_lot ⟨n_is_lot, defScope t_is_lot, fun _ => true⟩ (defBody t_is_lot) = true := by decide +kernel
theorem sc_stands_right : FnScope n_stands_right ["dungeon", "laid", "lot", "v"] (defScope t_stands_right) := ⟨rfl, rfl, rfl, by decide +kernel, rfl, by decide +kernel, by decide +kernel⟩
theorem k_stands_right : c_stands_right.chk g_stands_right ⟨n_stands_right, defScope t_stands_right, fun _ => true⟩ (defBody t_stands_right) = true := by decide +kernel
theorem sc_is_part : FnScope n_is_part ["dungeon", "laid", "thing"] (defScope t_is_part) := ⟨rfl, rfl, rfl, by decide +kernel, rfl, by decide +kernel, by decide +kernel⟩
theorem k_is_part : c_is_part.chk g_is_part ⟨n_is_part, defScope t_is_part, fun _ => true⟩ (defBody t_is_part) = true := by decide +kernel
theorem sc_all_parts : FnScope n_all_parts ["dungeon", "laid"] (defScope t_all_parts) := ⟨rfl, rfl, rfl, by decide +kernel, rfl, by decide +kernel, by decide +kernel⟩
theorem k_all_parts : c_all_parts.chk g_all_parts ⟨n_all_parts, defScope t_all_parts, fun _ => true⟩ (defBody t_all_parts) = true := by decide +kernel
theorem sc_net_of : FnScope n_net_of ["dungeon", "laid", "part"] (defScope t_net_of) := ⟨rfl, rfl, rfl, by decide +kernel, rfl, by decide +kernel, by decide +kernel⟩
theorem k_net_of : c_net_of.chk g_net_of ⟨n_net_of, defScope t_net_of, fun _ => true⟩ (defBody t_net_of) = true := by decide +kernel
theorem sc_lbag : FnScope n_lbag ["script"] (defScope t_lbag) := ⟨rfl, rfl, rfl, by decide +kernel, rfl, by decide +kernel, by decide +kernel⟩
theorem k_lbag : c_lbag.chk g_lbag ⟨n_lbag, defScope t_lbag, fun _ => true⟩ (defBody t_lbag) = true := by decide +kernel
theorem sc_ltake : FnScope n_ltake ["bag", "many"] (defScope t_ltake) := ⟨rfl, rfl, rfl, by decide +kernel, rfl, by decide +kernel, by decide +kernel⟩
theorem k_ltake : c_ltake.chk g_ltake ⟨n_ltake, defScope t_ltake, fun _ => true⟩ (defBody t_ltake) = true := by decide +kernel
theorem sc_lsome : FnScope n_lsome ["bag", "things"] (defScope t_lsome) := ⟨rfl, rfl, rfl, by decide +kernel, rfl, by decide +kernel, by decide +kernel⟩
theorem k_lsome : c_lsome.chk g_lsome ⟨n_lsome, defScope t_lsome, fun _ => true⟩ (defBody t_lsome) = true := by decide +kernel
theorem sc_lalike : FnScope n_lalike ["found", "due"] (defScope t_lalike) := ⟨rfl, rfl, rfl, by decide +kernel, rfl, by decide +kernel, by decide +kernel⟩
theorem k_lalike : c_lalike.chk g_lalike ⟨n_lalike, defScope t_lalike, fun _ => true⟩ (defBody t_lalike) = true := by decide +kernel
theorem sc_ldungeon : FnScope n_ldungeon ["bag", "most"] (defScope t_ldungeon) := ⟨rfl, rfl, rfl, by decide +kernel, rfl, by decide +kernel, by decide +kernel⟩
theorem k_ldungeon : c_ldungeon.chk g_ldungeon ⟨n_ldungeon, defScope t_ldungeon, fun _ => true⟩ (defBody t_ldungeon) = true := by decide +kernel
theorem sc_lis_barred : FnScope n_lis_barred ["dungeon"] (defScope t_lis_barred) := ⟨rfl, rfl, rfl, by decide +kernel, rfl, by decide +kernel, by decide +kernel⟩
theorem k_lis_barred : c_lis_barred.chk g_lis_barred ⟨n_lis_barred, defScope t_lis_barred, fun _ => true⟩ (defBody t_lis_barred) = true := by decide +kernel
theorem sc_lparts : FnScope n_lparts ["dungeon", "big"] (defScope t_lparts) := ⟨rfl, rfl, rfl, by decide +kernel, rfl, by decide +kernel, by decide +kernel⟩
theorem k_lparts : c_lparts.chk g_lparts ⟨n_lparts, defScope t_lparts, fun _ => true⟩ (defBody t_lparts) = true := by decide +kernel
theorem sc_lnet : FnScope n_lnet ["dungeon", "small", "part"] (defScope t_lnet) := ⟨rfl, rfl, rfl, by decide +kernel, rfl, by decide +kernel, by decide +kernel⟩
theorem k_lnet : c_lnet.chk g_lnet ⟨n_lnet, defScope t_lnet, fun _ => true⟩ (defBody t_lnet) = true := by decide +kernel
theorem sc_lway_has_bar : FnScope n_lway_has_bar ["dungeon", "v"] (defScope t_lway_has_bar) := ⟨rfl, rfl, rfl, by decide +kernel, rfl, by decide +kernel, by decide +kernel⟩
theorem k_lway_has_bar : c_lway_has_bar.chk g_lway_has_bar ⟨n_lway_has_bar, defScope t_lway_has_bar, fun _ => true⟩ (defBody t_lway_has_bar) = true := by decide +kernel
theorem sc_lany_laid : FnScope n_lany_laid ["bag", "dungeon"] (defScope t_lany_laid) := ⟨rfl, rfl, rfl, by decide +kernel, rfl, by decide +kernel, by decide +kernel⟩
theorem k_lany_laid : c_lany_laid.chk g_lany_laid ⟨n_lany_laid, defScope t_lany_laid, fun _ => true⟩ (defBody t_lany_laid) = true := by decide +kernel
theorem sc_lany_lot : FnScope n_lany_lot ["bag", "many"] (defScope t_lany_lot) := ⟨rfl, rfl, rfl, by decide +kernel, rfl, by decide +kernel, by decide +kernel⟩
theorem k_lany_lot : c_lany_lot.chk g_lany_lot ⟨n_lany_lot, defScope t_lany_lot, fun _ => true⟩ (defBody t_lany_lot) = true := by decide +kernel
theorem sc_lbent_lot : FnScope n_lbent_lot ["bag", "lot", "many"] (defScope t_lbent_lot) := ⟨rfl, rfl, rfl, by decide +kernel, rfl, by decide +kernel, by decide +kernel⟩
theorem k_lbent_lot : c_lbent_lot.chk g_lbent_lot ⟨n_lbent_lot, defScope t_lbent_lot, fun _ => true⟩ (defBody t_lbent_lot) = true := by decide +kernel
theorem sc_law : FnScope n_law ["script"] (defScope t_law) := ⟨rfl, rfl, rfl, by decide +kernel, rfl, by decide +kernel, by decide +kernel⟩
theorem k_law : c_law.chk g_law ⟨n_law, defScope t_law, fun _ => true⟩ (defBody t_law) = true := by decide +kernel
set_option maxHeartbeats 0 in
theorem all_mk {P : Program} {w : World} {K : PySem.W.Frag} {h : Heap} {mg : Str → Option Value} {fa : Addr} (X : K.In h) (G : h.Ns mainGlobals mg) (hfa : mg "law" = some (.ref fa))
    {o0 a0 : Option Addr} {s0 : Array (Option Value)} {y0 v0 u0 p0 c0 t0 : Value} {f0 : Addr}
    {o1 a1 : Option Addr} {s1 : Array (Option Value)} {y1 v1 u1 p1 c1 t1 : Value} {f1 : Addr}
    {o2 a2 : Option Addr} {s2 : Array (Option Value)} {y2 v2 u2 p2 c2 t2 : Value} {f2 : Addr}
    {o3 a3 : Option Addr} {s3 : Array (Option Value)} {y3 v3 u3 p3 c3 t3 : Value} {f3 : Addr}
    {o4 a4 : Option Addr} {s4 : Array (Option Value)} {y4 v4 u4 p4 c4 t4 : Value} {f4 : Addr}
    {o5 a5 : Option Addr} {s5 : Array (Option Value)} {y5 v5 u5 p5 c5 t5 : Value} {f5 : Addr}
    {o6 a6 : Option Addr} {s6 : Array (Option Value)} {y6 v6 u6 p6 c6 t6 : Value} {f6 : Addr}
    {o7 a7 : Option Addr} {s7 : Array (Option Value)} {y7 v7 u7 p7 c7 t7 : Value} {f7 : Addr}
    {o8 a8 : Option Addr} {s8 : Array (Option Value)} {y8 v8 u8 p8 c8 t8 : Value} {f8 : Addr}
    {o9 a9 : Option Addr} {s9 : Array (Option Value)} {y9 v9 u9 p9 c9 t9 : Value} {f9 : Addr}
    {o10 a10 : Option Addr} {s10 : Array (Option Value)} {y10 v10 u10 p10 c10 t10 : Value} {f10 : Addr}
    {o11 a11 : Option Addr} {s11 : Array (Option Value)} {y11 v11 u11 p11 c11 t11 : Value} {f11 : Addr}
    {o12 a12 : Option Addr} {s12 : Array (Option Value)} {y12 v12 u12 p12 c12 t12 : Value} {f12 : Addr}
    {o13 a13 : Option Addr} {s13 : Array (Option Value)} {y13 v13 u13 p13 c13 t13 : Value} {f13 : Addr}
    {o14 a14 : Option Addr} {s14 : Array (Option Value)} {y14 v14 u14 p14 c14 t14 : Value} {f14 : Addr}
    {o15 a15 : Option Addr} {s15 : Array (Option Value)} {y15 v15 u15 p15 c15 t15 : Value} {f15 : Addr}
    {o16 a16 : Option Addr} {s16 : Array (Option Value)} {y16 v16 u16 p16 c16 t16 : Value} {f16 : Addr}
    {o17 a17 : Option Addr} {s17 : Array (Option Value)} {y17 v17 u17 p17 c17 t17 : Value} {f17 : Addr}
    {o18 a18 : Option Addr} {s18 : Array (Option Value)} {y18 v18 u18 p18 c18 t18 : Value} {f18 : Addr}
    {o19 a19 : Option Addr} {s19 : Array (Option Value)} {y19 v19 u19 p19 c19 t19 : Value} {f19 : Addr}
    {o20 a20 : Option Addr} {s20 : Array (Option Value)} {y20 v20 u20 p20 c20 t20 : Value} {f20 : Addr}
    (ha0 : PySem.W.nsIn K mainGlobals "is_integer" = some (some (.ref f0)))
    (hl0 : K.lookup f0 = some ⟨y0, o0, .func (PySem.W.fnOf "is_integer" "is_integer" (defArgs t_is_integer) (defBody t_is_integer) (defScope t_is_integer) .none v0 u0 p0 a0 c0 t0), s0⟩)
    (hc0 : PySem.W.codeIn K c0 "is_integer" = true)
    (hk0 : PySem.W.keepIn K (.ref f0) = true)
    (ha1 : PySem.W.nsIn K mainGlobals "is_index" = some (some (.ref f1)))
    (hl1 : K.lookup f1 = some ⟨y1, o1, .func (PySem.W.fnOf "is_index" "is_index" (defArgs t_is_index) (defBody t_is_index) (defScope t_is_index) .none v1 u1 p1 a1 c1 t1), s1⟩)
    (hc1 : PySem.W.codeIn K c1 "is_index" = true)
    (hk1 : PySem.W.keepIn K (.ref f1) = true)
    (ha2 : PySem.W.nsIn K mainGlobals "is_ascending" = some (some (.ref f2)))
    (hl2 : K.lookup f2 = some ⟨y2, o2, .func (PySem.W.fnOf "is_ascending" "is_ascending" (defArgs t_is_ascending) (defBody t_is_ascending) (defScope t_is_ascending) .none v2 u2 p2 a2 c2 t2), s2⟩)
    (hc2 : PySem.W.codeIn K c2 "is_ascending" = true)
    (hk2 : PySem.W.keepIn K (.ref f2) = true)
    (ha3 : PySem.W.nsIn K mainGlobals "is_lot" = some (some (.ref f3)))
    (hl3 : K.lookup f3 = some ⟨y3, o3, .func (PySem.W.fnOf "is_lot" "is_lot" (defArgs t_is_lot) (defBody t_is_lot) (defScope t_is_lot) .none v3 u3 p3 a3 c3 t3), s3⟩)
    (hc3 : PySem.W.codeIn K c3 "is_lot" = true)
    (hk3 : PySem.W.keepIn K (.ref f3) = true)
    (ha4 : PySem.W.nsIn K mainGlobals "stands_right" = some (some (.ref f4)))
    (hl4 : K.lookup f4 = some ⟨y4, o4, .func (PySem.W.fnOf "stands_right" "stands_right" (defArgs t_stands_right) (defBody t_stands_right) (defScope t_stands_right) .none v4 u4 p4 a4 c4 t4), s4⟩)
    (hc4 : PySem.W.codeIn K c4 "stands_right" = true)
    (hk4 : PySem.W.keepIn K (.ref f4) = true)
    (ha5 : PySem.W.nsIn K mainGlobals "is_part" = some (some (.ref f5)))
    (hl5 : K.lookup f5 = some ⟨y5, o5, .func (PySem.W.fnOf "is_part" "is_part" (defArgs t_is_part) (defBody t_is_part) (defScope t_is_part) .none v5 u5 p5 a5 c5 t5), s5⟩)
    (hc5 : PySem.W.codeIn K c5 "is_part" = true)
    (hk5 : PySem.W.keepIn K (.ref f5) = true)
    (ha6 : PySem.W.nsIn K mainGlobals "all_parts" = some (some (.ref f6)))
    (hl6 : K.lookup f6 = some ⟨y6, o6, .func (PySem.W.fnOf "all_parts" "all_parts" (defArgs t_all_parts) (defBody t_all_parts) (defScope t_all_parts) .none v6 u6 p6 a6 c6 t6), s6⟩)
    (hc6 : PySem.W.codeIn K c6 "all_parts" = true)
    (hk6 : PySem.W.keepIn K (.ref f6) = true)
    (ha7 : PySem.W.nsIn K mainGlobals "net_of" = some (some (.ref f7)))
    (hl7 : K.lookup f7 = some ⟨y7, o7, .func (PySem.W.fnOf "net_of" "net_of" (defArgs t_net_of) (defBody t_net_of) (defScope t_net_of) .none v7 u7 p7 a7 c7 t7), s7⟩)
    (hc7 : PySem.W.codeIn K c7 "net_of" = true)
    (hk7 : PySem.W.keepIn K (.ref f7) = true)
    (ha8 : PySem.W.nsIn K mainGlobals "_law_bag" = some (some (.ref f8)))
    (hl8 : K.lookup f8 = some ⟨y8, o8, .func (PySem.W.fnOf "_law_bag" "_law_bag" (defArgs t_lbag) (defBody t_lbag) (defScope t_lbag) .none v8 u8 p8 a8 c8 t8), s8⟩)
    (hc8 : PySem.W.codeIn K c8 "_law_bag" = true)
    (hk8 : PySem.W.keepIn K (.ref f8) = true)
    (ha9 : PySem.W.nsIn K mainGlobals "_law_take" = some (some (.ref f9)))
    (hl9 : K.lookup f9 = some ⟨y9, o9, .func (PySem.W.fnOf "_law_take" "_law_take" (defArgs t_ltake) (defBody t_ltake) (defScope t_ltake) .none v9 u9 p9 a9 c9 t9), s9⟩)
    (hc9 : PySem.W.codeIn K c9 "_law_take" = true)
    (hk9 : PySem.W.keepIn K (.ref f9) = true)
    (ha10 : PySem.W.nsIn K mainGlobals "_law_some" = some (some (.ref f10)))
    (hl10 : K.lookup f10 = some ⟨y10, o10, .func (PySem.W.fnOf "_law_some" "_law_some" (defArgs t_lsome) (defBody t_lsome) (defScope t_lsome) .none v10 u10 p10 a10 c10 t10), s10⟩)
    (hc10 : PySem.W.codeIn K c10 "_law_some" = true)
    (hk10 : PySem.W.keepIn K (.ref f10) = true)
    (ha11 : PySem.W.nsIn K mainGlobals "_law_alike" = some (some (.ref f11)))
    (hl11 : K.lookup f11 = some ⟨y11, o11, .func (PySem.W.fnOf "_law_alike" "_law_alike" (defArgs t_lalike) (defBody t_lalike) (defScope t_lalike) .none v11 u11 p11 a11 c11 t11), s11⟩)
    (hc11 : PySem.W.codeIn K c11 "_law_alike" = true)
    (hk11 : PySem.W.keepIn K (.ref f11) = true)
    (ha12 : PySem.W.nsIn K mainGlobals "_law_dungeon" = some (some (.ref f12)))
    (hl12 : K.lookup f12 = some ⟨y12, o12, .func (PySem.W.fnOf "_law_dungeon" "_law_dungeon" (defArgs t_ldungeon) (defBody t_ldungeon) (defScope t_ldungeon) .none v12 u12 p12 a12 c12 t12), s12⟩)
    (hc12 : PySem.W.codeIn K c12 "_law_dungeon" = true)
    (hk12 : PySem.W.keepIn K (.ref f12) = true)
    (ha13 : PySem.W.nsIn K mainGlobals "_law_is_barred" = some (some (.ref f13)))
    (hl13 : K.lookup f13 = some ⟨y13, o13, .func (PySem.W.fnOf "_law_is_barred" "_law_is_barred" (defArgs t_lis_barred) (defBody t_lis_barred) (defScope t_lis_barred) .none v13 u13 p13 a13 c13 t13), s13⟩)
    (hc13 : PySem.W.codeIn K c13 "_law_is_barred" = true)
    (hk13 : PySem.W.keepIn K (.ref f13) = true)
    (ha14 : PySem.W.nsIn K mainGlobals "_law_parts" = some (some (.ref f14)))
    (hl14 : K.lookup f14 = some ⟨y14, o14, .func (PySem.W.fnOf "_law_parts" "_law_parts" (defArgs t_lparts) (defBody t_lparts) (defScope t_lparts) .none v14 u14 p14 a14 c14 t14), s14⟩)
    (hc14 : PySem.W.codeIn K c14 "_law_parts" = true)
    (hk14 : PySem.W.keepIn K (.ref f14) = true)
    (ha15 : PySem.W.nsIn K mainGlobals "_law_net" = some (some (.ref f15)))
    (hl15 : K.lookup f15 = some ⟨y15, o15, .func (PySem.W.fnOf "_law_net" "_law_net" (defArgs t_lnet) (defBody t_lnet) (defScope t_lnet) .none v15 u15 p15 a15 c15 t15), s15⟩)
    (hc15 : PySem.W.codeIn K c15 "_law_net" = true)
    (hk15 : PySem.W.keepIn K (.ref f15) = true)
    (ha16 : PySem.W.nsIn K mainGlobals "_law_way_has_bar" = some (some (.ref f16)))
    (hl16 : K.lookup f16 = some ⟨y16, o16, .func (PySem.W.fnOf "_law_way_has_bar" "_law_way_has_bar" (defArgs t_lway_has_bar) (defBody t_lway_has_bar) (defScope t_lway_has_bar) .none v16 u16 p16 a16 c16 t16), s16⟩)
    (hc16 : PySem.W.codeIn K c16 "_law_way_has_bar" = true)
    (hk16 : PySem.W.keepIn K (.ref f16) = true)
    (ha17 : PySem.W.nsIn K mainGlobals "_law_any_laid" = some (some (.ref f17)))
    (hl17 : K.lookup f17 = some ⟨y17, o17, .func (PySem.W.fnOf "_law_any_laid" "_law_any_laid" (defArgs t_lany_laid) (defBody t_lany_laid) (defScope t_lany_laid) .none v17 u17 p17 a17 c17 t17), s17⟩)
    (hc17 : PySem.W.codeIn K c17 "_law_any_laid" = true)
    (hk17 : PySem.W.keepIn K (.ref f17) = true)
    (ha18 : PySem.W.nsIn K mainGlobals "_law_any_lot" = some (some (.ref f18)))
    (hl18 : K.lookup f18 = some ⟨y18, o18, .func (PySem.W.fnOf "_law_any_lot" "_law_any_lot" (defArgs t_lany_lot) (defBody t_lany_lot) (defScope t_lany_lot) .none v18 u18 p18 a18 c18 t18), s18⟩)
    (hc18 : PySem.W.codeIn K c18 "_law_any_lot" = true)
    (hk18 : PySem.W.keepIn K (.ref f18) = true)
    (ha19 : PySem.W.nsIn K mainGlobals "_law_bent_lot" = some (some (.ref f19)))
    (hl19 : K.lookup f19 = some ⟨y19, o19, .func (PySem.W.fnOf "_law_bent_lot" "_law_bent_lot" (defArgs t_lbent_lot) (defBody t_lbent_lot) (defScope t_lbent_lot) .none v19 u19 p19 a19 c19 t19), s19⟩)
    (hc19 : PySem.W.codeIn K c19 "_law_bent_lot" = true)
    (hk19 : PySem.W.keepIn K (.ref f19) = true)
    (ha20 : PySem.W.nsIn K mainGlobals "law" = some (some (.ref f20)))
    (hl20 : K.lookup f20 = some ⟨y20, o20, .func (PySem.W.fnOf "law" "law" (defArgs t_law) (defBody t_law) (defScope t_law) .none v20 u20 p20 a20 c20 t20), s20⟩)
    (hc20 : PySem.W.codeIn K c20 "law" = true)
    (hk20 : PySem.W.keepIn K (.ref f20) = true)
    (hz0 : PySem.W.nsIn K mainGlobals "isinstance" = some none)
    (hz1 : PySem.W.nsIn K mainGlobals "bool" = some none)
    (hz2 : PySem.W.nsIn K mainGlobals "int" = some none)
    (hz3 : PySem.W.nsIn K mainGlobals "all" = some none)
    (hz4 : PySem.W.nsIn K mainGlobals "zip" = some none)
    (hz5 : PySem.W.nsIn K mainGlobals "tuple" = some none)
    (hz6 : PySem.W.nsIn K mainGlobals "len" = some none)
    (hz7 : PySem.W.nsIn K mainGlobals "range" = some none)
    (hz8 : PySem.W.nsIn K mainGlobals "sorted" = some none)
    (hz9 : PySem.W.nsIn K mainGlobals "sum" = some none)
    (hz10 : PySem.W.nsIn K mainGlobals "abs" = some none)
    (hz11 : PySem.W.nsIn K mainGlobals "repr" = some none)
    (hz12 : PySem.W.nsIn K mainGlobals "max" = some none)
    (hz13 : PySem.W.nsIn K mainGlobals "min" = some none)
    (hz14 : PySem.W.nsIn K mainGlobals "enumerate" = some none)
    (hz15 : PySem.W.nsIn K mainGlobals "list" = some none)
    (hz16 : PySem.W.nsIn K mainGlobals "dict" = some none)
    : ∃ fd : FuncData, (∀ (s : Shared) (u : Value), BindsTo s fd ⟨[u], []⟩ [("script", u)]) ∧ ∀ base : Heap, K.In base → base.Ns mainGlobals mg → FnG P w K mg base 6 fa fd ["script"] (spD K d_law) := by
  have e := hfa.symm.trans (PySem.W.mg_of X G ha20)
  cases e
  refine ⟨PySem.W.fnOf "law" "law" (defArgs t_law) (defBody t_law) (defScope t_law) .none v20 u20 p20 a20 c20 t20, fun s u => .of_eq rfl, fun base _ _ => ?_⟩
  have z0 : mg "isinstance" = none := PySem.W.mg_none_of X G hz0
  have z1 : mg "bool" = none := PySem.W.mg_none_of X G hz1
  have z2 : mg "int" = none := PySem.W.mg_none_of X G hz2
  have z3 : mg "all" = none := PySem.W.mg_none_of X G hz3
  have z4 : mg "zip" = none := PySem.W.mg_none_of X G hz4
  have z5 : mg "tuple" = none := PySem.W.mg_none_of X G hz5
  have z6 : mg "len" = none := PySem.W.mg_none_of X G hz6
  have z7 : mg "range" = none := PySem.W.mg_none_of X G hz7
  have z8 : mg "sorted" = none := PySem.W.mg_none_of X G hz8
  have z9 : mg "sum" = none := PySem.W.mg_none_of X G hz9
  have z10 : mg "abs" = none := PySem.W.mg_none_of X G hz10
  have z11 : mg "repr" = none := PySem.W.mg_none_of X G hz11
  have z12 : mg "max" = none := PySem.W.mg_none_of X G hz12
  have z13 : mg "min" = none := PySem.W.mg_none_of X G hz13
  have z14 : mg "enumerate" = none := PySem.W.mg_none_of X G hz14
  have z15 : mg "list" = none := PySem.W.mg_none_of X G hz15
  have z16 : mg "dict" = none := PySem.W.mg_none_of X G hz16
  have F0 := fun_mk (st := t_is_integer) hl0 hc0 hk0
  have B0 := F0.binds (ps := ["thing"]) fun _ _ _ _ _ _ us hl => match us, hl with | [_], _ => rfl
  have F1 := fun_mk (st := t_is_index) hl1 hc1 hk1
  have B1 := F1.binds (ps := ["thing", "many"]) fun _ _ _ _ _ _ us hl => match us, hl with | [_, _], _ => rfl
  have F2 := fun_mk (st := t_is_ascending) hl2 hc2 hk2
  have B2 := F2.binds (ps := ["row"]) fun _ _ _ _ _ _ us hl => match us, hl with | [_], _ => rfl
  have F3 := fun_mk (st := t_is_lot) hl3 hc3 hk3
  have B3 := F3.binds (ps := ["thing", "many"]) fun _ _ _ _ _ _ us hl => match us, hl with | [_, _], _ => rfl
  have F4 := fun_mk (st := t_stands_right) hl4 hc4 hk4
  have B4 := F4.binds (ps := ["dungeon", "laid", "lot", "v"]) fun _ _ _ _ _ _ us hl => match us, hl with | [_, _, _, _], _ => rfl
  have F5 := fun_mk (st := t_is_part) hl5 hc5 hk5
  have B5 := F5.binds (ps := ["dungeon", "laid", "thing"]) fun _ _ _ _ _ _ us hl => match us, hl with | [_, _, _], _ => rfl
  have F6 := fun_mk (st := t_all_parts) hl6 hc6 hk6
  have B6 := F6.binds (ps := ["dungeon", "laid"]) fun _ _ _ _ _ _ us hl => match us, hl with | [_, _], _ => rfl
  have F7 := fun_mk (st := t_net_of) hl7 hc7 hk7
  have B7 := F7.binds (ps := ["dungeon", "laid", "part"]) fun _ _ _ _ _ _ us hl => match us, hl with | [_, _, _], _ => rfl
  have F8 := fun_mk (st := t_lbag) hl8 hc8 hk8
  have B8 := F8.binds (ps := ["script"]) fun _ _ _ _ _ _ us hl => match us, hl with | [_], _ => rfl
  have F9 := fun_mk (st := t_ltake) hl9 hc9 hk9
  have B9 := F9.binds (ps := ["bag", "many"]) fun _ _ _ _ _ _ us hl => match us, hl with | [_, _], _ => rfl
  have F10 := fun_mk (st := t_lsome) hl10 hc10 hk10
  have B10 := F10.binds (ps := ["bag", "things"]) fun _ _ _ _ _ _ us hl => match us, hl with | [_, _], _ => rfl
  have F11 := fun_mk (st := t_lalike) hl11 hc11 hk11
  have B11 := F11.binds (ps := ["found", "due"]) fun _ _ _ _ _ _ us hl => match us, hl with | [_, _], _ => rfl
  have F12 := fun_mk (st := t_ldungeon) hl12 hc12 hk12
  have B12 := F12.binds (ps := ["bag", "most"]) fun _ _ _ _ _ _ us hl => match us, hl with | [_, _], _ => rfl
  have F13 := fun_mk (st := t_lis_barred) hl13 hc13 hk13
  have B13 := F13.binds (ps := ["dungeon"]) fun _ _ _ _ _ _ us hl => match us, hl with | [_], _ => rfl
  have F14 := fun_mk (st := t_lparts) hl14 hc14 hk14
  have B14 := F14.binds (ps := ["dungeon", "big"]) fun _ _ _ _ _ _ us hl => match us, hl with | [_, _], _ => rfl
  have F15 := fun_mk (st := t_lnet) hl15 hc15 hk15
  have B15 := F15.binds (ps := ["dungeon", "small", "part"]) fun _ _ _ _ _ _ us hl => match us, hl with | [_, _, _], _ => rfl
  have F16 := fun_mk (st := t_lway_has_bar) hl16 hc16 hk16
  have B16 := F16.binds (ps := ["dungeon", "v"]) fun _ _ _ _ _ _ us hl => match us, hl with | [_, _], _ => rfl
  have F17 := fun_mk (st := t_lany_laid) hl17 hc17 hk17
  have B17 := F17.binds (ps := ["bag", "dungeon"]) fun _ _ _ _ _ _ us hl => match us, hl with | [_, _], _ => rfl
  have F18 := fun_mk (st := t_lany_lot) hl18 hc18 hk18
  have B18 := F18.binds (ps := ["bag", "many"]) fun _ _ _ _ _ _ us hl => match us, hl with | [_, _], _ => rfl
  have F19 := fun_mk (st := t_lbent_lot) hl19 hc19 hk19
  have B19 := F19.binds (ps := ["bag", "lot", "many"]) fun _ _ _ _ _ _ us hl => match us, hl with | [_, _, _], _ => rfl
  have F20 := fun_mk (st := t_law) hl20 hc20 hk20
  have B20 := F20.binds (ps := ["script"]) fun _ _ _ _ _ _ us hl => match us, hl with | [_], _ => rfl
  have G0 : FnG P w K mg base 1 f0 _ ["thing"] (spD K d_is_integer) := def_of (N := n_is_integer) (Γ := g_is_integer) (ss := c_is_integer) F0 sc_is_integer ⟨(all_cons z0 (all_cons z1 (all_cons z2 all_nil))), all_nil, all_nil, all_nil⟩ k_is_integer
  have G1 : FnG P w K mg base 2 f1 _ ["thing", "many"] (spD K d_is_index) := def_of (N := n_is_index) (Γ := g_is_index) (ss := c_is_index) F1 sc_is_index ⟨all_nil, all_nil, (all_cons ⟨_, _, _, G0, PySem.W.mg_of X G ha0, hk0, B0⟩ all_nil), all_nil⟩ k_is_index
  have G2 : FnG P w K mg base 1 f2 _ ["row"] (spD K d_is_ascending) := def_of (N := n_is_ascending) (Γ := g_is_ascending) (ss := c_is_ascending) F2 sc_is_ascending ⟨(all_cons z3 (all_cons z4 all_nil)), all_nil, all_nil, all_nil⟩ k_is_ascending
  have G3 : FnG P w K mg base 3 f3 _ ["thing", "many"] (spD K d_is_lot) := def_of (N := n_is_lot) (Γ := g_is_lot) (ss := c_is_lot) F3 sc_is_lot ⟨(all_cons z3 (all_cons z0 (all_cons z5 all_nil))), all_nil, (all_cons ⟨_, _, _, G1, PySem.W.mg_of X G ha1, hk1, B1⟩ (all_cons ⟨_, _, _, G2.mono (by decide), PySem.W.mg_of X G ha2, hk2, B2⟩ all_nil)), all_nil⟩ k_is_lot
  have G4 : FnG P w K mg base 1 f4 _ ["dungeon", "laid", "lot", "v"] (spD K d_stands_right) := def_of (N := n_stands_right) (Γ := g_stands_right) (ss := c_stands_right) F4 sc_stands_right ⟨all_nil, all_nil, all_nil, all_nil⟩ k_stands_right
  have G5 : FnG P w K mg base 4 f5 _ ["dungeon", "laid", "thing"] (spD K d_is_part) := def_of (N := n_is_part) (Γ := g_is_part) (ss := c_is_part) F5 sc_is_part ⟨(all_cons z6 (all_cons z3 (all_cons z7 all_nil))), all_nil, (all_cons ⟨_, _, _, G3, PySem.W.mg_of X G ha3, hk3, B3⟩ (all_cons ⟨_, _, _, G4.mono (by decide), PySem.W.mg_of X G ha4, hk4, B4⟩ all_nil)), all_nil⟩ k_is_part
  have G6 : FnG P w K mg base 5 f6 _ ["dungeon", "laid"] (spD K d_all_parts) := def_of (N := n_all_parts) (Γ := g_all_parts) (ss := c_all_parts) F6 sc_all_parts ⟨(all_cons z7 (all_cons z6 (all_cons z8 all_nil))), all_nil, (all_cons ⟨_, _, _, G5, PySem.W.mg_of X G ha5, hk5, B5⟩ all_nil), all_nil⟩ k_all_parts
  have G7 : FnG P w K mg base 1 f7 _ ["dungeon", "laid", "part"] (spD K d_net_of) := def_of (N := n_net_of) (Γ := g_net_of) (ss := c_net_of) F7 sc_net_of ⟨(all_cons z9 (all_cons z6 all_nil)), all_nil, all_nil, all_nil⟩ k_net_of
  have G8 : FnG P w K mg base 1 f8 _ ["script"] (spD K d_lbag) := def_of (N := n_lbag) (Γ := g_lbag) (ss := c_lbag) F8 sc_lbag ⟨(all_cons z10 all_nil), all_nil, all_nil, all_nil⟩ k_lbag
  have G9 : FnG P w K mg base 1 f9 _ ["bag", "many"] (spD K d_ltake) := def_of (N := n_ltake) (Γ := g_ltake) (ss := c_ltake) F9 sc_ltake ⟨(all_cons z2 all_nil), all_nil, all_nil, all_nil⟩ k_ltake
  have G10 : FnG P w K mg base 2 f10 _ ["bag", "things"] (spD K d_lsome) := def_of (N := n_lsome) (Γ := g_lsome) (ss := c_lsome) F10 sc_lsome ⟨(all_cons z6 all_nil), all_nil, (all_cons ⟨_, _, _, G9, PySem.W.mg_of X G ha9, hk9, B9⟩ all_nil), all_nil⟩ k_lsome
  have G11 : FnG P w K mg base 1 f11 _ ["found", "due"] (spD K d_lalike) := def_of (N := n_lalike) (Γ := g_lalike) (ss := c_lalike) F11 sc_lalike ⟨(all_cons z11 all_nil), all_nil, all_nil, all_nil⟩ k_lalike
  have G12 : FnG P w K mg base 3 f12 _ ["bag", "most"] (spD K d_ldungeon) := def_of (N := n_ldungeon) (Γ := g_ldungeon) (ss := c_ldungeon) F12 sc_ldungeon ⟨(all_cons z7 (all_cons z6 (all_cons z2 (all_cons z9 (all_cons z12 (all_cons z13 (all_cons z5 all_nil))))))), all_nil, (all_cons ⟨_, _, _, G10, PySem.W.mg_of X G ha10, hk10, B10⟩ (all_cons ⟨_, _, _, G9.mono (by decide), PySem.W.mg_of X G ha9, hk9, B9⟩ all_nil)), all_nil⟩ k_ldungeon
  have G13 : FnG P w K mg base 1 f13 _ ["dungeon"] (spD K d_lis_barred) := def_of (N := n_lis_barred) (Γ := g_lis_barred) (ss := c_lis_barred) F13 sc_lis_barred ⟨all_nil, all_nil, all_nil, all_nil⟩ k_lis_barred
  have G14 : FnG P w K mg base 1 f14 _ ["dungeon", "big"] (spD K d_lparts) := def_of (N := n_lparts) (Γ := g_lparts) (ss := c_lparts) F14 sc_lparts ⟨(all_cons z14 (all_cons z8 all_nil)), all_nil, all_nil, all_nil⟩ k_lparts
  have G15 : FnG P w K mg base 1 f15 _ ["dungeon", "small", "part"] (spD K d_lnet) := def_of (N := n_lnet) (Γ := g_lnet) (ss := c_lnet) F15 sc_lnet ⟨(all_cons z9 (all_cons z6 all_nil)), all_nil, all_nil, all_nil⟩ k_lnet
  have G16 : FnG P w K mg base 1 f16 _ ["dungeon", "v"] (spD K d_lway_has_bar) := def_of (N := n_lway_has_bar) (Γ := g_lway_has_bar) (ss := c_lway_has_bar) F16 sc_lway_has_bar ⟨all_nil, all_nil, all_nil, all_nil⟩ k_lway_has_bar
  have G17 : FnG P w K mg base 3 f17 _ ["bag", "dungeon"] (spD K d_lany_laid) := def_of (N := n_lany_laid) (Γ := g_lany_laid) (ss := c_lany_laid) F17 sc_lany_laid ⟨(all_cons z7 (all_cons z6 (all_cons z15 (all_cons z12 (all_cons z5 all_nil))))), all_nil, (all_cons ⟨_, _, _, G13.mono (by decide), PySem.W.mg_of X G ha13, hk13, B13⟩ (all_cons ⟨_, _, _, G16.mono (by decide), PySem.W.mg_of X G ha16, hk16, B16⟩ (all_cons ⟨_, _, _, G10, PySem.W.mg_of X G ha10, hk10, B10⟩ (all_cons ⟨_, _, _, G9.mono (by decide), PySem.W.mg_of X G ha9, hk9, B9⟩ all_nil)))), all_nil⟩ k_lany_laid
  have G18 : FnG P w K mg base 2 f18 _ ["bag", "many"] (spD K d_lany_lot) := def_of (N := n_lany_lot) (Γ := g_lany_lot) (ss := c_lany_lot) F18 sc_lany_lot ⟨(all_cons z5 (all_cons z7 all_nil)), all_nil, (all_cons ⟨_, _, _, G9, PySem.W.mg_of X G ha9, hk9, B9⟩ all_nil), all_nil⟩ k_lany_lot
  have G19 : FnG P w K mg base 3 f19 _ ["bag", "lot", "many"] (spD K d_lbent_lot) := def_of (N := n_lbent_lot) (Γ := g_lbent_lot) (ss := c_lbent_lot) F19 sc_lbent_lot ⟨(all_cons z6 (all_cons z12 (all_cons z16 (all_cons z15 all_nil)))), all_nil, (all_cons ⟨_, _, _, G9.mono (by decide), PySem.W.mg_of X G ha9, hk9, B9⟩ (all_cons ⟨_, _, _, G10, PySem.W.mg_of X G ha10, hk10, B10⟩ all_nil)), all_nil⟩ k_lbent_lot
  have G20 : FnG P w K mg base 6 fa _ ["script"] (spD K d_law) := def_of (N := n_law) (Γ := g_law) (ss := c_law) F20 sc_law ⟨(all_cons z7 (all_cons z11 (all_cons z6 (all_cons z5 all_nil)))), all_nil, (all_cons ⟨_, _, _, G8.mono (by decide), PySem.W.mg_of X G ha8, hk8, B8⟩ (all_cons ⟨_, _, _, G12.mono (by decide), PySem.W.mg_of X G ha12, hk12, B12⟩ (all_cons ⟨_, _, _, G10.mono (by decide), PySem.W.mg_of X G ha10, hk10, B10⟩ (all_cons ⟨_, _, _, G17.mono (by decide), PySem.W.mg_of X G ha17, hk17, B17⟩ (all_cons ⟨_, _, _, G14.mono (by decide), PySem.W.mg_of X G ha14, hk14, B14⟩ (all_cons ⟨_, _, _, G11.mono (by decide), PySem.W.mg_of X G ha11, hk11, B11⟩ (all_cons ⟨_, _, _, G6, PySem.W.mg_of X G ha6, hk6, B6⟩ (all_cons ⟨_, _, _, G18.mono (by decide), PySem.W.mg_of X G ha18, hk18, B18⟩ (all_cons ⟨_, _, _, G19.mono (by decide), PySem.W.mg_of X G ha19, hk19, B19⟩ (all_cons ⟨_, _, _, G5.mono (by decide), PySem.W.mg_of X G ha5, hk5, B5⟩ (all_cons ⟨_, _, _, G15.mono (by decide), PySem.W.mg_of X G ha15, hk15, B15⟩ (all_cons ⟨_, _, _, G7.mono (by decide), PySem.W.mg_of X G ha7, hk7, B7⟩ all_nil)))))))))))), all_nil⟩ k_law
  exact G20
end K16


set_option autoImplicit false
namespace W
open PySem PySem.Spec L2 Den
variable {rs : List Rm}
def sumS (n : Nat) (f : Nat → Int) (s : Nat → Bool) : Int := ((List.range n).map fun u => if s u = true then f u else 0).sum
theorem sum_add : ∀ {l : List Nat} {f g : Nat → Int}, (l.map fun u => f u + g u).sum = (l.map f).sum + (l.map g).sum
  | [], _, _ => rfl
  | a :: l, f, g => by
    have := sum_add (l := l) (f := f) (g := g)
    simp only [List.map_cons, List.sum_cons]
    omega
theorem sumS_none {n : Nat} {f : Nat → Int} {s : Nat → Bool} (h : ∀ u, u < n → s u = false) : sumS n f s = 0 := by
  unfold sumS
  have : ((List.range n).map fun u => if s u = true then f u else 0) = (List.range n).map fun _ => (0 : Int) := List.map_congr_left fun u hu => by simp [h u (List.mem_range.mp hu)]
  rw [this]
  induction n with
  | zero => rfl
  | succ n ih =>
    have q := ih (fun u hu => h u (by omega)) (List.map_congr_left fun u hu => by simp [h u (by have := List.mem_range.mp hu; omega)])
    rw [List.range_succ, List.map_append, List.sum_append, q]
    rfl
def lo : Option Int → Option Int → Option Int
  | none, o => o
  | o, none => o
  | some a, some b => some (if b < a then b else a)
def sm2 : Option Int → Option Int → Option Int
  | some a, some b => some (a + b)
  | _, _ => none
abbrev Fm := (Nat → Bool) → Prop
structure Mn (n : Nat) (f : Nat → Int) (P : Fm) (o : Option Int) : Prop where
  low : ∀ s, P s → ∃ m, o = some m ∧ m ≤ sumS n f s
  hit : ∀ m, o = some m → ∃ s, P s ∧ sumS n f s = m
section
variable {n : Nat} {f : Nat → Int} {P Q R : Fm} {a b o : Option Int}
theorem Mn.congr (h : Mn n f P o) (e : ∀ s, P s ↔ Q s) : Mn n f Q o := ⟨fun s hs => h.low s ((e s).mpr hs), fun m hm => let ⟨s, hs, q⟩ := h.hit m hm; ⟨s, (e s).mp hs, q⟩⟩
theorem Mn.none (h : ∀ s, ¬ P s) : Mn n f P .none := ⟨fun s hs => absurd hs (h s), fun m z => by cases z⟩
theorem Mn.or (h : Mn n f P a) (k : Mn n f Q b) : Mn n f (fun s => P s ∨ Q s) (lo a b) := by
  refine ⟨fun s hs => ?_, fun m hm => ?_⟩
  · rcases hs with hs | hs
    · obtain ⟨m, rfl, hm⟩ := h.low s hs
      cases b with
      | none => exact ⟨m, rfl, hm⟩
      | some b => exact ⟨_, rfl, by split <;> omega⟩
    · obtain ⟨m, rfl, hm⟩ := k.low s hs
      cases a with
      | none => exact ⟨m, rfl, hm⟩
      | some a => exact ⟨_, rfl, by split <;> omega⟩
  · cases a with
    | none =>
      obtain ⟨s, hs, q⟩ := k.hit m hm
      exact ⟨s, .inr hs, q⟩
    | some a =>
      cases b with
      | none =>
        obtain ⟨s, hs, q⟩ := h.hit m hm
        exact ⟨s, .inl hs, q⟩
      | some b =>
        have hm : some (if b < a then b else a) = some m := hm
        by_cases hc : b < a
        · rw [if_pos hc] at hm
          obtain ⟨s, hs, q⟩ := k.hit m hm
          exact ⟨s, .inr hs, q⟩
        · rw [if_neg hc] at hm
          obtain ⟨s, hs, q⟩ := h.hit m hm
          exact ⟨s, .inl hs, q⟩
theorem Mn.sum (h : Mn n f P a) (k : Mn n f Q b) (down : ∀ s, R s → ∃ s1 s2, P s1 ∧ Q s2 ∧ sumS n f s = sumS n f s1 + sumS n f s2) (up : ∀ s1 s2, P s1 → Q s2 → ∃ s, R s ∧ sumS n f s = sumS n f s1 + sumS n f s2) : Mn n f R (sm2 a b) := by
  refine ⟨fun s hs => ?_, fun m hm => ?_⟩
  · obtain ⟨s1, s2, h1, h2, e⟩ := down s hs
    obtain ⟨m1, rfl, l1⟩ := h.low s1 h1
    obtain ⟨m2, rfl, l2⟩ := k.low s2 h2
    exact ⟨m1 + m2, rfl, by omega⟩
  · cases a with
    | none => cases hm
    | some a =>
      cases b with
      | none => cases hm
      | some b =>
        obtain ⟨s1, h1, e1⟩ := h.hit a rfl
        obtain ⟨s2, h2, e2⟩ := k.hit b rfl
        obtain ⟨s, hs, e⟩ := up s1 s2 h1 h2
        cases hm
        exact ⟨s, hs, by omega⟩
theorem Mn.zero : Mn n f (fun s => ∀ u, u < n → s u = false) (some 0) := ⟨fun s hs => ⟨0, rfl, by rw [sumS_none hs]; omega⟩, fun m hm => by
  cases hm
  exact ⟨fun _ => false, fun _ _ => rfl, sumS_none fun _ _ => rfl⟩⟩
end
structure Rt (rs : List Rm) (m : Nat) (r : Nat → Nat) : Prop where
  own : ∀ u, u ≤ m → r u = u
  par : ∀ u p, m < u → u < rs.length → parOf rs u = some p → r u = r p
  le : ∀ u, u < rs.length → r u ≤ m
structure Fam (rs : List Rm) (big : Option Nat) (r : Nat → Nat) (κ : Bool) (v : Nat) (s : Nat → Bool) : Prop where
  bg : κ = true → big ≠ none
  sup : ∀ u, u < rs.length → s u = true → r u = v
  root : s v = true
  par : ∀ u p, u < rs.length → r u = v → u ≠ v → parOf rs u = some p → s u = true → s p = true
  opn : ∀ u p, u < rs.length → r u = v → u ≠ v → parOf rs u = some p → isOpn rs u = true → s p = true → s u = true
  bar : ∀ u p, u < rs.length → r u = v → u ≠ v → parOf rs u = some p → isBar rs u = true → s p = true → s u = κ
  big : ∀ b, big = some b → r b = v → s b = κ
def take (rs : List Rm) (m : Nat) (κ : Bool) : Bool := κ || !isBar rs m
section
variable {m p : Nat} {r : Nat → Nat} {big : Option Nat} {f : Nat → Int} {κ : Bool}
def one (f : Nat → Int) (v : Nat) (big : Option Nat) (κ : Bool) : Option Int × Option Int := (if κ = true then (if big.isSome = true then some (f v) else none) else (if big = some v then none else some (f v)), none)
end
end W


set_option autoImplicit false
namespace W
open PySem PySem.Spec L2 Den
variable {rs : List Rm} {k : Int}
def oD : Option Int → D
  | none => .none
  | some i => .int i
abbrev RwF := Bool → Option Int × Option Int
def rowD (q : RwF) : D := .tuple [oD (q false).1, oD (q false).2, oD (q true).1, oD (q true).2]
def netF (rs : List Rm) (sm : List Nat) (u : Nat) : Int := ((sm[u]?.getD 0 : Nat) : Int) - (if isLck rs u = true then 1 else 0)
def tabD (n : Nat) (T : Nat → RwF) : List D := (List.range n).map fun v => rowD (T v)
theorem tab_at {n v : Nat} {T : Nat → RwF} (hv : v < n) : atI (tabD n T) ((v : Nat) : Int) = some (rowD (T v)) := at_nat (by
  unfold tabD
  rw [List.getElem?_map, List.getElem?_range hv]
  rfl)
end W


set_option autoImplicit false
namespace W
open PySem PySem.Spec L2 Den
variable {rs : List Rm} {k : Int}
theorem is_integer_int {i : Int} : d_is_integer.run [] [.int i] = some (.va (.bool true), []) := by
  rw [r_is_integer]
  simp! [c_is_integer, φIsi, isTy]
theorem is_index_int {i n : Int} : d_is_index.run [] [.int i, .int n] = some (.va (.bool (decide (0 ≤ i) && decide (i < n))), []) := by
  have e := cf (is_integer_int (i := i)) mt_is_integer np_is_integer
  rw [r_is_index]
  by_cases h : 0 ≤ i
  · simp_all! [c_is_index, g_is_index, e, h]
  · simp_all! [c_is_index, g_is_index, e, h]
theorem zip_nD : ∀ {l m : List Nat}, zipD (nD l) (nD m) = (l.zip m).map fun p => .tuple [nI p.1, nI p.2]
  | [], m => by simp [nD, zipD]
  | a :: l, [] => by simp [nD, zipD]
  | a :: l, b :: m => by
    have e : ∀ (z : Nat) (zs : List Nat), nD (z :: zs) = nI z :: nD zs := fun _ _ => rfl
    rw [e, e, zipD, zip_nD, List.zip_cons_cons, List.map_cons]
theorem cut_one {l : List Nat} : cutD (nD l) (some 1) none = nD l.tail := by
  unfold cutD
  rw [sIx_int (by omega), HT.sIx_none, nD_len]
  cases l with
  | nil => simp [nD]
  | cons a l =>
    have : min (Int.toNat 1) (a :: l).length = 1 := by simp
    rw [this]
    show List.take _ (nD l) = nD l
    exact List.take_of_length_le (by rw [nD_len]; simp)
theorem asc_zip : ∀ {l : List Nat}, l.Pairwise (· < ·) → ∀ p ∈ l.zip l.tail, p.1 < p.2
  | [], _, p, h => by simp at h
  | [a], _, p, h => by simp at h
  | a :: b :: l, hl, p, h => by
    obtain ⟨h1, h2⟩ := List.pairwise_cons.mp hl
    rw [List.tail_cons, List.zip_cons_cons, List.mem_cons] at h
    rcases h with rfl | h
    · exact h1 b List.mem_cons_self
    · exact asc_zip h2 p h
theorem is_asc_ok {l : List Nat} (hl : l.Pairwise (· < ·)) (hn : l.length ≤ lim) : d_is_ascending.run [] [tN l] = some (.va (.bool true), []) := by
  have q : q_is_ascending_0.den g_is_ascending [.va (tN l), .no, .no] = some (.ls (((l.zip l.tail).filter fun _ => true).map fun p => .bool (decide (p.1 < p.2))), [.va (tN l), .no, .no]) := by
    unfold q_is_ascending_0
    refine lc2 (l := l.zip l.tail) (f1 := fun p => nI p.1) (f2 := fun p => nI p.2) (s := .no) (s2 := .no) (ρ1 := [.va (tN l), .no, .no]) (by decide) ?_ ?_ rfl rfl (fun p hp => by rfl) (fun p hp _ => ?_)
    · rw [← zip_nD]
      unfold tN
      simp! [fZip, cut_one]
    · rw [List.length_zip, List.length_tail]
      exact Nat.le_trans (Nat.min_le_left _ _) hn
    · unfold nI
      simp! []
  rw [List.filter_eq_self.mpr (fun _ _ => rfl)] at q
  have e : ((l.zip l.tail).map fun p => decide (p.1 < p.2)).all id = true := by
    rw [List.all_map, List.all_eq_true]
    exact fun p hp => decide_eq_true (asc_zip hl p hp)
  rw [r_is_ascending]
  simp! [c_is_ascending, q, φAll, bools_map]
  simpa using e
theorem is_lot_ok {l : List Nat} {n : Nat} (hl : l.Pairwise (· < ·)) (hb : ∀ u ∈ l, u < n) (hn : l.length ≤ lim) : d_is_lot.run [] [tN l, .int (n : Int)] = some (.va (.bool true), []) := by
  have q : q_is_lot_0.den g_is_lot [.va (tN l), .va (.int (n : Int)), .no] = some (.ls ((l.filter fun _ => true).map fun u => .bool true), [.va (tN l), .va (.int (n : Int)), .no]) := by
    unfold q_is_lot_0
    refine lc1 (l := l) (f := nI) (s := .no) (ρ1 := [.va (tN l), .va (.int (n : Int)), .no]) (by unfold tN; simp! [fIt, its, nD]) hn rfl (fun u hu => by rfl) (fun u hu _ => ?_)
    have e := cf (is_index_int (i := (u : Int)) (n := (n : Int))) mt_is_index np_is_index
    have h1 : (0 : Int) ≤ (u : Int) := by omega
    have h2 : (u : Int) < (n : Int) := by have := hb u hu; omega
    simp only [h1, h2, decide_true, Bool.and_self] at e
    unfold nI
    simp_all! [g_is_lot, e]
  rw [List.filter_eq_self.mpr (fun _ _ => rfl)] at q
  have e := cf (is_asc_ok hl hn) mt_is_ascending np_is_ascending
  have eb : boolsOf (l.map fun _ => PyData.bool true) = some (l.map fun _ => true) := bools_map
  refine eqr ?_
  rw [r_is_lot]
  refine run_f ?_
  refine ok_cons (ok_if (v := false) (ρ1 := [.va (tN l), .va (.int (n : Int)), .no]) ?_ (fun z => by cases z) (fun _ => ok_nil (ok_last (r := .va (.bool true)) (ρ1 := [.va (tN l), .va (.int (n : Int)), .no]) (by simp_all! [g_is_lot, e]) ⟨rfl, rfl⟩)))
  unfold tN at q ⊢
  simp! [φIsi, isTy, q, φAll, eb]
  all_goals simp
def standsB (rs : List Rm) (big : Option Nat) (l : List Nat) (v : Nat) : Bool :=
  if oin (parOf rs v) l = true then (if isOpn rs v = true then decide (v ∈ l) else if isBar rs v = true then decide (v ∈ l) == oin big l else true) else !decide (v ∈ l)
theorem eq_bools {a b : Bool} : φEq (.bool a) (.bool b) = some (.va (.bool (a == b))) := by
  have q : φEq (.bool a) (.bool b) = some (.va (.bool (PyData.eqv (.bool a) (.bool b)))) := if_pos (.inl ⟨rfl, rfl⟩)
  rw [q]
  simp [PyData.eqv]
theorem stands_ok (h : Dun rs) {big : Option Nat} {sm l : List Nat} {v : Nat} (hv : v < rs.length) : d_stands_right.run [] [dunD rs k, laidD big sm, tN l, .int (v : Int)] = some (.va (.bool (standsB rs big l v)), []) := by
  have e1 := notin_pD (l := l) (parOf rs v)
  have e2 := notin_natT (p := v) (ns := l)
  have e3 := in_natT (p := v) (ns := l)
  have e4 := (opn_at h hv).1
  have e5 := bar_at h hv
  have e6 := in_pD (l := l) big
  refine eqr ?_
  rw [r_stands_right]
  refine run_f ?_
  refine ok_step (ρ1 := [.va (dunD rs k), .va (laidD big sm), .va (tN l), .va (.int (v : Int)), .va (pD (parOf rs v)), .va rs[v].way, .va (.int rs[v].ch)]) (by rw [← par_eq hv]; simp! [dunD, roomD, room_at hv]) ?_
  unfold standsB tN laidD
  cases a : oin (parOf rs v) l <;> rw [a] at e1
  · refine ok_cons (ok_if (v := true) (ρ1 := [.va (dunD rs k), .va (.tuple [pD big, .tuple (nD sm)]), .va (.tuple (nD l)), .va (.int (v : Int)), .va (pD (parOf rs v)), .va rs[v].way, .va (.int rs[v].ch)]) (by simp! [e1]) (fun _ => ?_) (fun z => by cases z))
    exact ok_last (r := .va (.bool (!decide (v ∈ l)))) (ρ1 := [.va (dunD rs k), .va (.tuple [pD big, .tuple (nD sm)]), .va (.tuple (nD l)), .va (.int (v : Int)), .va (pD (parOf rs v)), .va rs[v].way, .va (.int rs[v].ch)]) (by simp! [e2]) ⟨by simp, rfl⟩
  · refine ok_cons (ok_if (v := false) (ρ1 := [.va (dunD rs k), .va (.tuple [pD big, .tuple (nD sm)]), .va (.tuple (nD l)), .va (.int (v : Int)), .va (pD (parOf rs v)), .va rs[v].way, .va (.int rs[v].ch)]) (by simp! [e1]) (fun z => by cases z) (fun _ => ok_nil ?_))
    cases b : isOpn rs v <;> rw [b] at e4
    · refine ok_cons (ok_if (v := false) (ρ1 := [.va (dunD rs k), .va (.tuple [pD big, .tuple (nD sm)]), .va (.tuple (nD l)), .va (.int (v : Int)), .va (pD (parOf rs v)), .va rs[v].way, .va (.int rs[v].ch)]) (by simp! [e4]) (fun z => by cases z) (fun _ => ok_nil ?_))
      cases c : isBar rs v <;> rw [c] at e5
      · refine ok_cons (ok_if (v := false) (ρ1 := [.va (dunD rs k), .va (.tuple [pD big, .tuple (nD sm)]), .va (.tuple (nD l)), .va (.int (v : Int)), .va (pD (parOf rs v)), .va rs[v].way, .va (.int rs[v].ch)]) (by simp! [e5]) (fun z => by cases z) (fun _ => ok_nil ?_))
        exact ok_last (r := .va (.bool true)) (ρ1 := [.va (dunD rs k), .va (.tuple [pD big, .tuple (nD sm)]), .va (.tuple (nD l)), .va (.int (v : Int)), .va (pD (parOf rs v)), .va rs[v].way, .va (.int rs[v].ch)]) (by simp! []) ⟨by simp, rfl⟩
      · refine ok_cons (ok_if (v := true) (ρ1 := [.va (dunD rs k), .va (.tuple [pD big, .tuple (nD sm)]), .va (.tuple (nD l)), .va (.int (v : Int)), .va (pD (parOf rs v)), .va rs[v].way, .va (.int rs[v].ch)]) (by simp! [e5]) (fun _ => ?_) (fun z => by cases z))
        exact ok_last (r := .va (.bool (decide (v ∈ l) == oin big l))) (ρ1 := [.va (dunD rs k), .va (.tuple [pD big, .tuple (nD sm)]), .va (.tuple (nD l)), .va (.int (v : Int)), .va (pD (parOf rs v)), .va rs[v].way, .va (.int rs[v].ch)]) (by simp! [e3, e6, eq_bools]) ⟨by simp, rfl⟩
    · refine ok_cons (ok_if (v := true) (ρ1 := [.va (dunD rs k), .va (.tuple [pD big, .tuple (nD sm)]), .va (.tuple (nD l)), .va (.int (v : Int)), .va (pD (parOf rs v)), .va rs[v].way, .va (.int rs[v].ch)]) (by simp! [e4]) (fun _ => ?_) (fun z => by cases z))
      exact ok_last (r := .va (.bool (decide (v ∈ l)))) (ρ1 := [.va (dunD rs k), .va (.tuple [pD big, .tuple (nD sm)]), .va (.tuple (nD l)), .va (.int (v : Int)), .va (pD (parOf rs v)), .va rs[v].way, .va (.int rs[v].ch)]) (by simp! [e3]) ⟨by simp, rfl⟩
end W


set_option autoImplicit false
namespace W
open PySem PySem.Spec L2 Den
variable {rs : List Rm} {k : Int}
def partB (rs : List Rm) (big : Option Nat) (l : List Nat) : Bool := decide (0 ∈ l) && (List.range' 1 (rs.length - 1)).all (standsB rs big l)
theorem part_iff (h : Dun rs) {big : Option Nat} (hb : ∀ b, big = some b → b < rs.length) {s : Nat → Bool} : partB rs big (lot rs.length s) = true ↔ IsP rs big s := by
  have h0 := h.len0
  unfold partB
  rw [Bool.and_eq_true, decide_eq_true_eq, mem_lot, List.all_eq_true]
  have ds : ∀ v, v < rs.length → decide (v ∈ lot rs.length s) = s v := fun v hv => by
    cases z : s v with
    | true => exact decide_eq_true (mem_lot.mpr ⟨hv, z⟩)
    | false =>
      refine decide_eq_false fun y => ?_
      have := (mem_lot.mp y).2
      rw [z] at this
      cases this
  have st : ∀ v p, v < rs.length → parOf rs v = some p → standsB rs big (lot rs.length s) v = (if s p = true then (if isOpn rs v = true then s v else if isBar rs v = true then s v == oinS big s else true) else !s v) := fun v p hv e => by
    unfold standsB
    rw [oin_lot (fun q eq => par_lt2 h hv eq), oin_lot hb, ds v hv, e]
    rfl
  constructor
  · rintro ⟨⟨_, z0⟩, hall⟩
    have key : ∀ v p, v < rs.length → parOf rs v = some p → (if s p = true then (if isOpn rs v = true then s v else if isBar rs v = true then s v == oinS big s else true) else !s v) = true := fun v p hv e => by
      rw [← st v p hv e]
      exact hall v (List.mem_range'_1.mpr ⟨par_pos h e, by omega⟩)
    refine ⟨z0, fun v p hv e hs => ?_, fun v p hv e ho hp => ?_, fun v p hv e hbar hp => ?_⟩
    · have := key v p hv e
      cases hp : s p with
      | true => rfl
      | false =>
        rw [hp] at this
        simp [hs] at this
    · have := key v p hv e
      simpa [hp, ho] using this
    · have := key v p hv e
      have ho : isOpn rs v = false := by
        rcases way_one h hv (par_pos h e) with ⟨_, _, c⟩ | ⟨_, _, c⟩ | ⟨a, _, _⟩
        · rw [hbar] at c; cases c
        · rw [hbar] at c; cases c
        · exact a
      simpa [hp, ho, hbar] using this
  · intro P
    refine ⟨⟨h0, P.root⟩, fun v hv => ?_⟩
    obtain ⟨h1, h2⟩ := List.mem_range'_1.mp hv
    have hvn : v < rs.length := by omega
    obtain ⟨p, e, _, _⟩ := par_some h hvn (by omega)
    rw [st v p hvn e]
    cases hp : s p with
    | true =>
      rw [if_pos rfl]
      by_cases ho : isOpn rs v = true
      · rw [if_pos ho]
        exact P.opn v p hvn e ho hp
      · rw [if_neg ho]
        by_cases hbar : isBar rs v = true
        · rw [if_pos hbar, P.bar v p hvn e hbar hp]
          simp
        · rw [if_neg hbar]
    | false =>
      rw [if_neg (by simp)]
      cases hs : s v with
      | false => rfl
      | true =>
        have := P.par v p hvn e hs
        rw [hp] at this
        cases this
theorem is_part_ok (h : Dun rs) {big : Option Nat} {sm l : List Nat} (hl : l.Pairwise (· < ·)) (hn : ∀ u ∈ l, u < rs.length) : d_is_part.run [] [dunD rs k, laidD big sm, tN l] = some (.va (.bool (partB rs big l)), []) := by
  have hl1 := h.len1
  have hl0 := h.len0
  have hll : l.length ≤ rs.length := by
    rw [lot_of hl hn]
    exact lot_len
  have e1 := cf (is_lot_ok (n := rs.length) hl hn (lim_11 (by omega))) mt_is_lot np_is_lot
  have e2 : φNotIn (.int 0) (.tuple (nD l)) = some (.va (.bool (!decide (0 ∈ l)))) := notin_natT (p := 0)
  refine eqr ?_
  rw [r_is_part]
  refine run_f ?_
  refine ok_step (ρ1 := [.va (dunD rs k), .va (laidD big sm), .va (tN l), .va (.int (rs.length : Int)), .no]) (by simp! [dunD]) ?_
  refine ok_cons (ok_if (v := !decide (0 ∈ l)) (ρ1 := [.va (dunD rs k), .va (laidD big sm), .va (tN l), .va (.int (rs.length : Int)), .no]) (by unfold tN at *; simp_all! [g_is_part, e1, e2]) (fun hc => ?_) (fun hc => ok_nil ?_))
  · refine ok_last (r := .va (.bool false)) (ρ1 := [.va (dunD rs k), .va (laidD big sm), .va (tN l), .va (.int (rs.length : Int)), .no]) (by simp! []) ⟨?_, rfl⟩
    unfold partB
    have : decide (0 ∈ l) = false := by simpa using hc
    rw [this]
    rfl
  · have q : q_is_part_0.den g_is_part [.va (dunD rs k), .va (laidD big sm), .va (tN l), .va (.int (rs.length : Int)), .no] = some (.ls (((List.range' 1 (rs.length - 1)).filter fun _ => true).map fun v => .bool (standsB rs big l v)), [.va (dunD rs k), .va (laidD big sm), .va (tN l), .va (.int (rs.length : Int)), .no]) := by
      unfold q_is_part_0
      refine lc1 (l := List.range' 1 (rs.length - 1)) (f := nI) (s := .no) (ρ1 := [.va (dunD rs k), .va (laidD big sm), .va (tN l), .va (.int (rs.length : Int)), .no]) ?_ (by rw [List.length_range']; exact lim_11 (by omega)) rfl (fun v hv => by rfl) (fun v hv _ => ?_)
      · rw [it_rng2 (x := 1) (y := rs.length) (ρ1 := [.va (dunD rs k), .va (laidD big sm), .va (tN l), .va (.int (rs.length : Int)), .no]) (ρ2 := [.va (dunD rs k), .va (laidD big sm), .va (tN l), .va (.int (rs.length : Int)), .no]) (by simp! []) (by simp! []) (by omega)]
        have q := rng_nat2 (a := 1) (n := rs.length) (by omega)
        rw [← List.range'_eq_map_range] at q
        exact congrArg (fun x => some (x, _)) q
      · obtain ⟨a, b⟩ := List.mem_range'_1.mp hv
        have e := cf (stands_ok (k := k) (big := big) (sm := sm) (l := l) (v := v) h (by omega)) mt_stands_right np_stands_right
        unfold nI
        simp_all! [g_is_part, e]
    rw [List.filter_eq_self.mpr (fun _ _ => rfl)] at q
    refine ok_last (r := .va (.bool (partB rs big l))) (ρ1 := [.va (dunD rs k), .va (laidD big sm), .va (tN l), .va (.int (rs.length : Int)), .no]) ?_ ⟨rfl, rfl⟩
    have z0 : decide (0 ∈ l) = true := by simpa using hc
    have ep : partB rs big l = ((List.range' 1 (rs.length - 1)).map (standsB rs big l)).all id := by
      unfold partB
      rw [z0, List.all_map]
      rfl
    rw [ep]
    have eb : boolsOf ((List.range' 1 (rs.length - 1)).map fun v => PyData.bool (standsB rs big l v)) = some ((List.range' 1 (rs.length - 1)).map (standsB rs big l)) := bools_map
    simp! [q, φAll, eb]
def allL (rs : List Rm) : Nat → List (List Nat)
  | 0 => [[0]]
  | m + 1 => allL rs m ++ ((allL rs m).filter fun p => oin (parOf rs (m + 1)) p).map fun p => p ++ [m + 1]
def Hg (rs : List Rm) (m : Nat) (s : Nat → Bool) : Prop := s 0 = true ∧ ∀ v p, v ≤ m → parOf rs v = some p → s v = true → s p = true
theorem mem_allL (h : Dun rs) : ∀ {m : Nat} {part : List Nat}, m < rs.length → (part ∈ allL rs m ↔ ∃ s, part = lot (m + 1) s ∧ Hg rs m s)
  | 0, part, hm => by
    rw [allL, List.mem_singleton]
    constructor
    · rintro rfl
      refine ⟨fun u => u == 0, by decide +kernel, rfl, fun v p hv e => ?_⟩
      have := par_pos h e
      omega
    · rintro ⟨s, rfl, h0, _⟩
      rw [lot_succ, h0]
      simp [lot]
  | m + 1, part, hm => by
    obtain ⟨q, eq, hq, _⟩ := par_some h hm (by omega)
    have ho : ∀ s : Nat → Bool, oin (parOf rs (m + 1)) (lot (m + 1) s) = s q := fun s => by
      rw [oin_lot (n := m + 1) (fun p e => by rw [eq] at e; cases e; exact hq), eq]
      rfl
    rw [allL, List.mem_append, List.mem_map]
    constructor
    · rintro (hx | ⟨old, hold, rfl⟩)
      · obtain ⟨s, rfl, h0, hs⟩ := (mem_allL h (by omega)).mp hx
        refine ⟨fun u => if u = m + 1 then false else s u, ?_, by simpa using h0, fun v p hv e z => ?_⟩
        · rw [lot_succ (n := m + 1)]
          simp only [if_true, Bool.false_eq_true, if_false, List.append_nil]
          exact lot_congr fun u hu => by
            have : u ≠ m + 1 := by omega
            simp [this]
        · have hpv := par_lt h e
          by_cases hv1 : v = m + 1
          · simp [hv1] at z
          · simp only [hv1, if_false] at z
            have hp1 : p ≠ m + 1 := by omega
            simp only [hp1, if_false]
            exact hs v p (by omega) e z
      · obtain ⟨hold, hc⟩ := List.mem_filter.mp hold
        obtain ⟨s, rfl, h0, hs⟩ := (mem_allL h (by omega)).mp hold
        rw [ho] at hc
        refine ⟨fun u => if u = m + 1 then true else s u, ?_, by simpa using h0, fun v p hv e z => ?_⟩
        · rw [lot_succ (n := m + 1)]
          simp only [if_true]
          congr 1
          exact lot_congr fun u hu => by
            have : u ≠ m + 1 := by omega
            simp [this]
        · have hpv := par_lt h e
          have hp1 : p ≠ m + 1 := by omega
          simp only [hp1, if_false]
          by_cases hv1 : v = m + 1
          · rw [hv1, eq] at e
            cases e
            exact hc
          · simp only [hv1, if_false] at z
            exact hs v p (by omega) e z
    · rintro ⟨s, rfl, h0, hs⟩
      have hold : lot (m + 1) s ∈ allL rs m := (mem_allL h (by omega)).mpr ⟨s, rfl, h0, fun v p hv e => hs v p (by omega) e⟩
      rw [lot_succ (n := m + 1)]
      cases a : s (m + 1) with
      | true =>
        exact .inr ⟨_, List.mem_filter.mpr ⟨hold, by rw [ho]; exact hs (m + 1) q (Nat.le_refl _) eq a⟩, by simp⟩
      | false => exact .inl (by simpa using hold)
theorem allL_len : ∀ {m : Nat}, (allL rs m).length ≤ 2 ^ m
  | 0 => by simp [allL]
  | m + 1 => by
    have h1 := allL_len (m := m)
    have h2 := List.length_filter_le (fun p => oin (parOf rs (m + 1)) p) (allL rs m)
    rw [allL, List.length_append, List.length_map, Nat.pow_succ]
    omega
theorem allL_small (h : Dun rs) {m : Nat} (hm : m < rs.length) : (allL rs m).length ≤ 1024 := by
  have h1 := h.len1
  have := allL_len (rs := rs) (m := m)
  have h2 : 2 ^ m ≤ 2 ^ 10 := Nat.pow_le_pow_right (by omega) (by omega)
  omega
def partsQ (rs : List Rm) (big : Option Nat) : List (List Nat) := (allL rs (rs.length - 1)).filter (partB rs big)
theorem mem_partsQ (h : Dun rs) {big : Option Nat} (hb : ∀ b, big = some b → b < rs.length) {part : List Nat} : part ∈ partsQ rs big ↔ ∃ s, part = lot rs.length s ∧ IsP rs big s := by
  have hl := h.len0
  have hn : rs.length - 1 + 1 = rs.length := by omega
  unfold partsQ
  rw [List.mem_filter, mem_allL h (by omega), hn]
  constructor
  · rintro ⟨⟨s, rfl, _⟩, hk⟩
    exact ⟨s, rfl, (part_iff h hb).mp hk⟩
  · rintro ⟨s, rfl, hp⟩
    exact ⟨⟨s, rfl, hp.root, fun v p hv e => hp.par v p (by omega) e⟩, (part_iff h hb).mpr hp⟩
theorem all_parts_ok (h : Dun rs) {big : Option Nat} {sm : List Nat} (hb : ∀ b, big = some b → b < rs.length) : d_all_parts.run [] [dunD rs k, laidD big sm] = some (.ls (sortD ((partsQ rs big).map tN)), []) := by
  have hl1 := h.len1
  have hl0 := h.len0
  refine eqr ?_
  rw [r_all_parts]
  refine run_f ?_
  refine ok_step (ρ1 := [.va (dunD rs k), .va (laidD big sm), .ls ((allL rs 0).map tN), .no, .no]) (by simp! [allL, tN, nD, nI]) ?_
  refine ok_cons (for_at (f := nI) (l := List.range' 1 (rs.length - 1)) (ρ1 := [.va (dunD rs k), .va (laidD big sm), .ls ((allL rs 0).map tN), .no, .no])
    (fun i ρ => ∃ s3, Nb s3 ∧ ρ = [.va (dunD rs k), .va (laidD big sm), .ls ((allL rs i).map tN), s3, .no]) ?_ ⟨.no, nb_no, rfl⟩ ?_ ?_)
  · rw [it_rng2 (x := 1) (y := rs.length) (ρ1 := [.va (dunD rs k), .va (laidD big sm), .ls ((allL rs 0).map tN), .no, .no]) (ρ2 := [.va (dunD rs k), .va (laidD big sm), .ls ((allL rs 0).map tN), .no, .no]) (by simp! []) (by simp! [dunD]) (by omega)]
    have q := rng_nat2 (a := 1) (n := rs.length) (by omega)
    rw [← List.range'_eq_map_range] at q
    exact congrArg (fun x => some (x, _)) q
  · rintro i hi ρ ⟨s3, p3, rfl⟩
    have hi2 : i < rs.length - 1 := by simpa using hi
    have ei : (List.range' 1 (rs.length - 1))[i] = i + 1 := by
      rw [List.getElem_range']
      omega
    rw [ei]
    have hv : i + 1 < rs.length := by omega
    obtain ⟨w, hw⟩ : ∃ w, w = i + 1 := ⟨_, rfl⟩
    rw [← hw] at hv ⊢
    have hgl := allL_small h (m := i) (by omega)
    refine ⟨[.va (dunD rs k), .va (laidD big sm), .ls ((allL rs i).map tN), .va (nI w), .no], nm_ok p3 rfl rfl, ?_⟩
    unfold b_all_parts_0
    have q : q_all_parts_0.den g_all_parts [.va (dunD rs k), .va (laidD big sm), .ls ((allL rs i).map tN), .va (nI w), .no] = some (.ls (((allL rs i).filter fun p => oin (parOf rs w) p).map fun p => tN (p ++ [w])), [.va (dunD rs k), .va (laidD big sm), .va (.list ((allL rs i).map tN)), .va (nI w), .no]) := by
      unfold q_all_parts_0
      refine lc1 (l := allL rs i) (f := tN) (s := .no) (ρ1 := [.va (dunD rs k), .va (laidD big sm), .va (.list ((allL rs i).map tN)), .va (nI w), .no]) (by simp! [fIt, its]) (by show _ ≤ 1000000; omega) rfl (fun p hp => ?_) (fun p hp _ => ?_)
      · have e := in_pD (l := p) (parOf rs w)
        rw [← par_eq hv] at e ⊢
        unfold tN nI
        simp! [dunD, room_at hv, roomD, e]
      · obtain ⟨s, rfl, _⟩ := (mem_allL h (m := i) (by omega)).mp hp
        have hll := lot_len (n := i + 1) (s := s)
        have c1 : (nD (lot (i + 1) s) ++ [nI w]).length ≤ lim := by
          rw [List.length_append, nD_len]
          show _ ≤ 1000000
          simp
          omega
        have c2 : nD (lot (i + 1) s ++ [w]) = nD (lot (i + 1) s) ++ [nI w] := nD_app
        simp only [tN, c2]
        generalize nD (lot (i + 1) s) = X at c1 ⊢
        have c3 : X.length + 1 ≤ lim := by simpa using c1
        simp! [its, c3]
    have c4 : ((allL rs i).map tN).length + (((allL rs i).filter fun p => oin (parOf rs w) p).map fun p => tN (p ++ [w])).length ≤ lim := by
      have := List.length_filter_le (fun p => oin (parOf rs w) p) (allL rs i)
      rw [List.length_map, List.length_map]
      show _ ≤ 1000000
      omega
    have c5 : (allL rs w).map tN = (allL rs i).map tN ++ (((allL rs i).filter fun p => oin (parOf rs w) p).map fun p => tN (p ++ [w])) := by
      rw [hw, allL, List.map_append, List.map_map]
      rfl
    have c6 := add_lst c4
    refine ok_step (ρ1 := [.va (dunD rs k), .va (laidD big sm), .ls ((allL rs w).map tN), .va (nI w), .no]) ?_ (ok_nil ⟨_, nb_va, rfl⟩)
    rw [c5]
    generalize hX : (allL rs i).map tN = X at q c6 ⊢
    generalize hY : (((allL rs i).filter fun p => oin (parOf rs w) p).map fun p => tN (p ++ [w])) = Y at q c6 ⊢
    simp! [q, c6]
  · rintro ρ ⟨s3, p3, rfl⟩
    rw [List.length_range']
    have hgl := allL_small h (m := rs.length - 1) (by omega)
    have q : q_all_parts_1.den g_all_parts [.va (dunD rs k), .va (laidD big sm), .ls ((allL rs (rs.length - 1)).map tN), s3, .no] = some (.ls ((partsQ rs big).map tN), [.va (dunD rs k), .va (laidD big sm), .va (.list ((allL rs (rs.length - 1)).map tN)), s3, .no]) := by
      unfold q_all_parts_1
      refine lc1 (l := allL rs (rs.length - 1)) (f := tN) (g := tN) (b := partB rs big) (s := .no) (ρ1 := [.va (dunD rs k), .va (laidD big sm), .va (.list ((allL rs (rs.length - 1)).map tN)), s3, .no]) (by simp! [fIt, its]) (by show _ ≤ 1000000; omega) rfl (fun p hp => ?_) (fun p hp _ => by rfl)
      obtain ⟨s, rfl, _⟩ := (mem_allL h (m := rs.length - 1) (by omega)).mp hp
      rw [show rs.length - 1 + 1 = rs.length by omega]
      have e := cf (is_part_ok (k := k) (big := big) (sm := sm) (l := lot rs.length s) h lot_asc fun u hu => (mem_lot.mp hu).1) mt_is_part np_is_part
      simp_all! [g_all_parts, e]
    have hs := sorted_tN (L := partsQ rs big) (fun p hp => by
      obtain ⟨s, rfl, hP⟩ := (mem_partsQ h hb).mp hp
      intro z
      have : 0 ∈ lot rs.length s := mem_lot.mpr ⟨hl0, hP.root⟩
      rw [z] at this
      cases this) (by
      unfold partsQ
      have := List.length_filter_le (partB rs big) (allL rs (rs.length - 1))
      show _ ≤ 1000000
      omega)
    refine ok_last (r := .ls (sortD ((partsQ rs big).map tN))) (ρ1 := [.va (dunD rs k), .va (laidD big sm), .va (.list ((allL rs (rs.length - 1)).map tN)), s3, .no]) ?_ ⟨rfl, rfl⟩
    generalize hX : (partsQ rs big).map tN = X at q hs ⊢
    simp! [q, hs]
end W


set_option autoImplicit false
namespace W
open PySem PySem.Spec L2 Den
variable {rs : List Rm} {k : Int}
theorem asc_iff : ∀ {l : List Nat}, ((l.zip l.tail).map fun p => decide (p.1 < p.2)).all id = decide (l.Pairwise (· < ·))
  | [] => by simp
  | [a] => by simp
  | a :: b :: l => by
    have ih := asc_iff (l := b :: l)
    rw [List.tail_cons] at ih ⊢
    rw [List.zip_cons_cons, List.map_cons, List.all_cons, ih]
    have e : (a :: b :: l).Pairwise (· < ·) ↔ a < b ∧ (b :: l).Pairwise (· < ·) := by
      constructor
      · intro h
        obtain ⟨h1, h2⟩ := List.pairwise_cons.mp h
        exact ⟨h1 b List.mem_cons_self, h2⟩
      · rintro ⟨h1, h2⟩
        refine List.pairwise_cons.mpr ⟨fun x hx => ?_, h2⟩
        rcases List.mem_cons.mp hx with rfl | hx
        · exact h1
        · exact Nat.lt_trans h1 ((List.pairwise_cons.mp h2).1 x hx)
    by_cases hab : a < b
    · by_cases hp : (b :: l).Pairwise (· < ·)
      · rw [decide_eq_true (e.mpr ⟨hab, hp⟩), decide_eq_true hp]
        simp [hab]
      · rw [decide_eq_false (fun z => hp (e.mp z).2), decide_eq_false hp]
        simp
    · rw [decide_eq_false (fun z => hab (e.mp z).1)]
      simp [hab]
theorem is_asc_any {l : List Nat} (hn : l.length ≤ lim) : d_is_ascending.run [] [tN l] = some (.va (.bool (decide (l.Pairwise (· < ·)))), []) := by
  have q : q_is_ascending_0.den g_is_ascending [.va (tN l), .no, .no] = some (.ls (((l.zip l.tail).filter fun _ => true).map fun p => .bool (decide (p.1 < p.2))), [.va (tN l), .no, .no]) := by
    unfold q_is_ascending_0
    refine lc2 (l := l.zip l.tail) (f1 := fun p => nI p.1) (f2 := fun p => nI p.2) (s := .no) (s2 := .no) (ρ1 := [.va (tN l), .no, .no]) (by decide) ?_ ?_ rfl rfl (fun p hp => by rfl) (fun p hp _ => ?_)
    · rw [← zip_nD]
      unfold tN
      simp! [fZip, cut_one]
    · rw [List.length_zip, List.length_tail]
      exact Nat.le_trans (Nat.min_le_left _ _) hn
    · unfold nI
      simp! []
  rw [List.filter_eq_self.mpr (fun _ _ => rfl)] at q
  have e := asc_iff (l := l)
  have eb : boolsOf ((l.zip l.tail).map fun p => PyData.bool (decide (p.1 < p.2))) = some ((l.zip l.tail).map fun p => decide (p.1 < p.2)) := bools_map
  rw [← e]
  generalize ((l.zip l.tail).map fun p => PyData.bool (decide (p.1 < p.2))) = B1 at q eb
  generalize ((l.zip l.tail).map fun p => decide (p.1 < p.2)) = B2 at eb ⊢
  rw [r_is_ascending]
  simp! [c_is_ascending, q, φAll, eb]
def inB (n : Nat) : D → Bool
  | .int i => decide (0 ≤ i) && decide (i < (n : Int))
  | _ => false
theorem is_index_any {n : Nat} {d : D} : d_is_index.run [] [d, .int (n : Int)] = some (.va (.bool (inB n d)), []) := by
  have go : (∀ i, d ≠ .int i) → d_is_integer.run [] [d] = some (.va (.bool false), []) := fun h => by
    rw [r_is_integer]
    cases d with
    | int i => exact absurd rfl (h i)
    | _ => simp! [c_is_integer, φIsi, isTy]
  have go2 : (∀ i, d ≠ .int i) → d_is_index.run [] [d, .int (n : Int)] = some (.va (.bool false), []) := fun h => by
    have e := cf (go h) mt_is_integer np_is_integer
    rw [r_is_index]
    simp_all! [c_is_index, g_is_index, e]
  cases d with
  | int i => exact is_index_int
  | _ => exact go2 (by intro i; simp)
def natsOf (ds : List D) : List Nat := ds.map fun d => match d with
  | .int i => i.toNat
  | _ => 0
def lotB (n : Nat) : D → Bool
  | .tuple ds => ds.all (inB n) && decide ((natsOf ds).Pairwise (· < ·))
  | _ => false
theorem nats_of {n : Nat} : ∀ {ds : List D}, ds.all (inB n) = true → ds = nD (natsOf ds) ∧ ∀ u ∈ natsOf ds, u < n
  | [], _ => ⟨rfl, fun u hu => by cases hu⟩
  | d :: ds, h => by
    rw [List.all_cons, Bool.and_eq_true] at h
    obtain ⟨h1, h2⟩ := nats_of h.2
    cases d with
    | int i =>
      have q := h.1
      simp only [inB, Bool.and_eq_true, decide_eq_true_eq] at q
      have ei : nI i.toNat = .int i := by
        unfold nI
        congr 1
        omega
      refine ⟨?_, fun u hu => ?_⟩
      · show _ = nI i.toNat :: nD (natsOf ds)
        rw [ei, ← h1]
      · have hu : u ∈ i.toNat :: natsOf ds := hu
        rcases List.mem_cons.mp hu with rfl | hu
        · omega
        · exact h2 u hu
    | _ => cases h.1
theorem is_lot_any {n : Nat} {d : D} (hs : ∀ ds, d = .tuple ds → ds.length ≤ lim) : d_is_lot.run [] [d, .int (n : Int)] = some (.va (.bool (lotB n d)), []) := by
  have go : (∀ ds, d ≠ .tuple ds) → d_is_lot.run [] [d, .int (n : Int)] = some (.va (.bool false), []) := fun h => by
    rw [r_is_lot]
    cases d with
    | tuple ds => exact absurd rfl (h ds)
    | _ => simp! [c_is_lot, φIsi, isTy]
  cases d with
  | tuple ds =>
    have hl := hs ds rfl
    have q : q_is_lot_0.den g_is_lot [.va (.tuple ds), .va (.int (n : Int)), .no] = some (.ls ((ds.filter fun _ => true).map fun d => .bool (inB n d)), [.va (.tuple ds), .va (.int (n : Int)), .no]) := by
      unfold q_is_lot_0
      refine lc1 (l := ds) (f := fun d => d) (s := .no) (ρ1 := [.va (.tuple ds), .va (.int (n : Int)), .no]) (by rw [List.map_id']; simp! [fIt, its]) hl rfl (fun u hu => by rfl) (fun u hu _ => ?_)
      have e := cf (is_index_any (n := n) (d := u)) mt_is_index np_is_index
      simp_all! [g_is_lot, e]
    rw [List.filter_eq_self.mpr (fun _ _ => rfl)] at q
    have eb : boolsOf (ds.map fun d => PyData.bool (inB n d)) = some (ds.map fun d => inB n d) := bools_map
    have ea : (ds.map fun d => inB n d).all id = ds.all (inB n) := by rw [List.all_map]; rfl
    refine eqr ?_
    rw [r_is_lot]
    refine run_f ?_
    refine ok_cons (ok_if (v := !ds.all (inB n)) (ρ1 := [.va (.tuple ds), .va (.int (n : Int)), .no]) ?_ (fun z => ?_) (fun z => ok_nil ?_))
    · rw [← ea]
      generalize (ds.map fun d => PyData.bool (inB n d)) = B1 at q eb
      generalize (ds.map fun d => inB n d) = B2 at eb ⊢
      simp! [φIsi, isTy, q, φAll, eb]
    · have z : ds.all (inB n) = false := by simpa using z
      refine ok_last (r := .va (.bool false)) (ρ1 := [.va (.tuple ds), .va (.int (n : Int)), .no]) (by simp! []) ⟨?_, rfl⟩
      show RR.va (.bool false) = .va (.bool (ds.all (inB n) && _))
      rw [z]
      rfl
    · have z : ds.all (inB n) = true := by simpa using z
      obtain ⟨e1, _⟩ := nats_of z
      have e := is_asc_any (l := natsOf ds) (by unfold natsOf; rw [List.length_map]; exact hl)
      unfold tN at e
      rw [← e1] at e
      have e := cf e mt_is_ascending np_is_ascending
      refine ok_last (r := .va (.bool (decide ((natsOf ds).Pairwise (· < ·))))) (ρ1 := [.va (.tuple ds), .va (.int (n : Int)), .no]) (by simp_all! [g_is_lot, e]) ⟨?_, rfl⟩
      show _ = RR.va (.bool (ds.all (inB n) && _))
      rw [z]
      rfl
  | _ => exact go (by intro ds; simp)
end W


set_option autoImplicit false
namespace W
open PySem PySem.Spec L2 Den
variable {rs : List Rm} {k : Int}
def natsD : D → List Nat
  | .tuple ds => natsOf ds
  | _ => []
theorem lotB_ok {n : Nat} {d : D} (h : lotB n d = true) : d = tN (natsD d) ∧ (natsD d).Pairwise (· < ·) ∧ ∀ u ∈ natsD d, u < n := by
  cases d with
  | tuple ds =>
    have h : (ds.all (inB n) && decide ((natsOf ds).Pairwise (· < ·))) = true := h
    rw [Bool.and_eq_true, decide_eq_true_eq] at h
    obtain ⟨e1, e2⟩ := nats_of h.1
    exact ⟨congrArg PyData.tuple e1, h.2, e2⟩
  | _ => cases h
theorem nats_nD : ∀ {l : List Nat}, natsOf (nD l) = l
  | [] => rfl
  | a :: l => by
    show (Int.toNat (a : Int)) :: natsOf (nD l) = a :: l
    rw [nats_nD, Int.toNat_natCast]
theorem lotB_tN {n : Nat} {l : List Nat} (hl : l.Pairwise (· < ·)) (hn : ∀ u ∈ l, u < n) : lotB n (tN l) = true := by
  show ((nD l).all (inB n) && decide ((natsOf (nD l)).Pairwise (· < ·))) = true
  rw [nats_nD, decide_eq_true hl, Bool.and_true, List.all_eq_true]
  intro d hd
  obtain ⟨u, hu, rfl⟩ := List.mem_map.mp hd
  show (decide (0 ≤ (u : Int)) && decide ((u : Int) < (n : Int))) = true
  have := hn u hu
  rw [decide_eq_true (by omega), decide_eq_true (by omega)]
  rfl
def isPt (rs : List Rm) (big : Option Nat) (d : D) : Bool := lotB rs.length d && partB rs big (natsD d)
theorem isPt_iff (h : Dun rs) {big : Option Nat} (hb : ∀ b, big = some b → b < rs.length) {d : D} : isPt rs big d = true ↔ ∃ p ∈ partsL rs big, d = tN p := by
  unfold isPt
  rw [Bool.and_eq_true]
  constructor
  · rintro ⟨h1, h2⟩
    obtain ⟨e1, e2, e3⟩ := lotB_ok h1
    have el := lot_of e2 e3
    rw [el] at h2
    exact ⟨natsD d, (mem_parts h hb).mpr ⟨_, el, (part_iff h hb).mp h2⟩, e1⟩
  · rintro ⟨p, hp, rfl⟩
    obtain ⟨s, rfl, hs⟩ := (mem_parts h hb).mp hp
    refine ⟨lotB_tN lot_asc fun u hu => (mem_lot.mp hu).1, ?_⟩
    show partB rs big (natsOf (nD (lot rs.length s))) = true
    rw [nats_nD]
    exact (part_iff h hb).mpr hs
theorem is_part_any (h : Dun rs) {big : Option Nat} {sm : List Nat} {d : D} (hs : ∀ ds, d = .tuple ds → ds.length ≤ lim) : d_is_part.run [] [dunD rs k, laidD big sm, d] = some (.va (.bool (isPt rs big d)), []) := by
  unfold isPt
  cases e : lotB rs.length d with
  | true =>
    obtain ⟨e1, e2, e3⟩ := lotB_ok e
    have q := is_part_ok (k := k) (sm := sm) h (big := big) e2 e3
    rw [← e1] at q
    rw [q, Bool.true_and]
  | false =>
    have e1 := cf (is_lot_any (n := rs.length) hs) mt_is_lot np_is_lot
    rw [e] at e1
    refine eqr ?_
    rw [r_is_part]
    refine run_f ?_
    refine ok_step (ρ1 := [.va (dunD rs k), .va (laidD big sm), .va d, .va (.int (rs.length : Int)), .no]) (by simp! [dunD]) ?_
    refine ok_cons (ok_if (v := true) (ρ1 := [.va (dunD rs k), .va (laidD big sm), .va d, .va (.int (rs.length : Int)), .no]) (by simp_all! [g_is_part, e1]) (fun _ => ?_) (fun z => by cases z))
    exact ok_last (r := .va (.bool false)) (ρ1 := [.va (dunD rs k), .va (laidD big sm), .va d, .va (.int (rs.length : Int)), .no]) (by simp! []) ⟨rfl, rfl⟩
end W


set_option autoImplicit false
namespace W
open PySem PySem.Spec L2 Den
mutual
def plain : D → Bool
  | .none => true
  | .int _ => true
  | .tuple xs => plains xs
  | _ => false
def plains : List D → Bool
  | [] => true
  | x :: xs => plain x && plains xs
end
mutual
def sameB : D → D → Bool
  | .none, .none => true
  | .int i, .int j => i == j
  | .tuple xs, .tuple ys => sameBs xs ys
  | _, _ => false
def sameBs : List D → List D → Bool
  | [], [] => true
  | x :: xs, y :: ys => sameB x y && sameBs xs ys
  | _, _ => false
end
mutual
theorem sameB_eq : ∀ (a b : D), sameB a b = true → a = b
  | .none, b, h => by cases b <;> first | rfl | simp [sameB] at h
  | .int i, b, h => by cases b <;> first | (simp [sameB] at h; rw [h]) | simp [sameB] at h
  | .tuple xs, b, h => by
    cases b with
    | tuple ys =>
      have := sameBs_eq xs ys (by simpa [sameB] using h)
      rw [this]
    | _ => simp [sameB] at h
  | .bool _, b, h => by cases b <;> simp [sameB] at h
  | .str _, b, h => by cases b <;> simp [sameB] at h
  | .list _, b, h => by cases b <;> simp [sameB] at h
  | .dict _, b, h => by cases b <;> simp [sameB] at h
theorem sameBs_eq : ∀ (a b : List D), sameBs a b = true → a = b
  | [], b, h => by cases b <;> first | rfl | simp [sameBs] at h
  | x :: xs, b, h => by
    cases b with
    | nil => simp [sameBs] at h
    | cons y ys =>
      simp only [sameBs, Bool.and_eq_true] at h
      rw [sameB_eq x y h.1, sameBs_eq xs ys h.2]
end
mutual
theorem sameB_refl : ∀ (a : D), plain a = true → sameB a a = true
  | .none, _ => by simp [sameB]
  | .int i, _ => by simp [sameB]
  | .tuple xs, h => by
    have := sameBs_refl xs (by simpa [plain] using h)
    simpa [sameB] using this
  | .bool _, h => by simp [plain] at h
  | .str _, h => by simp [plain] at h
  | .list _, h => by simp [plain] at h
  | .dict _, h => by simp [plain] at h
theorem sameBs_refl : ∀ (a : List D), plains a = true → sameBs a a = true
  | [], _ => by simp [sameBs]
  | x :: xs, h => by
    simp only [plains, Bool.and_eq_true] at h
    simp only [sameBs, sameB_refl x h.1, sameBs_refl xs h.2, Bool.and_self]
end
theorem join_len {ts : List Str} (h : ts ≠ []) : (Str.join ", " ts).length + 2 = (ts.map (·.length)).sum + 2 * ts.length := by
  rw [join_length_add ts h]
  unfold piled
  clear h
  induction ts with
  | nil => rfl
  | cons t ts ih =>
    simp only [List.map_cons, List.sum_cons, List.length_cons]
    omega
theorem tuple_len (xs : List D) : (PyData.tuple xs).shown.length = ((PyData.shownAll xs).map (·.length)).sum + 2 * xs.length + (if xs.length ≤ 1 then (if xs.length = 0 then 2 else 1) else 0) := by
  rw [PyData.shown_tuple, strLen_append, strLen_append]
  cases xs with
  | nil => decide +kernel
  | cons x xs =>
    have h := join_len (ts := PyData.shownAll (x :: xs)) (by simp [PyData.shownAll])
    rw [PyData.shownAll_length] at h
    cases xs with
    | nil =>
      simp only [List.length_cons, List.length_nil] at h ⊢
      show 1 + _ + 2 = _
      simp
      omega
    | cons y ys =>
      simp only [List.length_cons] at h ⊢
      rw [if_neg (c := (ys.length + 1 + 1 == 1) = true) (by simp), if_neg (c := ys.length + 1 + 1 ≤ 1) (by omega)]
      show 1 + _ + 1 = _
      omega
mutual
theorem len_same : ∀ (a b : D), PyData.eqv a b = true → plain b = true → b.shown.length ≤ a.shown.length ∧ (a.shown.length = b.shown.length → sameB a b = true)
  | a, .none, h, _ => by cases a <;> first | (simp [sameB]; done) | simp [PyData.eqv] at h
  | a, .int j, h, _ => by
    cases a with
    | int i =>
      have : i = j := by simpa [PyData.eqv] using h
      subst this
      simp [sameB]
    | bool b =>
      have e : (if b then 1 else 0) = j := by simpa [PyData.eqv] using h
      cases b with
      | true =>
        simp only [if_true] at e
        subst e
        have h1 : (PyData.bool true).shown.length = 4 := by decide +kernel
        have h2 : (PyData.int 1).shown.length = 1 := by decide +kernel
        omega
      | false =>
        simp only [Bool.false_eq_true, if_false] at e
        subst e
        have h1 : (PyData.bool false).shown.length = 5 := by decide +kernel
        have h2 : (PyData.int 0).shown.length = 1 := by decide +kernel
        omega
    | _ => simp [PyData.eqv] at h
  | a, .tuple ys, h, p => by
    cases a with
    | tuple xs =>
      obtain ⟨q1, q2, q3⟩ := lens_same xs ys (by simpa [PyData.eqv] using h) (by simpa [plain] using p)
      rw [tuple_len, tuple_len, q1]
      refine ⟨by omega, fun e => ?_⟩
      have := q3 (by omega)
      simpa [sameB] using this
    | _ => simp [PyData.eqv] at h
  | _, .bool _, _, p => by simp [plain] at p
  | _, .str _, _, p => by simp [plain] at p
  | _, .list _, _, p => by simp [plain] at p
  | _, .dict _, _, p => by simp [plain] at p
theorem lens_same : ∀ (a b : List D), PyData.eqvAll a b = true → plains b = true → a.length = b.length ∧ ((PyData.shownAll b).map (·.length)).sum ≤ ((PyData.shownAll a).map (·.length)).sum ∧ (((PyData.shownAll a).map (·.length)).sum = ((PyData.shownAll b).map (·.length)).sum → sameBs a b = true)
  | a, [], h, _ => by cases a <;> first | (simp [sameBs]; done) | simp [PyData.eqvAll] at h
  | a, y :: ys, h, p => by
    cases a with
    | nil => simp [PyData.eqvAll] at h
    | cons x xs =>
      simp only [PyData.eqvAll, Bool.and_eq_true] at h
      simp only [plains, Bool.and_eq_true] at p
      obtain ⟨a1, a2⟩ := len_same x y h.1 p.1
      obtain ⟨b1, b2, b3⟩ := lens_same xs ys h.2 p.2
      simp only [PyData.shownAll, List.map_cons, List.sum_cons, List.length_cons]
      refine ⟨by omega, by omega, fun e => ?_⟩
      simp only [sameBs, a2 (by omega), b3 (by omega), Bool.and_self]
end
theorem eq_shaped {a b : D} (ha : Fine a) (hb : Fine b) : φEq a b = some (.va (.bool (PyData.eqv a b))) := by
  unfold φEq
  rw [if_pos (.inl ⟨ha.sh, hb.sh⟩)]
theorem alike_any {a b : D} (ha : Fine a) (hb : Fine b) : d_lalike.run [] [a, b] = some (.va (.bool (PyData.eqv a b && a.shown == b.shown)), []) := by
  rw [r_lalike]
  cases e : PyData.eqv a b with
  | false => simp! [c_lalike, eq_shaped ha hb, e]
  | true => simp! [c_lalike, eq_shaped ha hb, e, repr_fine ha, repr_fine hb, eq_str]
theorem alike_plain {a b : D} (ha : Fine a) (hb : Fine b) (p : plain b = true) : d_lalike.run [] [a, b] = some (.va (.bool (sameB a b)), []) := by
  rw [alike_any ha hb]
  have : (PyData.eqv a b && a.shown == b.shown) = sameB a b := by
    cases e : sameB a b with
    | true =>
      have := sameB_eq a b e
      subst this
      simp [ha.eq]
    | false =>
      cases e2 : PyData.eqv a b with
      | false => rfl
      | true =>
        rw [Bool.true_and]
        have q := (len_same a b e2 p).2
        cases e3 : (a.shown == b.shown) with
        | false => rfl
        | true =>
          have e4 : a.shown = b.shown := by simpa using e3
          rw [q (by rw [e4])] at e
          cases e
  rw [this]
theorem alike_bool {a b : Bool} : d_lalike.run [] [.bool a, .bool b] = some (.va (.bool (a == b)), []) := by
  rw [alike_any fine_bool fine_bool]
  have : (PyData.eqv (.bool a) (.bool b) && (PyData.bool a).shown == (PyData.bool b).shown) = (a == b) := by
    cases a <;> cases b <;> decide +kernel
  rw [this]
end W


set_option autoImplicit false
namespace W
open PySem PySem.Spec L2 Den
variable {rs : List Rm} {k : Int}
theorem sum_lot {g : Nat → Int} {s : Nat → Bool} : ∀ {n : Nat}, ((lot n s).map g).sum = sumS n g s
  | 0 => rfl
  | n + 1 => by
    have ih := sum_lot (g := g) (s := s) (n := n)
    have e : sumS (n + 1) g s = sumS n g s + (if s n = true then g n else 0) := by
      unfold sumS
      rw [List.range_succ, List.map_append, List.sum_append]
      simp
    rw [lot_succ, List.map_append, List.sum_append, ih, e]
    cases s n <;> simp
theorem cnt_lot {b : Nat → Bool} {s : Nat → Bool} : ∀ {n : Nat}, (((lot n s).filter b).length : Int) = sumS n (fun u => if b u = true then 1 else 0) s
  | 0 => rfl
  | n + 1 => by
    have ih := cnt_lot (b := b) (s := s) (n := n)
    have e : sumS (n + 1) (fun u => if b u = true then (1 : Int) else 0) s = sumS n (fun u => if b u = true then (1 : Int) else 0) s + (if s n = true then (if b n = true then 1 else 0) else 0) := by
      unfold sumS
      rw [List.range_succ, List.map_append, List.sum_append]
      simp
    rw [lot_succ, List.filter_append, List.length_append, e, ← ih]
    cases a : s n with
    | false => simp
    | true => cases c : b n <;> simp [c]
theorem sumS_sub {n : Nat} {f g : Nat → Int} {s : Nat → Bool} : sumS n (fun u => f u - g u) s = sumS n f s - sumS n g s := by
  have q := sum_add (l := List.range n) (f := fun u => if s u = true then f u - g u else 0) (g := fun u => if s u = true then g u else 0)
  have e : (fun u => (if s u = true then f u - g u else 0) + (if s u = true then g u else 0)) = fun u => if s u = true then f u else 0 := funext fun u => by
    cases s u <;> simp
  rw [e] at q
  have e2 : sumS n (fun u => f u - g u) s = ((List.range n).map fun u => if s u = true then f u - g u else 0).sum := rfl
  rw [e2]
  unfold sumS
  omega
theorem net_lot {sm : List Nat} {s : Nat → Bool} {n : Nat} : ((lot n s).map fun v => ((sm[v]?.getD 0 : Nat) : Int)).sum - (((lot n s).filter (isLck rs)).length : Int) = sumS n (netF rs sm) s := by
  rw [sum_lot, cnt_lot, ← sumS_sub]
  rfl
theorem net_of_ok (h : Dun rs) {big : Option Nat} {sm : List Nat} {s : Nat → Bool} (hs : sm.length = rs.length) : d_net_of.run [] [dunD rs k, laidD big sm, tN (lot rs.length s)] = some (.va (.int (sumS rs.length (netF rs sm) s)), []) := by
  have hl1 := h.len1
  have hll := lot_len (n := rs.length) (s := s)
  generalize hl : lot rs.length s = l
  have hn : ∀ u ∈ l, u < rs.length := fun u hu => by
    rw [← hl] at hu
    exact (mem_lot.mp hu).1
  have hlen : l.length ≤ lim := by
    rw [← hl]
    exact lim_11 (by omega)
  have q0 : q_net_of_0.den g_net_of [.va (dunD rs k), .va (laidD big sm), .va (tN l), .no, .no] = some (.ls ((l.filter fun _ => true).map fun v => .int ((sm[v]?.getD 0 : Nat) : Int)), [.va (dunD rs k), .va (laidD big sm), .va (tN l), .no, .no]) := by
    unfold q_net_of_0
    refine lc1 (l := l) (f := nI) (s := .no) (ρ1 := [.va (dunD rs k), .va (laidD big sm), .va (tN l), .no, .no]) (by unfold tN; simp! [fIt, its, nD]) hlen rfl (fun v hv => by rfl) (fun v hv _ => ?_)
    have hv2 : v < sm.length := by rw [hs]; exact hn v hv
    have e : atI (nD sm) ((v : Nat) : Int) = some (.int ((sm[v] : Nat) : Int)) := at_nat (nD_at hv2)
    have e2 : sm[v]?.getD 0 = sm[v] := by rw [List.getElem?_eq_getElem hv2]; rfl
    rw [e2]
    unfold nI laidD
    simp! [e]
  rw [List.filter_eq_self.mpr (fun _ _ => rfl)] at q0
  have q1 : ∀ i : Int, q_net_of_1.den g_net_of [.va (dunD rs k), .va (laidD big sm), .va (tN l), .va (.int i), .no] = some (.ls ((l.filter (isLck rs)).map nI), [.va (dunD rs k), .va (laidD big sm), .va (tN l), .va (.int i), .no]) := fun i => by
    unfold q_net_of_1
    refine lc1 (l := l) (f := nI) (g := nI) (s := .no) (ρ1 := [.va (dunD rs k), .va (laidD big sm), .va (tN l), .va (.int i), .no]) (by unfold tN; simp! [fIt, its, nD]) hlen rfl (fun v hv => ?_) (fun v hv _ => by rfl)
    have e := lck_at h (hn v hv)
    unfold nI
    simp! [dunD, roomD, room_at (hn v hv), e]
  have ei : intsOf (l.map fun v => PyData.int ((sm[v]?.getD 0 : Nat) : Int)) = some (l.map fun v => ((sm[v]?.getD 0 : Nat) : Int)) := ints_map
  have en := net_lot (rs := rs) (sm := sm) (s := s) (n := rs.length)
  rw [hl] at en
  refine eqr ?_
  rw [r_net_of]
  refine run_f ?_
  refine ok_step (ρ1 := [.va (dunD rs k), .va (laidD big sm), .va (tN l), .va (.int (l.map fun v => ((sm[v]?.getD 0 : Nat) : Int)).sum), .no]) ?_ ?_
  · generalize hX : (l.map fun v => PyData.int ((sm[v]?.getD 0 : Nat) : Int)) = X at q0 ei ⊢
    simp! [q0, φSum, ei]
  · refine ok_last (r := .va (.int (sumS rs.length (netF rs sm) s))) (ρ1 := [.va (dunD rs k), .va (laidD big sm), .va (tN l), .va (.int (l.map fun v => ((sm[v]?.getD 0 : Nat) : Int)).sum), .no]) ?_ ⟨rfl, rfl⟩
    have q := q1 (l.map fun v => ((sm[v]?.getD 0 : Nat) : Int)).sum
    rw [← en]
    generalize (l.map fun v => ((sm[v]?.getD 0 : Nat) : Int)).sum = S1 at q ⊢
    generalize hX : l.filter (isLck rs) = X at q ⊢
    simp! [q]
theorem lnet_ok (h : Dun rs) {sm : List Nat} {s : Nat → Bool} (hs : sm.length = rs.length) : d_lnet.run [] [dunD rs k, .tuple (nD sm), tN (lot rs.length s)] = some (.va (.int (sumS rs.length (netF rs sm) s)), []) := by
  have hl1 := h.len1
  have hll := lot_len (n := rs.length) (s := s)
  generalize hl : lot rs.length s = l
  have hn : ∀ u ∈ l, u < rs.length := fun u hu => by
    rw [← hl] at hu
    exact (mem_lot.mp hu).1
  have hlen : l.length ≤ lim := by
    rw [← hl]
    exact lim_11 (by omega)
  have q0 : q_lnet_0.den g_lnet [.va (dunD rs k), .va (.tuple (nD sm)), .va (tN l), .no] = some (.ls ((l.filter fun _ => true).map fun v => .int ((sm[v]?.getD 0 : Nat) : Int)), [.va (dunD rs k), .va (.tuple (nD sm)), .va (tN l), .no]) := by
    unfold q_lnet_0
    refine lc1 (l := l) (f := nI) (s := .no) (ρ1 := [.va (dunD rs k), .va (.tuple (nD sm)), .va (tN l), .no]) (by unfold tN; simp! [fIt, its, nD]) hlen rfl (fun v hv => by rfl) (fun v hv _ => ?_)
    have hv2 : v < sm.length := by rw [hs]; exact hn v hv
    have e : atI (nD sm) ((v : Nat) : Int) = some (.int ((sm[v] : Nat) : Int)) := at_nat (nD_at hv2)
    have e2 : sm[v]?.getD 0 = sm[v] := by rw [List.getElem?_eq_getElem hv2]; rfl
    rw [e2]
    unfold nI
    simp! [e]
  rw [List.filter_eq_self.mpr (fun _ _ => rfl)] at q0
  have q1 : q_lnet_1.den g_lnet [.va (dunD rs k), .va (.tuple (nD sm)), .va (tN l), .no] = some (.ls ((l.filter (isLck rs)).map nI), [.va (dunD rs k), .va (.tuple (nD sm)), .va (tN l), .no]) := by
    unfold q_lnet_1
    refine lc1 (l := l) (f := nI) (g := nI) (s := .no) (ρ1 := [.va (dunD rs k), .va (.tuple (nD sm)), .va (tN l), .no]) (by unfold tN; simp! [fIt, its, nD]) hlen rfl (fun v hv => ?_) (fun v hv _ => by rfl)
    have e := lck_at h (hn v hv)
    unfold nI
    simp! [dunD, roomD, room_at (hn v hv), e]
  have ei : intsOf (l.map fun v => PyData.int ((sm[v]?.getD 0 : Nat) : Int)) = some (l.map fun v => ((sm[v]?.getD 0 : Nat) : Int)) := ints_map
  have en := net_lot (rs := rs) (sm := sm) (s := s) (n := rs.length)
  rw [hl] at en
  rw [r_lnet, ← en]
  generalize hX : (l.map fun v => PyData.int ((sm[v]?.getD 0 : Nat) : Int)) = X at q0 ei ⊢
  generalize hZ : l.filter (isLck rs) = Z at q1 ⊢
  simp! [c_lnet, q0, q1, φSum, ei]
end W


set_option autoImplicit false
namespace W
open PySem PySem.Spec L2 Den
variable {rs : List Rm} {k : Int} {big : Option Nat} {sm : List Nat}
def nv (rs : List Rm) (sm : List Nat) (l : List Nat) : Int := (l.map fun v => ((sm[v]?.getD 0 : Nat) : Int)).sum - ((l.filter (isLck rs)).length : Int)
theorem nv_lot {s : Nat → Bool} : nv rs sm (lot rs.length s) = sumS rs.length (netF rs sm) s := net_lot
theorem parts_small (h : Dun rs) {M : List (List Nat)} (hp : M.Perm (partsL rs big)) : M.length ≤ lim := by
  rw [hp.length_eq]
  unfold partsL
  have h1 := List.length_filter_le (keepB rs big) (grow rs (rs.length - 1))
  have h2 := grow_small h (m := rs.length - 1) (by have := h.len0; omega)
  show _ ≤ 1000000
  omega
theorem len_tN {l : List Nat} : φLen [tN l] = some (.va (.int (l.length : Int))) := by
  show φLen [.tuple (nD l)] = _
  rw [len_tup, nD_len]
end W


set_option autoImplicit false
namespace K16
open PySem PySem.Spec L2 Den W
variable {rs : List Rm} {k : Int}
def Odd (d : D) : Prop := sm d = true ∧ d.depth ≤ 3 ∧ d.bulk ≤ 3
def Nr (d : D) : Prop := (Fine d ∨ ∃ x, d = .dict x) ∧ ∀ ds, d = .tuple ds → ds.length ≤ lim
theorem odd_int {i : Int} (h : i.natAbs < 10 ^ 12) : Odd (.int i) := ⟨decide_eq_true h, by simp [PyData.depth], by simp [PyData.bulk]⟩
theorem odd_nI {n : Nat} (h : n ≤ 1000) : Odd (nI n) := odd_int (by omega)
theorem odds_fine {xs : List D} (h : ∀ x ∈ xs, Odd x) (hl : xs.length ≤ 1000) : Fine (.tuple xs) ∧ Fine (.list xs) := by
  have a : sms xs = true := sms_iff.mpr fun x hx => (h x hx).1
  have b : PyData.depthAll xs ≤ 3 := depth_le fun x hx => (h x hx).2.1
  have c : PyData.bulkAll xs ≤ (3 + 1) * xs.length := bulk_le fun x hx => (h x hx).2.2
  refine ⟨fine_of (by simpa only [sm] using a) ?_ ?_, fine_of (by simpa only [sm] using a) ?_ ?_⟩
  all_goals first | (simp only [PyData.depth]; omega) | (simp only [PyData.bulk]; omega)
theorem nr_tup {xs : List D} (h : ∀ x ∈ xs, Odd x) (hl : xs.length ≤ 1000) : Nr (.tuple xs) :=
  ⟨.inl (odds_fine h hl).1, fun ds e => by cases e; show _ ≤ 1000000; omega⟩
theorem nr_fine {d : D} (h : Fine d) (hn : ∀ ds, d ≠ .tuple ds) : Nr d := ⟨.inl h, fun ds e => absurd e (hn ds)⟩
theorem mem_cut {α : Type} {xs : List α} {lo hi : Option Int} {x : α} (h : x ∈ cutD xs lo hi) : x ∈ xs := by
  unfold cutD at h
  exact List.mem_of_mem_drop (List.mem_of_mem_take h)
theorem fine_non : Fine .none := fine_of rfl (by simp [PyData.depth]) (by simp [PyData.bulk])
theorem fine_zero : Fine (.int 0) := fine_of rfl (by simp [PyData.depth]) (by simp [PyData.bulk])
theorem odd_app {A B C : List D} (ha : (∀ x ∈ A, Odd x) ∧ A.length ≤ 20) (hb : (∀ x ∈ B, Odd x) ∧ B.length ≤ 20) : (∀ x ∈ A ++ B, Odd x) ∧ (A ++ B).length ≤ 40 := by
  refine ⟨fun x hx => ?_, by rw [List.length_append]; omega⟩
  rcases List.mem_append.mp hx with z | z
  · exact ha.1 x z
  · exact hb.1 x z
theorem pairs_of : ∀ {p : List Nat}, pairsOf (p.map fun v => PyData.tuple [nI v, nI v]) = some (p.map fun v : Nat => ((.inl (v : Int) : Key), nI v))
  | [] => rfl
  | a :: p => by
    rw [List.map_cons, pairsOf, pairs_of]
    rfl
theorem dict_of {p : List Nat} (h : p.Nodup) : ∃ x, φDict [.list (p.map fun v => PyData.tuple [nI v, nI v])] = some (.va (.dict x)) := by
  have hn : (((p.map fun v : Nat => ((.inl (v : Int) : Key), nI v))).map (·.1)).Nodup := by
    rw [List.map_map]
    unfold List.Nodup
    rw [List.pairwise_map]
    refine h.imp fun {a b} ne e => ne ?_
    have e : (.inl (a : Int) : Key) = .inl (b : Int) := e
    have := Sum.inl.inj e
    omega
  unfold φDict
  simp only [pairs_of, Option.bind_some]
  exact ⟨_, if_pos hn⟩
theorem q0_ok {β : List D} {n : Int} {p : List Nat} {s3 s4 s5 s6 : Sl} (hp : p.length ≤ lim) : q_lbent_lot_0.den g_lbent_lot [.bg β, .va (tN p), .va (.int n), s3, s4, s5, s6, .no] = some (.ls (p.map fun v => .tuple [nI v, nI v]), [.bg β, .va (tN p), .va (.int n), s3, s4, s5, s6, .no]) := by
  unfold q_lbent_lot_0
  have q := lc1 (Γ := g_lbent_lot) (i := 7) (x := "v") (elt := .tup (.cons (.var 7) (.cons (.var 7) .nil))) (ifs := .no) (it := .seq (.var 1)) (ρ := [.bg β, .va (tN p), .va (.int n), s3, s4, s5, s6, .no]) (l := p) (f := nI) (g := fun v => .tuple [nI v, nI v]) (b := fun _ => true) (s := .no) (ρ1 := [.bg β, .va (tN p), .va (.int n), s3, s4, s5, s6, .no]) (by unfold tN; simp! [fIt, its, nD]) hp rfl (fun v hv => by rfl) (fun v hv _ => by rfl)
  rw [List.filter_eq_self.mpr (fun _ _ => rfl)] at q
  exact q
theorem bent_ok {β : List D} {n : Nat} {p : List Nat} (hb : Bag β) (hn0 : 0 < n) (hn : n ≤ 11) (hp : p.Pairwise (· < ·)) (hu : ∀ u ∈ p, u < n) (hl : p.length ≤ 11) :
    Ans (d_lbent_lot.run β [tN p, .int (n : Int)]) fun r β' => ∃ d, r = .va d ∧ Nr d ∧ Bag β' := by
  rw [r_lbent_lot]
  refine run_t ?_
  obtain ⟨a, β1, a0, a1, hb1, e1⟩ := take_ok (m := (p.length : Int) + 1) hb (by omega) (by omega)
  obtain ⟨o, β2, o0, o1, hb2, e2⟩ := take_ok (m := (n : Int)) hb1 (by omega) (by omega)
  have em : φMax [.int 1, .int (n : Int)] = some (.va (.int (n : Int))) := by
    show some (RR.va (.int (if (n : Int) > 1 then (n : Int) else 1))) = _
    by_cases h1 : (n : Int) > 1
    · rw [if_pos h1]
    · rw [if_neg h1]
      have : (n : Int) = 1 := by omega
      rw [this]
  have el := len_tN (l := p)
  refine ok_step (ρ1 := [.bg β2, .va (tN p), .va (.int (n : Int)), .va (.int a), .va (.int o), .no, .no, .no]) (by simp! [g_lbent_lot, mt_ltake, np_ltake, el, em, e1, e2]) ?_
  obtain ⟨odd, β3, ho, hb3, e3⟩ := some_p (things := [.int 0, .int (n : Int), .int ((n : Int) - 1), .int (-1), .bool true, .none, .tuple [], .str "0", .int o]) Odd hb2 (by simp) (by simp) (by
    intro x hx
    simp only [List.mem_cons, List.not_mem_nil, or_false] at hx
    rcases hx with rfl | rfl | rfl | rfl | rfl | rfl | rfl | rfl | rfl
    · exact odd_int (by omega)
    · exact odd_int (by omega)
    · exact odd_int (by omega)
    · exact odd_int (by omega)
    · exact ⟨rfl, by simp [PyData.depth], by simp [PyData.bulk]⟩
    · exact ⟨rfl, by simp [PyData.depth], by simp [PyData.bulk]⟩
    · exact ⟨rfl, by simp [PyData.depth, PyData.depthAll], by simp [PyData.bulk, PyData.bulkAll]⟩
    · exact ⟨by decide +kernel, by simp [PyData.depth], by decide +kernel⟩
    · exact odd_int (by omega))
  refine ok_step (ρ1 := [.bg β3, .va (tN p), .va (.int (n : Int)), .va (.int a), .va (.int o), .va odd, .no, .no]) (by simp! [g_lbent_lot, mt_lsome, np_lsome, e3]) ?_
  have hP : ∀ x ∈ nD p, Odd x := fun x hx => by
    obtain ⟨u, hu2, rfl⟩ := List.mem_map.mp hx
    exact odd_nI (by have := hu u hu2; omega)
  have pc : ∀ lo hi, (∀ x ∈ cutD (nD p) lo hi, Odd x) ∧ (cutD (nD p) lo hi).length ≤ 20 := fun lo hi => ⟨fun x hx => hP x (mem_cut hx), by
    have := cut_len (xs := nD p) (lo := lo) (hi := hi)
    rw [nD_len] at this
    omega⟩
  have hm : ∀ A B : List D, ((∀ x ∈ A, Odd x) ∧ A.length ≤ 20) → ((∀ x ∈ B, Odd x) ∧ B.length ≤ 20) → Nr (.tuple (A ++ B)) ∧ Nr (.tuple (A ++ [odd] ++ B)) ∧ A.length + B.length ≤ lim ∧ A.length + 1 ≤ lim ∧ A.length + 1 + B.length ≤ lim := fun A B hA hB => by
    refine ⟨nr_tup (odd_app hA hB (C := [])).1 (by rw [List.length_append]; omega), nr_tup ?_ (by simp; omega), ?_, ?_, ?_⟩
    · intro x hx
      rcases List.mem_append.mp hx with z | z
      · rcases List.mem_append.mp z with z | z
        · exact hA.1 x z
        · rw [List.mem_singleton.mp z]
          exact ho
      · exact hB.1 x z
    all_goals (show _ ≤ 1000000; omega)
  have hfull : (∀ x ∈ nD p, Odd x) ∧ (nD p).length ≤ 20 := ⟨hP, by rw [nD_len]; omega⟩
  obtain ⟨dx, ed⟩ := dict_of (p := p) (hp.imp fun {a b} z => Nat.ne_of_lt z)
  have hfl : Fine (.list (nD p)) := (odds_fine hP (by rw [nD_len]; omega)).2
  have hft : Fine (.tuple [tN p]) := by
    have h1 := fine_of (d := .tuple [tN p])
    refine h1 ?_ ?_ ?_
    · have a : sms (nD p) = true := sms_iff.mpr fun x hx => (hP x hx).1
      show (sms (nD p) && sms []) = true
      rw [a]
      rfl
    · have b : PyData.depthAll (nD p) ≤ 3 := depth_le fun x hx => (hP x hx).2.1
      simp only [tN, PyData.depth, PyData.depthAll]
      omega
    · have c : PyData.bulkAll (nD p) ≤ (3 + 1) * (nD p).length := bulk_le fun x hx => (hP x hx).2.2
      rw [nD_len] at c
      simp only [tN, PyData.bulk, PyData.bulkAll]
      omega
  have hrv : Nr (.tuple (nD p).reverse) := nr_tup (fun x hx => hP x (List.mem_reverse.mp hx)) (by rw [List.length_reverse, nD_len]; omega)
  have t1 := hm (cutD (nD p) none (some a)) (cutD (nD p) (some (a + 1)) none) (pc _ _) (pc _ _)
  have t2 := hm (cutD (nD p) none (some a)) (cutD (nD p) (some a) none) (pc _ _) (pc _ _)
  have t4 := hm (cutD (nD p) none (some a)) (cutD (nD p) (some (a - 1)) none) (pc _ _) (pc _ _)
  have t5 := hm (nD p) (cutD (nD p) none (some 1)) hfull (pc _ _)
  have et : tN p = .tuple (nD p) := rfl
  have f1 := add_tup (xs := cutD (nD p) none (some a)) (ys := cutD (nD p) (some (a + 1)) none) t1.2.2.1
  have f2 := add_tup (xs := cutD (nD p) none (some a)) (ys := [odd]) t1.2.2.2.1
  have f3 := add_tup (xs := cutD (nD p) none (some a) ++ [odd]) (ys := cutD (nD p) (some a) none) (by rw [List.length_append]; exact t2.2.2.2.2)
  have f4 := add_tup (xs := cutD (nD p) none (some a) ++ [odd]) (ys := cutD (nD p) (some (a + 1)) none) (by rw [List.length_append]; exact t1.2.2.2.2)
  have f5 := add_tup (xs := cutD (nD p) none (some a)) (ys := cutD (nD p) (some (a - 1)) none) t4.2.2.1
  have f6 := add_tup (xs := nD p) (ys := cutD (nD p) none (some 1)) t5.2.2.1
  rw [List.append_assoc] at f3 f4
  rw [List.append_assoc] at t1 t2
  refine ok_step (ρ1 := [.bg β3, .va (tN p), .va (.int (n : Int)), .va (.int a), .va (.int o), .va odd, .ls [.tuple (cutD (nD p) none (some a) ++ cutD (nD p) (some (a + 1)) none), .tuple (cutD (nD p) none (some a) ++ ([odd] ++ cutD (nD p) (some a) none)), .tuple (cutD (nD p) none (some a) ++ ([odd] ++ cutD (nD p) (some (a + 1)) none))], .no]) ?_ ?_
  · rw [et]
    generalize hA : cutD (nD p) none (some a) = A at f1 f2 f3 f4 ⊢
    generalize hB : cutD (nD p) (some a) none = B at f3 ⊢
    generalize hC : cutD (nD p) (some (a + 1)) none = C at f1 f4 ⊢
    simp only [List.cons_append, List.nil_append] at f3 f4
    simp! [hA, hB, hC, f1, f2, f3, f4]
  have n1 : Nr (.tuple (cutD (nD p) none (some a) ++ cutD (nD p) (some (a + 1)) none)) := t1.1
  have n2 : Nr (.tuple (cutD (nD p) none (some a) ++ ([odd] ++ cutD (nD p) (some a) none))) := t2.2.1
  have n3 : Nr (.tuple (cutD (nD p) none (some a) ++ ([odd] ++ cutD (nD p) (some (a + 1)) none))) := t1.2.1
  have n4 : Nr (.tuple (cutD (nD p) none (some a) ++ cutD (nD p) (some (a - 1)) none)) := t4.1
  have n5 : Nr (.tuple (nD p ++ cutD (nD p) none (some 1))) := t5.1
  generalize PyData.tuple (cutD (nD p) none (some a) ++ cutD (nD p) (some (a + 1)) none) = v1 at n1 ⊢
  generalize PyData.tuple (cutD (nD p) none (some a) ++ ([odd] ++ cutD (nD p) (some a) none)) = v2 at n2 ⊢
  generalize PyData.tuple (cutD (nD p) none (some a) ++ ([odd] ++ cutD (nD p) (some (a + 1)) none)) = v3 at n3 ⊢
  refine ok_step (ρ1 := [.bg β3, .va (tN p), .va (.int (n : Int)), .va (.int a), .va (.int o), .va odd, .ls [v1, v2, v3, .tuple (cutD (nD p) none (some a) ++ cutD (nD p) (some (a - 1)) none)], .no]) ?_ ?_
  · rw [et]
    generalize hA : cutD (nD p) none (some a) = A at f5 ⊢
    generalize hB : cutD (nD p) (some (a - 1)) none = B at f5 ⊢
    have h3 : 3 < lim := by decide
    simp! [hA, hB, f5, h3]
  generalize PyData.tuple (cutD (nD p) none (some a) ++ cutD (nD p) (some (a - 1)) none) = v4 at n4 ⊢
  have q0 := q0_ok (β := β3) (n := (n : Int)) (p := p) (s3 := .va (.int a)) (s4 := .va (.int o)) (s5 := .va odd) (s6 := .ls [v1, v2, v3, v4]) (by show _ ≤ 1000000; omega)
  have hpl : (nD p).length ≤ lim := by rw [nD_len]; show _ ≤ 1000000; omega
  refine ok_step (ρ1 := [.bg β3, .va (tN p), .va (.int (n : Int)), .va (.int a), .va (.int o), .va odd, .ls [v1, v2, v3, v4, .tuple (nD p).reverse, .list (nD p), .tuple [tN p], .none, .dict [], .dict dx, .tuple (nD p ++ cutD (nD p) none (some 1)), .int 0], .no]) ?_ ?_
  · have hq : ∃ X, (p.map fun v => PyData.tuple [nI v, nI v]) = X := ⟨_, rfl⟩
    obtain ⟨X, hX⟩ := hq
    rw [hX] at q0 ed
    rw [et] at q0 ⊢
    generalize hB : cutD (nD p) none (some 1) = B at f6 ⊢
    generalize nD p = Y at hB q0 f6 ⊢
    simp! [φRev, fDct0, q0, ed, hB, f6]
  have hsome : ∀ x ∈ [v1, v2, v3, v4, .tuple (nD p).reverse, .list (nD p), .tuple [tN p], .none, .dict [], .dict dx, .tuple (nD p ++ cutD (nD p) none (some 1)), .int 0], Nr x := by
    intro x hx
    simp only [List.mem_cons, List.not_mem_nil, or_false] at hx
    rcases hx with rfl | rfl | rfl | rfl | rfl | rfl | rfl | rfl | rfl | rfl | rfl | rfl
    · exact n1
    · exact n2
    · exact n3
    · exact n4
    · exact hrv
    · exact nr_fine hfl (by intro ds; simp)
    · exact ⟨.inl hft, fun ds e => by cases e; show 1 ≤ lim; decide⟩
    · exact nr_fine fine_non (by intro ds; simp)
    · exact ⟨.inr ⟨_, rfl⟩, by intro ds e; cases e⟩
    · exact ⟨.inr ⟨_, rfl⟩, by intro ds e; cases e⟩
    · exact n5
    · exact nr_fine fine_zero (by intro ds; simp)
  obtain ⟨x, β4, hx, hb4, e4⟩ := some_p (things := [v1, v2, v3, v4, .tuple (nD p).reverse, .list (nD p), .tuple [tN p], .none, .dict [], .dict dx, .tuple (nD p ++ cutD (nD p) none (some 1)), .int 0]) Nr hb3 (by simp) (by simp) hsome
  generalize [v1, v2, v3, v4, .tuple (nD p).reverse, .list (nD p), .tuple [tN p], .none, .dict [], .dict dx, .tuple (nD p ++ cutD (nD p) none (some 1)), .int 0] = L at e4 ⊢
  exact ok_last (r := .va x) (ρ1 := [.bg β4, .va (tN p), .va (.int (n : Int)), .va (.int a), .va (.int o), .va odd, .va (.list L), .no]) (by simp! [g_lbent_lot, mt_lsome, np_lsome, e4]) ⟨β4, rfl, x, rfl, hx, hb4⟩
end K16


set_option autoImplicit false
namespace W
open PySem PySem.Spec L2 Den
variable {rs : List Rm} {k : Int}
def zI (a : List Nat) : List Int := a.map fun n : Nat => (n : Int)
theorem zI_inj {a b : List Nat} (h : zI a = zI b) : a = b := (List.map_inj_right (f := fun n : Nat => (n : Int)) fun x y (z : (x : Int) = (y : Int)) => by omega).mp h
theorem le_tN {a b : List Nat} : PySem.W.dataLe false (fun d => d) (tN a) (tN b) = decide (zI a ≤ zI b) := by
  have q := congrFun (congrFun (PySem.W.dataLe_rows zI) a) b
  rw [← q]
  show (!PySem.W.dataLt (.tuple (nD b)) (.tuple (nD a))) = !PySem.W.dataLt (.list ((zI b).map .int)) (.list ((zI a).map .int))
  have e : ∀ x : List Nat, (zI x).map PyData.int = nD x := fun x => by
    unfold zI nD
    rw [List.map_map]
    rfl
  rw [PySem.W.dataLt_tuple, PySem.W.dataLt_list, e, e]
theorem sort_tNs {L : List (List Nat)} : sortD (L.map tN) = (L.mergeSort fun a b => decide (zI a ≤ zI b)).map tN :=
  (List.map_mergeSort (r := fun a b => decide (zI a ≤ zI b)) (s := PySem.W.dataLe false fun d => d) (f := tN) (l := L) fun a _ b _ => (le_tN (a := a) (b := b)).symm).symm
theorem sort_permT {L M : List (List Nat)} (h : L.Perm M) : sortD (L.map tN) = sortD (M.map tN) := by
  rw [sort_tNs, sort_tNs]
  congr 1
  have tr : ∀ a b c : List Nat, decide (zI a ≤ zI b) = true → decide (zI b ≤ zI c) = true → decide (zI a ≤ zI c) = true := fun a b c h1 h2 => by
    rw [decide_eq_true_eq] at *
    exact List.le_trans h1 h2
  have to : ∀ a b : List Nat, (decide (zI a ≤ zI b) || decide (zI b ≤ zI a)) = true := fun a b => by
    rw [Bool.or_eq_true, decide_eq_true_eq, decide_eq_true_eq]
    exact List.le_total _ _
  refine List.Perm.eq_of_pairwise (le := fun a b => zI a ≤ zI b) (fun a b _ _ h1 h2 => zI_inj (List.le_antisymm h1 h2)) ?_ ?_ ((List.mergeSort_perm _ _).trans (h.trans (List.mergeSort_perm _ _).symm))
  · exact (List.pairwise_mergeSort tr to L).imp fun z => of_decide_eq_true z
  · exact (List.pairwise_mergeSort tr to M).imp fun z => of_decide_eq_true z
theorem app_inj {p q : List Nat} {v : Nat} (h : p ++ [v] = q ++ [v]) : p = q := List.append_cancel_right h
theorem allL_nodup (h : Dun rs) : ∀ {m : Nat}, m < rs.length → (allL rs m).Nodup
  | 0, _ => by simp [allL]
  | m + 1, hm => by
    have ih := allL_nodup h (m := m) (by omega)
    have low : ∀ p ∈ allL rs m, m + 1 ∉ p := fun p hp z => by
      obtain ⟨s, rfl, _⟩ := (mem_allL h (by omega)).mp hp
      have := (mem_lot.mp z).1
      omega
    rw [allL, List.nodup_append]
    refine ⟨ih, ?_, ?_⟩
    · unfold List.Nodup
      rw [List.pairwise_map]
      exact (List.Pairwise.filter _ ih).imp fun ne e => ne (app_inj e)
    · intro a ha b hb e
      subst e
      obtain ⟨q, hq, rfl⟩ := List.mem_map.mp hb
      exact low _ ha (by simp)
theorem ext_mem {v : Nat} {p x : List Nat} (h : x ∈ ext rs v p) : x = p ∨ x = p ++ [v] := by
  unfold ext at h
  rcases List.mem_append.mp h with z | z
  · split at z
    · exact .inl (List.mem_singleton.mp z)
    · cases z
  · split at z
    · exact .inr (List.mem_singleton.mp z)
    · cases z
theorem ext_nodup {v : Nat} {p : List Nat} : (ext rs v p).Nodup := by
  unfold ext
  split <;> split <;> simp
theorem grow_nodup (h : Dun rs) : ∀ {m : Nat}, m < rs.length → (grow rs m).Nodup
  | 0, _ => by simp [grow]
  | m + 1, hm => by
    have ih := grow_nodup h (m := m) (by omega)
    have low : ∀ p ∈ grow rs m, m + 1 ∉ p := fun p hp z => by
      obtain ⟨s, rfl, _⟩ := (mem_grow h (by omega)).mp hp
      have := (mem_lot.mp z).1
      omega
    rw [grow]
    unfold List.Nodup
    rw [List.pairwise_flatMap]
    refine ⟨fun a _ => ext_nodup, ?_⟩
    refine List.Pairwise.imp_of_mem ?_ ih
    intro a b ha hb ne x hx y hy e
    subst e
    rcases ext_mem hx with rfl | rfl
    · rcases ext_mem hy with z | z
      · exact ne z
      · exact low _ ha (by rw [z]; simp)
    · rcases ext_mem hy with z | z
      · exact low _ hb (by rw [← z]; simp)
      · exact ne (app_inj z)
theorem parts_perm (h : Dun rs) {big : Option Nat} (hb : ∀ b, big = some b → b < rs.length) : (partsQ rs big).Perm (partsL rs big) := by
  have h0 := h.len0
  refine (List.perm_ext_iff_of_nodup (List.Pairwise.filter _ (allL_nodup h (by omega))) (List.Pairwise.filter _ (grow_nodup h (by omega)))).mpr fun p => ?_
  exact (mem_partsQ h hb).trans (mem_parts h hb).symm
end W


set_option autoImplicit false
namespace K16
open PySem PySem.Spec L2 Den W
variable {rs : List Rm} {k : Int}
theorem all_part (h : Dun rs) {big : Option Nat} {sm : List Nat} (L : Laid rs big sm) : IsP rs big fun _ => true :=
  ⟨rfl, fun _ _ _ _ _ => rfl, fun _ _ _ _ _ _ => rfl, fun v p hv _ hb _ => by
    cases hbg : big with
    | some b => rfl
    | none =>
      have := (barred_iff h).mpr ⟨v, hv, hb⟩
      rw [L.no hbg] at this
      cases this⟩
theorem plains_nD : ∀ {l : List Nat}, plains (nD l) = true
  | [] => rfl
  | a :: l => by
    show (true && plains (nD l)) = true
    rw [plains_nD]
    rfl
theorem same_iff {d : D} {p : List Nat} : sameB d (tN p) = true ↔ d = tN p := by
  constructor
  · exact sameB_eq _ _
  · rintro rfl
    exact sameB_refl _ (show plains (nD p) = true from plains_nD)
theorem alike_dict {x : List (D × D)} {p : List Nat} : d_lalike.run [] [.dict x, tN p] = some (.va (.bool false), []) := by
  have q : φEq (.dict x) (tN p) = some (.va (.bool false)) := by
    unfold φEq
    by_cases hA : (SeqAt.shaped (PyData.dict x) = true ∧ SeqAt.shaped (tN p) = true) ∨ (isStrD (PyData.dict x) = true ∧ isStrD (tN p) = true)
    · rw [if_pos hA]
      simp [tN, PyData.eqv]
    · rw [if_neg hA]
      rfl
  rw [r_lalike]
  simp! [c_lalike, q]
theorem alike_thing {d : D} {p : List Nat} (hd : Nr d) (hf : Fine (tN p)) : d_lalike.run [] [d, tN p] = some (.va (.bool (sameB d (tN p))), []) := by
  rcases hd.1 with h | ⟨x, rfl⟩
  · exact alike_plain h hf (show plains (nD p) = true from plains_nD)
  · have : sameB (.dict x) (tN p) = false := by simp [tN, sameB]
    rw [this]
    exact alike_dict
theorem fine_lot (h : Dun rs) {s : Nat → Bool} : Fine (tN (lot rs.length s)) := by
  have hl := h.len1
  refine (fine_nats (fun n hn => ?_) ?_).1
  · have := (mem_lot.mp hn).1
    omega
  · have := lot_len (n := rs.length) (s := s)
    omega
theorem ne_nilT {X : List (List Nat)} : φNe (.list (X.map tN)) (.list []) = some (.va (.bool (!decide (X = [])))) := by
  have q : φNe (.list (X.map tN)) (.list []) = some (.va (.bool (!PyData.eqv (.list (X.map tN)) (.list [])))) := if_pos (.inl ⟨sh_tNs.1, (sh_tNs (L := [])).1⟩)
  rw [q]
  cases X <;> simp [PyData.eqv, PyData.eqvAll]
theorem mem_le_sum : ∀ {l : List Nat} {x : Nat}, x ∈ l → x ≤ l.sum
  | a :: l, x, h => by
    rw [List.sum_cons]
    rcases List.mem_cons.mp h with rfl | h
    · omega
    · have := mem_le_sum h
      omega
theorem sum_le_mul {l : List Nat} {g : Nat → Int} {b : Int} (h : ∀ u, g u ≤ b ∧ 0 ≤ g u) : 0 ≤ (l.map g).sum ∧ (l.map g).sum ≤ b * l.length := by
  induction l with
  | nil => simp
  | cons a l ih =>
    have := h a
    simp only [List.map_cons, List.sum_cons, List.length_cons]
    have e : b * ((l.length + 1 : Nat) : Int) = b * l.length + b := by
      rw [Int.natCast_add, Int.mul_add]
      simp
    omega
section
variable {big : Option Nat} {sm : List Nat}
theorem nv_small (h : Dun rs) (L : Laid rs big sm) {s : Nat → Bool} : (nv rs sm (lot rs.length s)).natAbs < 10 ^ 12 := by
  have hll := lot_len (n := rs.length) (s := s)
  have hl1 := h.len1
  unfold nv
  have h1 := sum_le_mul (l := lot rs.length s) (g := fun v => ((sm[v]?.getD 0 : Nat) : Int)) (b := 100) fun u => by
    refine ⟨?_, Int.natCast_nonneg _⟩
    cases e : sm[u]? with
    | none => simp
    | some x =>
      have := mem_le_sum (List.mem_of_getElem? e)
      have := L.le
      show ((x : Nat) : Int) ≤ 100
      omega
  have h2 := List.length_filter_le (isLck rs) (lot rs.length s)
  generalize ((lot rs.length s).map fun v => ((sm[v]?.getD 0 : Nat) : Int)).sum = a at h1 ⊢
  omega
theorem fine_pair (h : Dun rs) (hk : 0 ≤ k ∧ k ≤ 6) (L : Laid rs big sm) : Fine (.list [dunD rs k, laidD big sm]) := by
  have hl := h.len1
  have a : sms (rs.map roomD) = true := sms_iff.mpr fun x hx => by
    obtain ⟨r, hr, rfl⟩ := List.mem_map.mp hx
    exact (room_sm h hr).1
  have b : PyData.depthAll (rs.map roomD) ≤ 1 := depth_le fun x hx => by
    obtain ⟨r, hr, rfl⟩ := List.mem_map.mp hx
    exact (room_sm h hr).2.1
  have c : PyData.bulkAll (rs.map roomD) ≤ (20 + 1) * (rs.map roomD).length := bulk_le fun x hx => by
    obtain ⟨r, hr, rfl⟩ := List.mem_map.mp hx
    exact (room_sm h hr).2.2
  rw [List.length_map] at c
  have hks : Den.sm (.int k) = true := by
    simp [Den.sm]
    omega
  have d : ∀ x ∈ nD sm, Odd x := fun x hx => by
    obtain ⟨u, hu, rfl⟩ := List.mem_map.mp hx
    have := mem_le_sum hu
    have := L.le
    exact odd_nI (by omega)
  have d1 : sms (nD sm) = true := sms_iff.mpr fun x hx => (d x hx).1
  have d2 : PyData.depthAll (nD sm) ≤ 3 := depth_le fun x hx => (d x hx).2.1
  have d3 : PyData.bulkAll (nD sm) ≤ (3 + 1) * (nD sm).length := bulk_le fun x hx => (d x hx).2.2
  rw [nD_len, L.len] at d3
  have hb : Den.sm (pD big) = true ∧ (pD big).depth = 0 ∧ (pD big).bulk = 0 := by
    cases e : big with
    | none => exact ⟨rfl, by simp [pD, PyData.depth], by simp [pD, PyData.bulk]⟩
    | some b =>
      have := L.bg b e
      exact ⟨sm_nat (by omega), by simp [pD, PyData.depth], by simp [pD, PyData.bulk]⟩
  refine fine_of ?_ ?_ ?_
  · simp [dunD, laidD, Den.sm, sms, a, d1, hb.1, by simpa [Den.sm] using hks]
  · simp only [dunD, laidD, PyData.depth, PyData.depthAll, hb.2.1]
    omega
  · simp only [dunD, laidD, PyData.bulk, PyData.bulkAll, hb.2.2]
    omega
theorem fine_parts (h : Dun rs) (hl : rs.length ≤ 9) (L : Laid rs big sm) {M : List (List Nat)} (hp : M.Perm (partsL rs big)) : Fine (.list (M.map tN)) ∧ M.length ≤ 256 ∧ M ≠ [] := by
  have h0 := h.len0
  have hM : M.length ≤ 256 := by
    rw [hp.length_eq]
    unfold partsL
    have h1 := List.length_filter_le (keepB rs big) (grow rs (rs.length - 1))
    have h2 := grow_len (rs := rs) (m := rs.length - 1)
    have h3 : 2 ^ (rs.length - 1) ≤ 2 ^ 8 := Nat.pow_le_pow_right (by omega) (by omega)
    omega
  have each : ∀ x ∈ M.map tN, Den.sm x = true ∧ x.depth ≤ 4 ∧ x.bulk ≤ 44 := fun x hx => by
    obtain ⟨p, hpm, rfl⟩ := List.mem_map.mp hx
    obtain ⟨s, rfl, _⟩ := (mem_parts h L.bg).mp (hp.mem_iff.mp hpm)
    have hll := lot_len (n := rs.length) (s := s)
    have d : ∀ x ∈ nD (lot rs.length s), Odd x := fun x hx => by
      obtain ⟨u, hu, rfl⟩ := List.mem_map.mp hx
      have := (mem_lot.mp hu).1
      exact odd_nI (by omega)
    have d1 : sms (nD (lot rs.length s)) = true := sms_iff.mpr fun x hx => (d x hx).1
    have d2 : PyData.depthAll (nD (lot rs.length s)) ≤ 3 := depth_le fun x hx => (d x hx).2.1
    have d3 : PyData.bulkAll (nD (lot rs.length s)) ≤ (3 + 1) * (nD (lot rs.length s)).length := bulk_le fun x hx => (d x hx).2.2
    rw [nD_len] at d3
    refine ⟨by simpa only [tN, Den.sm] using d1, ?_, ?_⟩
    · simp only [tN, PyData.depth]
      omega
    · simp only [tN, PyData.bulk]
      omega
  have c1 : sms (M.map tN) = true := sms_iff.mpr fun x hx => (each x hx).1
  have c2 : PyData.depthAll (M.map tN) ≤ 4 := depth_le fun x hx => (each x hx).2.1
  have c3 : PyData.bulkAll (M.map tN) ≤ (44 + 1) * (M.map tN).length := bulk_le fun x hx => (each x hx).2.2
  rw [List.length_map] at c3
  refine ⟨fine_of (by simpa only [Den.sm] using c1) ?_ ?_, hM, ?_⟩
  · simp only [PyData.depth]
    omega
  · simp only [PyData.bulk]
    omega
  · rintro rfl
    have : lot rs.length (fun _ => true) ∈ partsL rs big := (mem_parts h L.bg).mpr ⟨_, rfl, all_part h L⟩
    have := hp.mem_iff.mpr this
    cases this
end
theorem tr_ok {Γ : Gam} {c : C} {ρ ρ1 : Lo} {n : Nat} (h : c.den Γ ρ = some (.va (.int (n : Int)), ρ1)) (hn : n ≤ 1000) : (C.tr c).den Γ ρ = some (.va (tN (List.range n)), ρ1) := by
  have q := it_rng1 (a := c) (Γ := Γ) (ρ := ρ) (ρ1 := ρ1) (x := (n : Int)) h (by omega)
  rw [rng_nat] at q
  simp only [Ci.den] at q
  simp only [C.den, fTr]
  rw [q]
  rfl
theorem cut_map {α β : Type} {f : α → β} {xs : List α} {lo hi : Option Int} : cutD (xs.map f) lo hi = (cutD xs lo hi).map f := by
  unfold cutD
  rw [List.length_map, List.map_take, List.map_drop]
def stK (sc : Sl) (β : List D) (s2 : Sl) (rs : List Rm) (k : Int) (big : Option Nat) (sm : List Nat) (s5 s6 s8 s9 s10 s11 s12 s13 : Sl) : Lo := [sc, .ls β, s2, .va (dunD rs k), .va (laidD big sm), s5, s6, .va (.int (rs.length : Int)), s8, s9, s10, s11, s12, s13]
section
variable {sc s2 s5 s6 s8 s9 s10 s11 s12 s13 : Sl} {β : List D} {big : Option Nat} {sm : List Nat} {M : List (List Nat)}
theorem ix_dun : φIx (dunD rs k) (.int 0) = some (.va (.tuple (rs.map roomD))) := by
  unfold dunD
  rw [Den.ix_tup, at_zero]
  rfl
theorem ix_laid0 : φIx (laidD big sm) (.int 0) = some (.va (pD big)) := by
  unfold laidD
  rw [Den.ix_tup, at_zero]
  rfl
theorem ix_laid1 : φIx (laidD big sm) (.int 1) = some (.va (.tuple (nD sm))) := by
  unfold laidD
  rw [Den.ix_tup, at_one]
  rfl
theorem q0_law (h : Dun rs) (hp : M.Perm (partsL rs big)) (hb : ∀ b, big = some b → b < rs.length) {d : D} (hd : Nr d) :
    q_law_0.den g_law (stK sc β s2 rs k big sm (.va (.list (M.map tN))) s6 s8 s9 (.va d) s11 s12 s13) = some (.ls ((M.filter fun p => sameB d (tN p)).map tN), stK sc β s2 rs k big sm (.va (.list (M.map tN))) s6 s8 s9 (.va d) s11 s12 s13) := by
  unfold q_law_0
  refine lc1 (l := M) (f := tN) (g := tN) (s := s12) (ρ1 := stK sc β s2 rs k big sm (.va (.list (M.map tN))) s6 s8 s9 (.va d) s11 s12 s13) ?_ (parts_small h hp) rfl (fun p hpM => ?_) (fun p hpM _ => by rfl)
  · generalize M.map tN = X
    unfold stK
    simp! [fIt, its]
  · obtain ⟨s, rfl, _⟩ := (mem_parts h hb).mp (hp.mem_iff.mp hpM)
    have e := cf (alike_thing hd (fine_lot h (s := s))) mt_lalike np_lalike
    generalize sameB d (tN (lot rs.length s)) = b at e ⊢
    generalize tN (lot rs.length s) = y at e ⊢
    generalize M.map tN = X
    unfold stK
    simp [Den.Cd.denD, Den.fsStar, Den.f1, Den.fExt, Den.asLst, Den.fRep, Den.fTr, Den.fCh, Den.opI, Den.opB, Den.opC, Den.opM, Den.bodyRun, Den.Ss.den, Den.S.den, Den.C.den, Den.C.denT, Den.Cs.denA, Den.Cs.denO, Den.Cs.denAT, Den.Cs.denOT, Den.Cs.denV, Den.Cs.denF, Den.Co.den, Den.Co.denT, Den.Ci.den, Den.Tg.den, Den.Tg.dens, Den.Tg.slots, Den.Tg.slotsL, Den.parL, Den.fSeq, Den.fRet, Den.fRetN, Den.fNop, Den.fBk, Den.fCt, Den.fSet, Den.fO, Den.fDrop, Den.SlOf, Den.notBg, Den.fIfS, Den.fIf, Den.fT, Den.truth, Den.fAnd, Den.fOr, Den.fNot, Den.fAndV, Den.fOrV, Den.fNotV, Den.isB, Den.fV, Den.fF, Den.frz, Den.half, Den.vw, Den.vws, Den.f1, Den.f2, Den.fL, Den.fM, Den.fVar, Den.fC, Den.fTup, Den.fLst, Den.fsCons, Den.fsNil, Den.fSetIx, Den.fAugIx, Den.fAug, Den.asInt, Den.items, Den.putItems, Den.sameKind, Den.fMut, Den.φApp, Den.φIns, Den.fCall_eq, Den.fCallM_eq, Den.fPar, Den.fPar3, Den.fAsg, Den.gNm, Den.gTp, Den.gsCons, Den.gsNil, Den.fSl, Den.fPt, Den.φSl, Den.add_int, Den.sub_int, Den.φNeg, Den.φCmp, Den.φIs, Den.φIsNot, Den.isNone, Den.len_lst, Den.len_tup, Den.φAbs, Den.φInt, Den.φTuple, Den.φList, Den.fdmt, Den.fdnp, L2.ixN, Den.eq_str, Den.ne_str, Den.eq_int, Den.ne_int, Den.ix_lst, Den.ix_tup, Den.at_zero, Den.at_one, Den.at_two, Den.at_three, Den.lim_lit, f_law_0, f_law_1, f_law_2, f_law_3, f_law_4, f_law_5, f_law_6, f_law_7, f_law_8, f_law_9, f_law_10, f_law_11, e]
theorem judge_ok (h : Dun rs) (hp : M.Perm (partsL rs big)) (hb : ∀ b, big = some b → b < rs.length) {d : D} (hd : Nr d) (p11 : Nb s11) :
    Ok (b_law_1.den g_law (stK sc β s2 rs k big sm (.va (.list (M.map tN))) s6 s8 s9 (.va d) s11 s12 s13)) fun o ρ => o = .nx ∧ ∃ t11, Nb t11 ∧ ρ = stK sc β s2 rs k big sm (.va (.list (M.map tN))) s6 s8 s9 (.va d) t11 s12 s13 := by
  unfold b_law_1
  have q0 := q0_law (sc := sc) (β := β) (s2 := s2) (k := k) (sm := sm) (s6 := s6) (s8 := s8) (s9 := s9) (s11 := s11) (s12 := s12) (s13 := s13) h hp hb hd
  have due : (!decide ((M.filter fun p => sameB d (tN p)) = [])) = isPt rs big d := by
    cases e : isPt rs big d with
    | true =>
      obtain ⟨p, hpp, rfl⟩ := (isPt_iff h hb).mp e
      have : p ∈ M.filter fun q => sameB (tN p) (tN q) := List.mem_filter.mpr ⟨hp.mem_iff.mpr hpp, same_iff.mpr rfl⟩
      have hne : (M.filter fun q => sameB (tN p) (tN q)) ≠ [] := List.ne_nil_of_mem this
      rw [decide_eq_false hne]
      rfl
    | false =>
      have : (M.filter fun p => sameB d (tN p)) = [] := List.filter_eq_nil_iff.mpr fun p hpM z => by
        have := (isPt_iff (d := d) h hb).mpr ⟨p, hp.mem_iff.mp hpM, same_iff.mp z⟩
        rw [e] at this
        cases this
      rw [decide_eq_true this]
      rfl
  have en := ne_nilT (X := M.filter fun p => sameB d (tN p))
  rw [due] at en
  have c1 : (C.cmp .ne q_law_0 (.lst .nil)).den g_law (stK sc β s2 rs k big sm (.va (.list (M.map tN))) s6 s8 s9 (.va d) s11 s12 s13) = some (.va (.bool (isPt rs big d)), stK sc β s2 rs k big sm (.va (.list (M.map tN))) s6 s8 s9 (.va d) s11 s12 s13) := by
    generalize (M.filter fun p => sameB d (tN p)).map tN = Y at q0 en
    generalize M.map tN = X at q0 ⊢
    generalize q_law_0 = cq at q0 ⊢
    simp! [q0, en]
  refine ok_step (set_va c1 p11 rfl rfl) ?_
  show Ok (Ss.den g_law _ (stK sc β s2 rs k big sm (.va (.list (M.map tN))) s6 s8 s9 (.va d) (.va (.bool (isPt rs big d))) s12 s13)) _
  have e9 := cf (is_part_any (k := k) (sm := sm) h hd.2 (big := big)) mt_is_part np_is_part
  have ea := cf (alike_bool (a := isPt rs big d) (b := isPt rs big d)) mt_lalike np_lalike
  refine ok_cons (ok_if (v := false) (ρ1 := stK sc β s2 rs k big sm (.va (.list (M.map tN))) s6 s8 s9 (.va d) (.va (.bool (isPt rs big d))) s12 s13) ?_ (fun z => by cases z) (fun _ => ok_nil (ok_nil ⟨rfl, _, nb_va, rfl⟩)))
  generalize isPt rs big d = b at e9 ea ⊢
  generalize M.map tN = X
  unfold stK
  simp [Den.Cd.denD, Den.fsStar, Den.f1, Den.fExt, Den.asLst, Den.fRep, Den.fTr, Den.fCh, Den.opI, Den.opB, Den.opC, Den.opM, Den.bodyRun, Den.Ss.den, Den.S.den, Den.C.den, Den.C.denT, Den.Cs.denA, Den.Cs.denO, Den.Cs.denAT, Den.Cs.denOT, Den.Cs.denV, Den.Cs.denF, Den.Co.den, Den.Co.denT, Den.Ci.den, Den.Tg.den, Den.Tg.dens, Den.Tg.slots, Den.Tg.slotsL, Den.parL, Den.fSeq, Den.fRet, Den.fRetN, Den.fNop, Den.fBk, Den.fCt, Den.fSet, Den.fO, Den.fDrop, Den.SlOf, Den.notBg, Den.fIfS, Den.fIf, Den.fT, Den.truth, Den.fAnd, Den.fOr, Den.fNot, Den.fAndV, Den.fOrV, Den.fNotV, Den.isB, Den.fV, Den.fF, Den.frz, Den.half, Den.vw, Den.vws, Den.f1, Den.f2, Den.fL, Den.fM, Den.fVar, Den.fC, Den.fTup, Den.fLst, Den.fsCons, Den.fsNil, Den.fSetIx, Den.fAugIx, Den.fAug, Den.asInt, Den.items, Den.putItems, Den.sameKind, Den.fMut, Den.φApp, Den.φIns, Den.fCall_eq, Den.fCallM_eq, Den.fPar, Den.fPar3, Den.fAsg, Den.gNm, Den.gTp, Den.gsCons, Den.gsNil, Den.fSl, Den.fPt, Den.φSl, Den.add_int, Den.sub_int, Den.φNeg, Den.φCmp, Den.φIs, Den.φIsNot, Den.isNone, Den.len_lst, Den.len_tup, Den.φAbs, Den.φInt, Den.φTuple, Den.φList, Den.fdmt, Den.fdnp, L2.ixN, Den.eq_str, Den.ne_str, Den.eq_int, Den.ne_int, Den.ix_lst, Den.ix_tup, Den.at_zero, Den.at_one, Den.at_two, Den.at_three, Den.lim_lit, f_law_0, f_law_1, f_law_2, f_law_3, f_law_4, f_law_5, f_law_6, f_law_7, f_law_8, f_law_9, f_law_10, f_law_11, e9, ea]
theorem net_ok (h : Dun rs) (L : Laid rs big sm) {s : Nat → Bool} :
    Ok (b_law_2.den g_law (stK sc β s2 rs k big sm s5 s6 s8 s9 s10 s11 (.va (tN (lot rs.length s))) s13)) fun o ρ => o = .nx ∧ ρ = stK sc β s2 rs k big sm s5 s6 s8 s9 s10 s11 (.va (tN (lot rs.length s))) s13 := by
  unfold b_law_2
  have hf : Fine (.int (nv rs sm (lot rs.length s))) := fine_of (decide_eq_true (nv_small h L)) (by simp [PyData.depth]) (by simp [PyData.bulk])
  rw [nv_lot] at hf
  have e1 := cf (net_of_ok (k := k) (big := big) (s := s) h L.len) mt_net_of np_net_of
  have e2 := cf (lnet_ok (k := k) (s := s) h L.len) mt_lnet np_lnet
  have ea := cf (alike_ok hf) mt_lalike np_lalike
  refine ok_cons (ok_if (v := false) (ρ1 := stK sc β s2 rs k big sm s5 s6 s8 s9 s10 s11 (.va (tN (lot rs.length s))) s13) ?_ (fun z => by cases z) (fun _ => ok_nil (ok_nil ⟨rfl, rfl⟩)))
  generalize tN (lot rs.length s) = y at e1 e2 ⊢
  generalize sumS rs.length (netF rs sm) s = x at e1 e2 ea ⊢
  unfold stK
  simp [Den.Cd.denD, Den.fsStar, Den.f1, Den.fExt, Den.asLst, Den.fRep, Den.fTr, Den.fCh, Den.opI, Den.opB, Den.opC, Den.opM, Den.bodyRun, Den.Ss.den, Den.S.den, Den.C.den, Den.C.denT, Den.Cs.denA, Den.Cs.denO, Den.Cs.denAT, Den.Cs.denOT, Den.Cs.denV, Den.Cs.denF, Den.Co.den, Den.Co.denT, Den.Ci.den, Den.Tg.den, Den.Tg.dens, Den.Tg.slots, Den.Tg.slotsL, Den.parL, Den.fSeq, Den.fRet, Den.fRetN, Den.fNop, Den.fBk, Den.fCt, Den.fSet, Den.fO, Den.fDrop, Den.SlOf, Den.notBg, Den.fIfS, Den.fIf, Den.fT, Den.truth, Den.fAnd, Den.fOr, Den.fNot, Den.fAndV, Den.fOrV, Den.fNotV, Den.isB, Den.fV, Den.fF, Den.frz, Den.half, Den.vw, Den.vws, Den.f1, Den.f2, Den.fL, Den.fM, Den.fVar, Den.fC, Den.fTup, Den.fLst, Den.fsCons, Den.fsNil, Den.fSetIx, Den.fAugIx, Den.fAug, Den.asInt, Den.items, Den.putItems, Den.sameKind, Den.fMut, Den.φApp, Den.φIns, Den.fCall_eq, Den.fCallM_eq, Den.fPar, Den.fPar3, Den.fAsg, Den.gNm, Den.gTp, Den.gsCons, Den.gsNil, Den.fSl, Den.fPt, Den.φSl, Den.add_int, Den.sub_int, Den.φNeg, Den.φCmp, Den.φIs, Den.φIsNot, Den.isNone, Den.len_lst, Den.len_tup, Den.φAbs, Den.φInt, Den.φTuple, Den.φList, Den.fdmt, Den.fdnp, L2.ixN, Den.eq_str, Den.ne_str, Den.eq_int, Den.ne_int, Den.ix_lst, Den.ix_tup, Den.at_zero, Den.at_one, Den.at_two, Den.at_three, Den.lim_lit, f_law_0, f_law_1, f_law_2, f_law_3, f_law_4, f_law_5, f_law_6, f_law_7, f_law_8, f_law_9, f_law_10, f_law_11, ix_laid1, e1, e2, ea]
end
end K16


set_option autoImplicit false
namespace K16
open PySem PySem.Spec L2 Den W
variable {rs : List Rm} {k : Int}
section
variable {sc s2 s3 s4 s5 s6 s7 s8 s9 s10 s11 s12 s13 : Sl} {β : List D} {big : Option Nat} {sm : List Nat} {M : List (List Nat)}
theorem draw_ok (h : Dun rs) (hb : Bag β) (hL : W.Laid rs big sm) (hp : M.Perm (partsL rs big)) (hM : M.length ≤ 256) (hne : M ≠ []) {L : List D} (hl : L.length ≤ 100) (hn : ∀ x ∈ L, Nr x) :
    ∃ β' d, Bag β' ∧ Nr d ∧ b_law_0.den g_law (stK sc β s2 rs k big sm (.va (.list (M.map tN))) s6 (.ls L) s9 s10 s11 s12 s13) = some (.nx, stK sc β' s2 rs k big sm (.va (.list (M.map tN))) s6 (.ls (L ++ [d])) s9 s10 s11 s12 s13) := by
  have h1 := h.len1
  have h0 := h.len0
  obtain ⟨x, β1, ⟨p, hpM, rfl⟩, hb1, e1⟩ := some_p (things := M.map tN) (fun x => ∃ p, p ∈ M ∧ x = tN p) hb (by simpa using hne) (by rw [List.length_map]; omega) (fun x hx => by
    obtain ⟨p, hpM, rfl⟩ := List.mem_map.mp hx
    exact ⟨p, hpM, rfl⟩)
  obtain ⟨s, rfl, _⟩ := (mem_parts h hL.bg).mp (hp.mem_iff.mp hpM)
  have hll := lot_len (n := rs.length) (s := s)
  obtain ⟨r, β2, e2, d, rfl, hd, hb2⟩ := bent_ok (n := rs.length) hb1 h0 h1 (lot_asc (n := rs.length) (s := s)) (fun u hu => (mem_lot.mp hu).1) (by omega)
  refine ⟨β2, d, hb2, hd, ?_⟩
  have c1 : (C.callM 2 1 (.cons (.var 5) .nil)).den g_law (stK sc β s2 rs k big sm (.va (.list (M.map tN))) s6 (.ls L) s9 s10 s11 s12 s13) = some (.va (tN (lot rs.length s)), stK sc β1 s2 rs k big sm (.va (.list (M.map tN))) s6 (.ls L) s9 s10 s11 s12 s13) := by
    generalize M.map tN = X at e1 ⊢
    exact den_callM f_law_2 (ρ1 := stK sc β s2 rs k big sm (.va (.list X)) s6 (.ls L) s9 s10 s11 s12 s13) (by unfold stK; simp! []) rfl rfl e1 mt_lsome np_lsome
  have c2 : (C.callM 8 1 (.cons (.callM 2 1 (.cons (.var 5) .nil)) (.cons (.var 7) .nil))).den g_law (stK sc β s2 rs k big sm (.va (.list (M.map tN))) s6 (.ls L) s9 s10 s11 s12 s13) = some (.va d, stK sc β2 s2 rs k big sm (.va (.list (M.map tN))) s6 (.ls L) s9 s10 s11 s12 s13) := by
    generalize M.map tN = X at c1 ⊢
    refine den_callM f_law_8 (ρ1 := stK sc β1 s2 rs k big sm (.va (.list X)) s6 (.ls L) s9 s10 s11 s12 s13) (ds := [tN (lot rs.length s), .int (rs.length : Int)]) ?_ rfl rfl e2 mt_lbent_lot np_lbent_lot
    generalize hC : (C.callM 2 1 (.cons (.var 5) .nil)) = ca at c1 ⊢
    generalize tN (lot rs.length s) = y at c1 ⊢
    unfold stK at c1 ⊢
    simp! [c1]
  unfold b_law_0
  generalize hC : (C.callM 8 1 (.cons (.callM 2 1 (.cons (.var 5) .nil)) (.cons (.var 7) .nil))) = cb at c2 ⊢
  generalize M.map tN = X at c2 ⊢
  have hlim : L.length + 1 ≤ lim := by show _ ≤ 1000000; omega
  have hlim2 : L.length < lim := by show _ < 1000000; omega
  unfold stK at c2 ⊢
  simp! [c2, hlim, hlim2]
theorem par3_ok {X : List D} {T : Str} (e4 : ∀ ρ : Lo, callF d_lparts ([dunD rs k, pD big], ρ) = some (.ls X, ρ)) (er : φRepr [.list [dunD rs k, laidD big sm]] = some (.va (.str T))) (p5 : Nb s5) (p6 : Nb s6) (p7 : Nb s7) :
    (S.par3 5 6 7 (.call 4 (.cons (.var 3) (.cons (.ix (.var 4) (.int 0)) .nil))) (.blt .repr (.cons (.lst (.cons (.var 3) (.cons (.var 4) .nil))) .nil)) (.blt .len (.cons (.ix (.var 3) (.int 0)) .nil))).den g_law [sc, .ls β, s2, .va (dunD rs k), .va (laidD big sm), s5, s6, s7, s8, s9, s10, s11, s12, s13] =
      some (.nx, stK sc β s2 rs k big sm (.ls X) (.va (.str T)) s8 s9 s10 s11 s12 s13) := by
  have el : φLen [.tuple (rs.map roomD)] = some (.va (.int (rs.length : Int))) := by rw [len_tup, List.length_map]
  have n5 := nb_at (ρ := [sc, .ls β, s2, .va (dunD rs k), .va (laidD big sm), s5, s6, s7, s8, s9, s10, s11, s12, s13]) (i := 5) p5 rfl
  have n6 := nb_at (ρ := [sc, .ls β, s2, .va (dunD rs k), .va (laidD big sm), s5, s6, s7, s8, s9, s10, s11, s12, s13]) (i := 6) p6 rfl
  have n7 := nb_at (ρ := [sc, .ls β, s2, .va (dunD rs k), .va (laidD big sm), s5, s6, s7, s8, s9, s10, s11, s12, s13]) (i := 7) p7 rfl
  unfold stK
  unfold notBg at n5 n6 n7
  simp [Den.Cd.denD, Den.fsStar, Den.f1, Den.fExt, Den.asLst, Den.fRep, Den.fTr, Den.fCh, Den.opI, Den.opB, Den.opC, Den.opM, Den.bodyRun, Den.Ss.den, Den.S.den, Den.C.den, Den.C.denT, Den.Cs.denA, Den.Cs.denO, Den.Cs.denAT, Den.Cs.denOT, Den.Cs.denV, Den.Cs.denF, Den.Co.den, Den.Co.denT, Den.Ci.den, Den.Tg.den, Den.Tg.dens, Den.Tg.slots, Den.Tg.slotsL, Den.parL, Den.fSeq, Den.fRet, Den.fRetN, Den.fNop, Den.fBk, Den.fCt, Den.fSet, Den.fO, Den.fDrop, Den.SlOf, Den.notBg, Den.fIfS, Den.fIf, Den.fT, Den.truth, Den.fAnd, Den.fOr, Den.fNot, Den.fAndV, Den.fOrV, Den.fNotV, Den.isB, Den.fV, Den.fF, Den.frz, Den.half, Den.vw, Den.vws, Den.f1, Den.f2, Den.fL, Den.fM, Den.fVar, Den.fC, Den.fTup, Den.fLst, Den.fsCons, Den.fsNil, Den.fSetIx, Den.fAugIx, Den.fAug, Den.asInt, Den.items, Den.putItems, Den.sameKind, Den.fMut, Den.φApp, Den.φIns, Den.fCall_eq, Den.fCallM_eq, Den.fPar, Den.fPar3, Den.fAsg, Den.gNm, Den.gTp, Den.gsCons, Den.gsNil, Den.fSl, Den.fPt, Den.φSl, Den.add_int, Den.sub_int, Den.φNeg, Den.φCmp, Den.φIs, Den.φIsNot, Den.isNone, Den.len_lst, Den.len_tup, Den.φAbs, Den.φInt, Den.φTuple, Den.φList, Den.fdmt, Den.fdnp, L2.ixN, Den.eq_str, Den.ne_str, Den.eq_int, Den.ne_int, Den.ix_lst, Den.ix_tup, Den.at_zero, Den.at_one, Den.at_two, Den.at_three, Den.lim_lit, f_law_0, f_law_1, f_law_2, f_law_3, f_law_4, f_law_5, f_law_6, f_law_7, f_law_8, f_law_9, f_law_10, f_law_11, ix_dun, ix_laid0, e4, er, el]
  exact ⟨n5, n6, n7⟩
theorem turn_ok (hb : Bag β) (p3 : Nb s3) (p4 : Nb s4) (p5 : Nb s5) (p6 : Nb s6) (p7 : Nb s7) (p8 : Nb s8) (p9 : Nb s9) (p10 : Nb s10) (p11 : Nb s11) (p12 : Nb s12) (p13 : Nb s13) :
    Ok (b_law_3.den g_law [sc, .ls β, s2, s3, s4, s5, s6, s7, s8, s9, s10, s11, s12, s13]) fun o ρ => o = .nx ∧ ∃ β' t3 t4 t5 t6 t7 t8 t9 t10 t11 t12 t13, Bag β' ∧ Nb t3 ∧ Nb t4 ∧ Nb t5 ∧ Nb t6 ∧ Nb t7 ∧ Nb t8 ∧ Nb t9 ∧ Nb t10 ∧ Nb t11 ∧ Nb t12 ∧ Nb t13 ∧ ρ = [sc, .ls β', s2, t3, t4, t5, t6, t7, t8, t9, t10, t11, t12, t13] := by
  unfold b_law_3
  obtain ⟨x1, β1, ⟨m, rfl, hm⟩, hb1, e1⟩ := some_p (things := [.int 4, .int 9, .int 6]) (fun x => ∃ m : Int, x = .int m ∧ 0 < m ∧ m ≤ 9) hb (by simp) (by simp) (by
    intro x hx
    simp only [List.mem_cons, List.not_mem_nil, or_false] at hx
    rcases hx with rfl | rfl | rfl <;> exact ⟨_, rfl, by omega, by omega⟩)
  obtain ⟨r2, β2, e2, rs, k, rfl, ⟨h, hlen⟩, hk0, hk1, hb2⟩ := dungeon_ok2 hb1 hm.1 (by omega)
  have hl9 : rs.length ≤ 9 := by omega
  have c1 : (C.callM 2 1 (.cons (.lst (.cons (.int 4) (.cons (.int 9) (.cons (.int 6) .nil)))) .nil)).den g_law [sc, .ls β, s2, s3, s4, s5, s6, s7, s8, s9, s10, s11, s12, s13] = some (.va (.int m), [sc, .ls β1, s2, s3, s4, s5, s6, s7, s8, s9, s10, s11, s12, s13]) :=
    den_callM f_law_2 (ρ1 := [sc, .ls β, s2, s3, s4, s5, s6, s7, s8, s9, s10, s11, s12, s13]) (by simp! []) rfl rfl e1 mt_lsome np_lsome
  have c2 := den_callM (Γ := g_law) (j := 1) (i := 1) f_law_1 (denF_one c1 rfl) rfl rfl e2 mt_ldungeon np_ldungeon
  refine ok_step (set_va c2 p3 rfl rfl) ?_
  obtain ⟨r3, β3, e3, big, sm, rfl, L, hb3⟩ := any_laid_ok (k := k) hb2 h
  have c3 : (C.callM 3 1 (.cons (.var 3) .nil)).den g_law [sc, .ls β2, s2, .va (dunD rs k), s4, s5, s6, s7, s8, s9, s10, s11, s12, s13] = some (.va (laidD big sm), [sc, .ls β3, s2, .va (dunD rs k), s4, s5, s6, s7, s8, s9, s10, s11, s12, s13]) :=
    den_callM f_law_3 (ρ1 := [sc, .ls β2, s2, .va (dunD rs k), s4, s5, s6, s7, s8, s9, s10, s11, s12, s13]) (by simp! []) rfl rfl e3 mt_lany_laid np_lany_laid
  refine ok_step (set_va c3 p4 rfl rfl) ?_
  show Ok (Ss.den g_law _ [sc, .ls β3, s2, .va (dunD rs k), .va (laidD big sm), s5, s6, s7, s8, s9, s10, s11, s12, s13]) _
  obtain ⟨M, eM, hp⟩ := sort_tN (L := partsL rs big)
  have ep := lparts_ok (k := k) h L.bg
  rw [eM] at ep
  have eq := all_parts_ok (k := k) (sm := sm) h L.bg
  rw [sort_permT (parts_perm h L.bg), eM] at eq
  obtain ⟨hfM, hM, hMne⟩ := fine_parts h hl9 L hp
  have hfp := fine_pair h ⟨hk0, hk1⟩ L
  have er := repr_fine hfp
  generalize hT : (PyData.list [dunD rs k, laidD big sm]).shown = T at er
  have e4 := cf ep mt_lparts np_lparts
  have e6 := cf eq mt_all_parts np_all_parts
  have ea := cf (alike_ok hfM) mt_lalike np_lalike
  refine ok_step (par3_ok e4 er p5 p6 p7) ?_
  refine ok_cons (ok_if (v := false) (ρ1 := stK sc β3 s2 rs k big sm (.va (.list (M.map tN))) (.va (.str T)) s8 s9 s10 s11 s12 s13) ?_ (fun z => by cases z) (fun _ => ok_nil ?_))
  · generalize M.map tN = X at e6 ea ⊢
    unfold stK
    simp [Den.Cd.denD, Den.fsStar, Den.f1, Den.fExt, Den.asLst, Den.fRep, Den.fTr, Den.fCh, Den.opI, Den.opB, Den.opC, Den.opM, Den.bodyRun, Den.Ss.den, Den.S.den, Den.C.den, Den.C.denT, Den.Cs.denA, Den.Cs.denO, Den.Cs.denAT, Den.Cs.denOT, Den.Cs.denV, Den.Cs.denF, Den.Co.den, Den.Co.denT, Den.Ci.den, Den.Tg.den, Den.Tg.dens, Den.Tg.slots, Den.Tg.slotsL, Den.parL, Den.fSeq, Den.fRet, Den.fRetN, Den.fNop, Den.fBk, Den.fCt, Den.fSet, Den.fO, Den.fDrop, Den.SlOf, Den.notBg, Den.fIfS, Den.fIf, Den.fT, Den.truth, Den.fAnd, Den.fOr, Den.fNot, Den.fAndV, Den.fOrV, Den.fNotV, Den.isB, Den.fV, Den.fF, Den.frz, Den.half, Den.vw, Den.vws, Den.f1, Den.f2, Den.fL, Den.fM, Den.fVar, Den.fC, Den.fTup, Den.fLst, Den.fsCons, Den.fsNil, Den.fSetIx, Den.fAugIx, Den.fAug, Den.asInt, Den.items, Den.putItems, Den.sameKind, Den.fMut, Den.φApp, Den.φIns, Den.fCall_eq, Den.fCallM_eq, Den.fPar, Den.fPar3, Den.fAsg, Den.gNm, Den.gTp, Den.gsCons, Den.gsNil, Den.fSl, Den.fPt, Den.φSl, Den.add_int, Den.sub_int, Den.φNeg, Den.φCmp, Den.φIs, Den.φIsNot, Den.isNone, Den.len_lst, Den.len_tup, Den.φAbs, Den.φInt, Den.φTuple, Den.φList, Den.fdmt, Den.fdnp, L2.ixN, Den.eq_str, Den.ne_str, Den.eq_int, Den.ne_int, Den.ix_lst, Den.ix_tup, Den.at_zero, Den.at_one, Den.at_two, Den.at_three, Den.lim_lit, f_law_0, f_law_1, f_law_2, f_law_3, f_law_4, f_law_5, f_law_6, f_law_7, f_law_8, f_law_9, f_law_10, f_law_11, e6, ea]
  -- the values
  obtain ⟨y1, β4, ⟨q1, hq1, rfl⟩, hb4, f1⟩ := some_p (things := M.map tN) (fun x => ∃ p, p ∈ M ∧ x = tN p) hb3 (by simpa using hMne) (by rw [List.length_map]; omega) (fun x hx => by
    obtain ⟨p, hpM, rfl⟩ := List.mem_map.mp hx
    exact ⟨p, hpM, rfl⟩)
  have hl1 := h.len1
  obtain ⟨r5, β5, f2, us, rfl, hus, hun, hb5⟩ := lot_ok2 (n := rs.length) hb4 (by omega)
  have hnat : ∀ us : List Nat, (∀ u ∈ us, u < rs.length) → us.length ≤ rs.length → Nr (tN us) := fun us hu hl => nr_tup (xs := nD us) (fun x hx => by
    obtain ⟨u, hu2, rfl⟩ := List.mem_map.mp hx
    have := hu u hu2
    exact odd_nI (by omega)) (by rw [nD_len]; omega)
  have g1 : (C.callM 2 1 (.cons (.var 5) .nil)).den g_law (stK sc β3 s2 rs k big sm (.va (.list (M.map tN))) (.va (.str T)) s8 s9 s10 s11 s12 s13) = some (.va (tN q1), stK sc β4 s2 rs k big sm (.va (.list (M.map tN))) (.va (.str T)) s8 s9 s10 s11 s12 s13) := by
    generalize M.map tN = X at f1 ⊢
    exact den_callM f_law_2 (ρ1 := stK sc β3 s2 rs k big sm (.va (.list X)) (.va (.str T)) s8 s9 s10 s11 s12 s13) (by unfold stK; simp! []) rfl rfl f1 mt_lsome np_lsome
  have g2 : (C.callM 7 1 (.cons (.var 7) .nil)).den g_law (stK sc β4 s2 rs k big sm (.va (.list (M.map tN))) (.va (.str T)) s8 s9 s10 s11 s12 s13) = some (.va (tN us), stK sc β5 s2 rs k big sm (.va (.list (M.map tN))) (.va (.str T)) s8 s9 s10 s11 s12 s13) := by
    generalize M.map tN = X
    exact den_callM f_law_7 (ρ1 := stK sc β4 s2 rs k big sm (.va (.list X)) (.va (.str T)) s8 s9 s10 s11 s12 s13) (by unfold stK; simp! []) rfl rfl f2 mt_lany_lot np_lany_lot
  have g3 : (C.tr (.var 7)).den g_law (stK sc β5 s2 rs k big sm (.va (.list (M.map tN))) (.va (.str T)) s8 s9 s10 s11 s12 s13) = some (.va (tN (List.range rs.length)), stK sc β5 s2 rs k big sm (.va (.list (M.map tN))) (.va (.str T)) s8 s9 s10 s11 s12 s13) := by
    generalize M.map tN = X
    exact tr_ok (by unfold stK; simp! []) (by omega)
  have g : (C.lst (.cons (.callM 2 1 (.cons (.var 5) .nil)) (.cons (.callM 7 1 (.cons (.var 7) .nil)) (.cons (.tr (.var 7)) (.cons (.tup .nil) (.cons (.tup (.cons (.int 0) .nil)) .nil)))))).den g_law (stK sc β3 s2 rs k big sm (.va (.list (M.map tN))) (.va (.str T)) s8 s9 s10 s11 s12 s13) =
      some (.ls [tN q1, tN us, tN (List.range rs.length), .tuple [], .tuple [.int 0]], stK sc β5 s2 rs k big sm (.va (.list (M.map tN))) (.va (.str T)) s8 s9 s10 s11 s12 s13) := by
    generalize (C.callM 2 1 (.cons (.var 5) .nil)) = ca at g1 ⊢
    generalize (C.callM 7 1 (.cons (.var 7) .nil)) = cb at g2 ⊢
    generalize (C.tr (.var 7)) = cc at g3 ⊢
    generalize tN q1 = v1 at g1 ⊢
    generalize tN us = v2 at g2 ⊢
    generalize tN (List.range rs.length) = v3 at g3 ⊢
    generalize (stK sc β3 s2 rs k big sm (.va (.list (M.map tN))) (.va (.str T)) s8 s9 s10 s11 s12 s13) = ρa at g1 ⊢
    generalize (stK sc β4 s2 rs k big sm (.va (.list (M.map tN))) (.va (.str T)) s8 s9 s10 s11 s12 s13) = ρb at g1 g2 ⊢
    generalize (stK sc β5 s2 rs k big sm (.va (.list (M.map tN))) (.va (.str T)) s8 s9 s10 s11 s12 s13) = ρc at g2 g3 ⊢
    simp! [g1, g2, g3]
  refine ok_step (set_ls g p8 rfl rfl) ?_
  have hrow : ∀ x ∈ [tN q1, tN us, tN (List.range rs.length), .tuple [], .tuple [.int 0]], Nr x := by
    intro x hx
    simp only [List.mem_cons, List.not_mem_nil, or_false] at hx
    rcases hx with rfl | rfl | rfl | rfl | rfl
    · obtain ⟨s, rfl, _⟩ := (mem_parts h L.bg).mp (hp.mem_iff.mp hq1)
      exact hnat _ (fun u hu => (mem_lot.mp hu).1) lot_len
    · refine hnat _ hun ?_
      rw [lot_of hus hun]
      exact lot_len
    · exact hnat _ (fun u hu => List.mem_range.mp hu) (by rw [List.length_range]; omega)
    · exact nr_tup (by simp) (by simp)
    · exact nr_tup (fun x hx => by rw [List.mem_singleton.mp hx]; exact odd_int (by omega)) (by simp)
  have hrl : [tN q1, tN us, tN (List.range rs.length), .tuple [], .tuple [.int 0]].length = 5 := rfl
  generalize [tN q1, tN us, tN (List.range rs.length), .tuple [], .tuple [.int 0]] = row at hrow hrl ⊢
  show Ok (Ss.den g_law _ (stK sc β5 s2 rs k big sm (.va (.list (M.map tN))) (.va (.str T)) (.ls row) s9 s10 s11 s12 s13)) _
  refine ok_cons (for_at (f := nI) (l := List.range 12) (ρ1 := stK sc β5 s2 rs k big sm (.va (.list (M.map tN))) (.va (.str T)) (.ls row) s9 s10 s11 s12 s13)
    (fun i ρ => ∃ β row t9, Bag β ∧ (∀ x ∈ row, Nr x) ∧ row.length = 5 + i ∧ Nb t9 ∧ ρ = stK sc β s2 rs k big sm (.va (.list (M.map tN))) (.va (.str T)) (.ls row) t9 s10 s11 s12 s13)
    ?_ ⟨β5, row, s9, hb5, hrow, hrl, p9, rfl⟩ ?_ ?_)
  · rw [it_rng1 (x := 12) (ρ1 := stK sc β5 s2 rs k big sm (.va (.list (M.map tN))) (.va (.str T)) (.ls row) s9 s10 s11 s12 s13) (by generalize M.map tN = X; unfold stK; simp! []) (by omega)]
    rfl
  · rintro i hi ρ ⟨β6, row, t9, hb6, hrow, hrl, q9, rfl⟩
    have hi2 : i < 12 := by simpa using hi
    obtain ⟨β7, d, hb7, hd, e⟩ := draw_ok (sc := sc) (s2 := s2) (k := k) (s6 := .va (.str T)) (s9 := .va (nI (List.range 12)[i])) (s10 := s10) (s11 := s11) (s12 := s12) (s13 := s13) h hb6 L hp hM hMne (L := row) (by omega) hrow
    refine ⟨stK sc β6 s2 rs k big sm (.va (.list (M.map tN))) (.va (.str T)) (.ls row) (.va (nI (List.range 12)[i])) s10 s11 s12 s13, nm_ok q9 rfl rfl, .nx, _, e, β7, row ++ [d], _, hb7, ?_, by rw [List.length_append, hrl]; simp; omega, nb_va, rfl⟩
    intro x hx
    rcases List.mem_append.mp hx with z | z
    · exact hrow x z
    · rw [List.mem_singleton.mp z]
      exact hd
  rintro ρ ⟨β6, row, t9, hb6, hrow, hrl, q9, rfl⟩
  show Ok _ _
  refine ok_cons (for_at (f := id) (l := row) (ρ1 := stK sc β6 s2 rs k big sm (.va (.list (M.map tN))) (.va (.str T)) (.va (.list row)) t9 s10 s11 s12 s13)
    (fun i ρ => ∃ t10 t11, Nb t10 ∧ Nb t11 ∧ ρ = stK sc β6 s2 rs k big sm (.va (.list (M.map tN))) (.va (.str T)) (.va (.list row)) t9 t10 t11 s12 s13)
    ?_ ⟨s10, s11, p10, p11, rfl⟩ ?_ ?_)
  · generalize M.map tN = X
    unfold stK
    simp! [fIt, its]
  · rintro i hi ρ ⟨t10, t11, q10, q11, rfl⟩
    refine ⟨stK sc β6 s2 rs k big sm (.va (.list (M.map tN))) (.va (.str T)) (.va (.list row)) t9 (.va row[i]) t11 s12 s13, nm_ok q10 rfl rfl, ok_mono (judge_ok h hp L.bg (hrow _ (List.getElem_mem hi)) q11) ?_⟩
    rintro o ρ ⟨rfl, u11, w11, rfl⟩
    exact ⟨_, u11, nb_va, w11, rfl⟩
  rintro ρ ⟨t10, t11, q10, q11, rfl⟩
  show Ok _ _
  refine ok_cons (for_at (f := tN) (l := cutD M none (some 20) ++ cutD M (some (-3)) none) (ρ1 := stK sc β6 s2 rs k big sm (.va (.list (M.map tN))) (.va (.str T)) (.va (.list row)) t9 t10 t11 s12 s13)
    (fun i ρ => ∃ t12, Nb t12 ∧ ρ = stK sc β6 s2 rs k big sm (.va (.list (M.map tN))) (.va (.str T)) (.va (.list row)) t9 t10 t11 t12 s13)
    ?_ ⟨s12, p12, rfl⟩ ?_ ?_)
  · rw [List.map_append, ← cut_map, ← cut_map]
    have hXl : (M.map tN).length ≤ 256 := by rw [List.length_map]; exact hM
    generalize M.map tN = X at hXl ⊢
    have l1 := cut_len (xs := X) (lo := none) (hi := some 20)
    have l2 := cut_len (xs := X) (lo := some (-3)) (hi := none)
    have ead := add_lst (xs := cutD X none (some 20)) (ys := cutD X (some (-3)) none) (by show _ ≤ 1000000; omega)
    generalize hA : cutD X none (some 20) = A at ead ⊢
    generalize hB : cutD X (some (-3)) none = B at ead ⊢
    unfold stK
    simp! [fIt, its, hA, hB, ead]
  · rintro i hi ρ ⟨t12, q12, rfl⟩
    have hin : (cutD M none (some 20) ++ cutD M (some (-3)) none)[i] ∈ M := by
      rcases List.mem_append.mp (List.getElem_mem hi) with z | z
      · exact mem_cut z
      · exact mem_cut z
    generalize (cutD M none (some 20) ++ cutD M (some (-3)) none)[i] = q at hin ⊢
    obtain ⟨s, rfl, _⟩ := (mem_parts h L.bg).mp (hp.mem_iff.mp hin)
    refine ⟨stK sc β6 s2 rs k big sm (.va (.list (M.map tN))) (.va (.str T)) (.va (.list row)) t9 t10 t11 (.va (tN (lot rs.length s))) s13, nm_ok q12 rfl rfl, ok_mono (net_ok h L) ?_⟩
    rintro o ρ ⟨rfl, rfl⟩
    exact ⟨_, nb_va, rfl⟩
  rintro ρ ⟨t12, q12, rfl⟩
  show Ok _ _
  have c6 : (C.call 6 (.cons (.var 3) (.cons (.var 4) .nil))).den g_law (stK sc β6 s2 rs k big sm (.va (.list (M.map tN))) (.va (.str T)) (.va (.list row)) t9 t10 t11 t12 s13) = some (.ls (M.map tN), stK sc β6 s2 rs k big sm (.va (.list (M.map tN))) (.va (.str T)) (.va (.list row)) t9 t10 t11 t12 s13) := by
    generalize M.map tN = X at eq ⊢
    exact den_call f_law_6 (ds := [dunD rs k, laidD big sm]) (by unfold stK; simp! []) eq mt_all_parts np_all_parts
  refine ok_step (set_ls c6 p13 rfl rfl) ?_
  have hXl : (M.map tN).length < lim := by rw [List.length_map]; show _ < 1000000; omega
  refine ok_step (ρ1 := stK sc β6 s2 rs k big sm (.va (.list (M.map tN))) (.va (.str T)) (.va (.list row)) t9 t10 t11 t12 (.ls (M.map tN ++ [.tuple [.int 0]]))) ?_ ?_
  · generalize M.map tN = X at hXl ⊢
    have hXl2 : X.length + 1 ≤ lim := hXl
    unfold stK
    simp! [hXl, hXl2]
  refine ok_cons (ok_if (v := false) (ρ1 := stK sc β6 s2 rs k big sm (.va (.list (M.map tN))) (.va (.str T)) (.va (.list row)) t9 t10 t11 t12 (.ls (M.map tN ++ [.tuple [.int 0]]))) ?_ (fun z => by cases z) (fun _ => ok_nil (ok_nil ⟨rfl, β6, _, _, _, _, _, _, t9, t10, t11, t12, _, hb6, nb_va, nb_va, nb_va, nb_va, nb_va, nb_va, q9, q10, q11, q12, nb_ls, rfl⟩)))
  generalize M.map tN = X at e6 ea ⊢
  generalize X ++ [.tuple [.int 0]] = Y
  unfold stK
  simp [Den.Cd.denD, Den.fsStar, Den.f1, Den.fExt, Den.asLst, Den.fRep, Den.fTr, Den.fCh, Den.opI, Den.opB, Den.opC, Den.opM, Den.bodyRun, Den.Ss.den, Den.S.den, Den.C.den, Den.C.denT, Den.Cs.denA, Den.Cs.denO, Den.Cs.denAT, Den.Cs.denOT, Den.Cs.denV, Den.Cs.denF, Den.Co.den, Den.Co.denT, Den.Ci.den, Den.Tg.den, Den.Tg.dens, Den.Tg.slots, Den.Tg.slotsL, Den.parL, Den.fSeq, Den.fRet, Den.fRetN, Den.fNop, Den.fBk, Den.fCt, Den.fSet, Den.fO, Den.fDrop, Den.SlOf, Den.notBg, Den.fIfS, Den.fIf, Den.fT, Den.truth, Den.fAnd, Den.fOr, Den.fNot, Den.fAndV, Den.fOrV, Den.fNotV, Den.isB, Den.fV, Den.fF, Den.frz, Den.half, Den.vw, Den.vws, Den.f1, Den.f2, Den.fL, Den.fM, Den.fVar, Den.fC, Den.fTup, Den.fLst, Den.fsCons, Den.fsNil, Den.fSetIx, Den.fAugIx, Den.fAug, Den.asInt, Den.items, Den.putItems, Den.sameKind, Den.fMut, Den.φApp, Den.φIns, Den.fCall_eq, Den.fCallM_eq, Den.fPar, Den.fPar3, Den.fAsg, Den.gNm, Den.gTp, Den.gsCons, Den.gsNil, Den.fSl, Den.fPt, Den.φSl, Den.add_int, Den.sub_int, Den.φNeg, Den.φCmp, Den.φIs, Den.φIsNot, Den.isNone, Den.len_lst, Den.len_tup, Den.φAbs, Den.φInt, Den.φTuple, Den.φList, Den.fdmt, Den.fdnp, L2.ixN, Den.eq_str, Den.ne_str, Den.eq_int, Den.ne_int, Den.ix_lst, Den.ix_tup, Den.at_zero, Den.at_one, Den.at_two, Den.at_three, Den.lim_lit, f_law_0, f_law_1, f_law_2, f_law_3, f_law_4, f_law_5, f_law_6, f_law_7, f_law_8, f_law_9, f_law_10, f_law_11, e6, ea, er]
end
theorem law_true (ns : List Int) (h : ns.length ≤ 63) : d_law.run [] [.list (ns.map PyData.int)] = some (.va (.bool true), []) := by
  refine eqr ?_
  rw [r_law]
  refine run_f ?_
  obtain ⟨β, hb, e⟩ := bag_ok h
  have c1 : (C.call 0 (.cons (.var 0) .nil)).den g_law [.va (.list (ns.map .int)), .no, .no, .no, .no, .no, .no, .no, .no, .no, .no, .no, .no, .no] = some (.ls β, [.va (.list (ns.map .int)), .no, .no, .no, .no, .no, .no, .no, .no, .no, .no, .no, .no, .no]) :=
    den_call f_law_0 (ρ1 := [.va (.list (ns.map .int)), .no, .no, .no, .no, .no, .no, .no, .no, .no, .no, .no, .no, .no]) (by simp! []) e mt_lbag np_lbag
  refine ok_step (set_ls c1 nb_no rfl rfl) ?_
  refine ok_cons (for_at (f := nI) (l := List.range 3) (ρ1 := [.va (.list (ns.map .int)), .ls β, .no, .no, .no, .no, .no, .no, .no, .no, .no, .no, .no, .no])
    (fun i ρ => ∃ β t2 t3 t4 t5 t6 t7 t8 t9 t10 t11 t12 t13, Bag β ∧ Nb t2 ∧ Nb t3 ∧ Nb t4 ∧ Nb t5 ∧ Nb t6 ∧ Nb t7 ∧ Nb t8 ∧ Nb t9 ∧ Nb t10 ∧ Nb t11 ∧ Nb t12 ∧ Nb t13 ∧ ρ = [.va (.list (ns.map .int)), .ls β, t2, t3, t4, t5, t6, t7, t8, t9, t10, t11, t12, t13])
    ?_ ⟨β, .no, .no, .no, .no, .no, .no, .no, .no, .no, .no, .no, .no, hb, rfl, rfl, rfl, rfl, rfl, rfl, rfl, rfl, rfl, rfl, rfl, rfl, rfl⟩ ?_ ?_)
  · rw [List.set_cons_succ, List.set_cons_zero, it_rng1 (x := 3) (ρ1 := [.va (.list (ns.map .int)), .ls β, .no, .no, .no, .no, .no, .no, .no, .no, .no, .no, .no, .no]) (by simp! []) (by omega)]
    rfl
  · rintro i hi ρ ⟨β, t2, t3, t4, t5, t6, t7, t8, t9, t10, t11, t12, t13, hb, q2, q3, q4, q5, q6, q7, q8, q9, q10, q11, q12, q13, rfl⟩
    refine ⟨[.va (.list (ns.map .int)), .ls β, .va (nI (List.range 3)[i]), t3, t4, t5, t6, t7, t8, t9, t10, t11, t12, t13], nm_ok q2 rfl rfl, ok_mono (turn_ok hb q3 q4 q5 q6 q7 q8 q9 q10 q11 q12 q13) ?_⟩
    rintro o ρ ⟨rfl, β', u3, u4, u5, u6, u7, u8, u9, u10, u11, u12, u13, hb', w3, w4, w5, w6, w7, w8, w9, w10, w11, w12, w13, rfl⟩
    exact ⟨β', _, u3, u4, u5, u6, u7, u8, u9, u10, u11, u12, u13, hb', nb_va, w3, w4, w5, w6, w7, w8, w9, w10, w11, w12, w13, rfl⟩
  · rintro ρ ⟨β, t2, t3, t4, t5, t6, t7, t8, t9, t10, t11, t12, t13, hb, q2, q3, q4, q5, q6, q7, q8, q9, q10, q11, q12, q13, rfl⟩
    exact ok_last (r := .va (.bool true)) (ρ1 := [.va (.list (ns.map .int)), .ls β, t2, t3, t4, t5, t6, t7, t8, t9, t10, t11, t12, t13]) (by simp! []) ⟨rfl, rfl⟩
end K16


open PySem PySem.W PyProof.Rows
set_option maxHeartbeats 0 in
theorem PySem.Challenge.cw_wellstrewn_k16_parts_judged_and_listed_holds : PySem.Challenge.rw_wellstrewn_k16_parts_judged_and_listed.Holds := by
  w_on; o_law; k_head; (case hw => w_witness2)
  k_fill
  refine Den.law_walk (l := PySem.Challenge.rw_wellstrewn_k16_parts_judged_and_listed) (n := 63) (k := 6) (x := "script") (fdn := K16.d_law) rfl (by decide) rfl ⟨rfl, by decide, by decide⟩ (fun w h Y => PySem.W.kIn_of Y) ?F rfl rfl K16.law_true
  case F =>
    intro w mg fa h KX G hmg
    refine' K16.all_mk KX G hmg ?ha0 ?hl0 ?hc0 ?hk0 ?ha1 ?hl1 ?hc1 ?hk1 ?ha2 ?hl2 ?hc2 ?hk2 ?ha3 ?hl3 ?hc3 ?hk3 ?ha4 ?hl4 ?hc4 ?hk4 ?ha5 ?hl5 ?hc5 ?hk5 ?ha6 ?hl6 ?hc6 ?hk6 ?ha7 ?hl7 ?hc7 ?hk7 ?ha8 ?hl8 ?hc8 ?hk8 ?ha9 ?hl9 ?hc9 ?hk9 ?ha10 ?hl10 ?hc10 ?hk10 ?ha11 ?hl11 ?hc11 ?hk11 ?ha12 ?hl12 ?hc12 ?hk12 ?ha13 ?hl13 ?hc13 ?hk13 ?ha14 ?hl14 ?hc14 ?hk14 ?ha15 ?hl15 ?hc15 ?hk15 ?ha16 ?hl16 ?hc16 ?hk16 ?ha17 ?hl17 ?hc17 ?hk17 ?ha18 ?hl18 ?hc18 ?hk18 ?ha19 ?hl19 ?hc19 ?hk19 ?ha20 ?hl20 ?hc20 ?hk20 ?hz0 ?hz1 ?hz2 ?hz3 ?hz4 ?hz5 ?hz6 ?hz7 ?hz8 ?hz9 ?hz10 ?hz11 ?hz12 ?hz13 ?hz14 ?hz15 ?hz16
    case ha0 => k_is
    case hl0 => k_is
    case hc0 => k_is
    case hk0 => k_is
    case ha1 => k_is
    case hl1 => k_is
    case hc1 => k_is
    case hk1 => k_is
    case ha2 => k_is
    case hl2 => k_is
    case hc2 => k_is
    case hk2 => k_is
    case ha3 => k_is
    case hl3 => k_is
    case hc3 => k_is
    case hk3 => k_is
    case ha4 => k_is
    case hl4 => k_is
    case hc4 => k_is
    case hk4 => k_is
    case ha5 => k_is
    case hl5 => k_is
    case hc5 => k_is
    case hk5 => k_is
    case ha6 => k_is
    case hl6 => k_is
    case hc6 => k_is
    case hk6 => k_is
    case ha7 => k_is
    case hl7 => k_is
    case hc7 => k_is
    case hk7 => k_is
    case ha8 => k_is
    case hl8 => k_is
    case hc8 => k_is
    case hk8 => k_is
    case ha9 => k_is
    case hl9 => k_is
    case hc9 => k_is
    case hk9 => k_is
    case ha10 => k_is
    case hl10 => k_is
    case hc10 => k_is
    case hk10 => k_is
    case ha11 => k_is
    case hl11 => k_is
    case hc11 => k_is
    case hk11 => k_is
    case ha12 => k_is
    case hl12 => k_is
    case hc12 => k_is
    case hk12 => k_is
    case ha13 => k_is
    case hl13 => k_is
    case hc13 => k_is
    case hk13 => k_is
    case ha14 => k_is
    case hl14 => k_is
    case hc14 => k_is
    case hk14 => k_is
    case ha15 => k_is
    case hl15 => k_is
    case hc15 => k_is
    case hk15 => k_is
    case ha16 => k_is
    case hl16 => k_is
    case hc16 => k_is
    case hk16 => k_is
    case ha17 => k_is
    case hl17 => k_is
    case hc17 => k_is
    case hk17 => k_is
    case ha18 => k_is
    case hl18 => k_is
    case hc18 => k_is
    case hk18 => k_is
    case ha19 => k_is
    case hl19 => k_is
    case hc19 => k_is
    case hk19 => k_is
    case ha20 => k_is
    case hl20 => k_is
    case hc20 => k_is
    case hk20 => k_is
    case hz0 => k_is
    case hz1 => k_is
    case hz2 => k_is
    case hz3 => k_is
    case hz4 => k_is
    case hz5 => k_is
    case hz6 => k_is
    case hz7 => k_is
    case hz8 => k_is
    case hz9 => k_is
    case hz10 => k_is
    case hz11 => k_is
    case hz12 => k_is
    case hz13 => k_is
    case hz14 => k_is
    case hz15 => k_is
    case hz16 => k_is

