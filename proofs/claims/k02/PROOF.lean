import PyProof.Rows.All
import Wide.All
import OpenK.AllK
import Wide.FinOn
import HandS.ForMost
import HandS.IsInst
import HandS.CallLocal
import HandS.TupAny
import HandS.Zip
import HandS.Defaults
import HandS.More
import HandS.Wide
import HandS.Set
import HandS.SetFor
import HandS.DictComp
import KE.DataMinMax
import HandS.SortKw
import PyProof.ListStr
import PyProof.DictUpdate
import KE.KDictPairs
import HandS.HeadHook4
import KE.KStateDown
import HandS.Head0
import HandS.Head1
import HandS.Head2
import HandS.HeadEnd
import PySem.Challenge.RW_partdeeds_k02_right_parts
set_option Elab.async false
set_option linter.all false
set_option maxRecDepth 100000
set_option maxHeartbeats 1000000
/-! PD: readings of the hand layer over plain data: each value that a def meets is a datum D, the heap is hidden -/
namespace PD
open PySem L2

inductive D where
  | non | bl (b : Bool) | int (i : Int) | str (x : Str) | adr (a : Addr) | ty (n : String) | tup (ds : List D) | lst (ds : List D) | dct (ks : List (Str × D)) | tpf (ds : List D)

mutual
inductive Rel (K : PySem.W.Frag) (G : Hp) : V → D → Prop
  | non : Rel K G .non .non
  | bl {b} : Rel K G (.bl b) (.bl b)
  | int {i} : Rel K G (.int i) (.int i)
  | str {x} : Rel K G (.str x) (.str x)
  | adr {a} : Rel K G (.ref a) (.adr a)
  | ty {n} : Rel K G (.ty n) (.ty n)
  | tup {a vs ds} : SqT K G a vs → RelL K G vs ds → Rel K G (.ref a) (.tup ds)
  | lst {a vs ds} : G a = some (.lst vs) → RelL K G vs ds → Rel K G (.ref a) (.lst ds)
  | dct {a kvs ks} : G a = some (.dK kvs) → RelK K G kvs ks → Rel K G (.ref a) (.dct ks)
  | tpf {a o vs ds} : G a = some (.frz o (.tup vs)) → o.dict = none → RelL K G vs ds → Rel K G (.ref a) (.tpf ds)
inductive RelL (K : PySem.W.Frag) (G : Hp) : List V → List D → Prop
  | nil : RelL K G [] []
  | cons {v d vs ds} : Rel K G v d → RelL K G vs ds → RelL K G (v :: vs) (d :: ds)
inductive RelK (K : PySem.W.Frag) (G : Hp) : List (Key × V) → List (Str × D) → Prop
  | nil : RelK K G [] []
  | cons {k v d vs ds} : Rel K G v d → RelK K G vs ds → RelK K G ((.inr k, v) :: vs) ((k, d) :: ds)
end

theorem Same.tseq {K : PySem.W.Frag} {H H' : Hp} {a : Addr} {xs : List V} (e : Same H H') (h : SqT K H a xs) : SqT K H' a xs := by
  rcases h with (h | ⟨o, h⟩) | h
  · exact .inl (.inl (e _ _ h))
  · exact .inl (.inr ⟨o, e _ _ h⟩)
  · exact .inr h

section
variable {K : PySem.W.Frag} {G G' : Hp}
mutual
theorem Rel.mono (e : Same G G') {v : V} {d : D} : Rel K G v d → Rel K G' v d
  | .non => .non
  | .bl => .bl
  | .int => .int
  | .str => .str
  | .adr => .adr
  | .ty => .ty
  | .tup h r => .tup (Same.tseq e h) (RelL.mono e r)
  | .lst h r => .lst (e _ _ h) (RelL.mono e r)
  | .dct h r => .dct (e _ _ h) (RelK.mono e r)
  | .tpf h n r => .tpf (e _ _ h) n (RelL.mono e r)
theorem RelL.mono (e : Same G G') {v : List V} {d : List D} : RelL K G v d → RelL K G' v d
  | .nil => .nil
  | .cons h r => .cons (Rel.mono e h) (RelL.mono e r)
theorem RelK.mono (e : Same G G') {v : List (Key × V)} {d : List (Str × D)} : RelK K G v d → RelK K G' v d
  | .nil => .nil
  | .cons h r => .cons (Rel.mono e h) (RelK.mono e r)
end
theorem RelL.length {vs : List V} {ds : List D} : RelL K G vs ds → vs.length = ds.length
  | .nil => rfl
  | .cons _ r => congrArg (· + 1) r.length
theorem RelL.get : ∀ {vs : List V} {ds : List D} {i : Nat} {v : V}, RelL K G vs ds → vs[i]? = some v → ∃ d, ds[i]? = some d ∧ Rel K G v d
  | _, _, _, _, .nil, e => by simp at e
  | _, _, 0, _, .cons r _, e => by simp at e; subst e; exact ⟨_, rfl, r⟩
  | _, _, i + 1, x, .cons _ t, e => by
    obtain ⟨u, h1, h2⟩ := RelL.get (i := i) (v := x) t (by simpa using e)
    exact ⟨u, by simpa using h1, h2⟩
theorem RelL.getD : ∀ {vs : List V} {ds : List D} {i : Nat} {d : D}, RelL K G vs ds → ds[i]? = some d → ∃ v, vs[i]? = some v ∧ Rel K G v d
  | _, _, _, _, .nil, e => by simp at e
  | _, _, 0, _, .cons r _, e => by simp at e; subst e; exact ⟨_, rfl, r⟩
  | _, _, i + 1, x, .cons _ t, e => by
    obtain ⟨u, h1, h2⟩ := RelL.getD (i := i) (d := x) t (by simpa using e)
    exact ⟨u, by simpa using h1, h2⟩
theorem RelL.append : ∀ {vs ws : List V} {ds es : List D}, RelL K G vs ds → RelL K G ws es → RelL K G (vs ++ ws) (ds ++ es)
  | _, _, _, _, .nil, h => h
  | _, _, _, _, .cons r t, h => .cons r (RelL.append t h)
theorem RelL.take : ∀ {vs : List V} {ds : List D} (n : Nat), RelL K G vs ds → RelL K G (vs.take n) (ds.take n)
  | _, _, 0, _ => .nil
  | _, _, _ + 1, .nil => .nil
  | _, _, n + 1, .cons r t => .cons r (RelL.take n t)
theorem RelL.drop : ∀ {vs : List V} {ds : List D} (n : Nat), RelL K G vs ds → RelL K G (vs.drop n) (ds.drop n)
  | _, _, 0, h => h
  | _, _, _ + 1, .nil => .nil
  | _, _, n + 1, .cons r t => RelL.drop n t
end

/-! ### the state of the draws: two lists that change -/
def HSt (hs : Option (Addr × Addr)) (G H : Hp) : Prop := match hs with
  | none => True
  | some (ah, as) => ah ≠ as ∧ G ah = none ∧ G as = none ∧ ∃ (m k : Int) (ns : List Int), H ah = some (.lst [.int m, .ref as, .int k]) ∧ H as = some (.lst (ns.map V.int)) ∧ ns.length ≤ 63 ∧ 0 ≤ k ∧ 0 ≤ m ∧ m < 2147483647
def Outs (hs : Option (Addr × Addr)) (a : Addr) : Prop := match hs with
  | none => True
  | some (ah, as) => a ≠ ah ∧ a ≠ as

structure Step (hs : Option (Addr × Addr)) (G H G' H' : Hp) : Prop where
  frm : ∀ a o, Outs hs a → H a = some o → H' a = some o
  exg : Same G G'
  sub : Same G' H'
  new : ∀ a o, G' a = some o → G a = none → H a = none
  st : HSt hs G' H'
section
variable {hs : Option (Addr × Addr)} {G H G' H' G'' H'' : Hp}
theorem not_outs {a : Addr} (h : HSt hs G H) (n : ¬ Outs hs a) : G a = none := by
  cases hs with
  | none => exact absurd trivial n
  | some q =>
    obtain ⟨ah, as⟩ := q
    obtain ⟨_, h1, h2, _⟩ := h
    by_cases e : a = ah
    · rw [e]; exact h1
    · by_cases e2 : a = as
      · rw [e2]; exact h2
      · exact absurd ⟨e, e2⟩ n
theorem Step.refl (s : Same G H) (h : HSt hs G H) : Step hs G H G H := ⟨fun _ _ _ e => e, Same.refl G, s, fun a o e n => (by rw [n] at e; cases e), h⟩
theorem Step.trans (a : Step hs G H G' H') (b : Step hs G' H' G'' H'') : Step hs G H G'' H'' := by
  refine ⟨fun x o q e => b.frm x o q (a.frm x o q e), a.exg.trans b.exg, b.sub, fun x o e n => ?_, b.st⟩
  cases hg : G' x with
  | some u => exact a.new x u hg n
  | none =>
    have h1 := b.new x o e hg
    cases hh : H x with
    | none => rfl
    | some u =>
      by_cases q : Outs hs x
      · have := a.frm x u q hh
        rw [this] at h1; cases h1
      · have := not_outs b.st q
        rw [this] at e; cases e
/-- a new object that stays: it goes into the ghost heap -/
theorem Step.alloc (s : Same G H) (h : HSt hs G H) {p : Addr} {o : HO} (hp : H p = none) : Step hs G H (upd G p o) (upd H p o) := by
  have gp : G p = none := Same.free s hp
  have n : ∀ a u, H a = some u → a ≠ p := fun a u e => ne_of_none e hp
  refine ⟨fun a u _ e => by rw [upd_ne (n a u e)]; exact e, fun a u e => by rw [upd_ne (ne_of_none e gp)]; exact e, fun a u e => ?_, fun a u e n' => ?_, ?_⟩
  · by_cases q : a = p
    · rw [q] at e ⊢; rw [upd_same] at e ⊢; exact e
    · rw [upd_ne q] at e ⊢; exact s a u e
  · by_cases q : a = p
    · rw [q]; exact hp
    · rw [upd_ne q, n'] at e; cases e
  · cases hs with
    | none => trivial
    | some q =>
      obtain ⟨ah, as⟩ := q
      obtain ⟨h0, h1, h2, m, k, ns, h3, h4, h5⟩ := h
      refine ⟨h0, ?_, ?_, m, k, ns, ?_, ?_, h5⟩
      · rw [upd_ne (n _ _ h3)]; exact h1
      · rw [upd_ne (n _ _ h4)]; exact h2
      · rw [upd_ne (n _ _ h3)]; exact h3
      · rw [upd_ne (n _ _ h4)]; exact h4
/-- a new object that may still change: it stays outside the ghost heap -/
theorem Step.fresh (s : Same G H) (h : HSt hs G H) {p : Addr} {o : HO} (hp : H p = none) : Step hs G H G (upd H p o) := by
  have n : ∀ a u, H a = some u → a ≠ p := fun a u e => ne_of_none e hp
  refine ⟨fun a u _ e => by rw [upd_ne (n a u e)]; exact e, Same.refl G, fun a u e => by rw [upd_ne (n a u (s a u e))]; exact s a u e, fun a u e n' => (by rw [n'] at e; cases e), ?_⟩
  cases hs with
  | none => trivial
  | some q =>
    obtain ⟨ah, as⟩ := q
    obtain ⟨h0, h1, h2, m, k, ns, h3, h4, h5⟩ := h
    refine ⟨h0, h1, h2, m, k, ns, ?_, ?_, h5⟩
    · rw [upd_ne (n _ _ h3)]; exact h3
    · rw [upd_ne (n _ _ h4)]; exact h4
end

/-! ### slots -/
inductive Sl where
  | un | d (x : D) | own (ds : List D)
def SlR (K : PySem.W.Frag) (hs : Option (Addr × Addr)) (H0 G H : Hp) (v : Option V) : Sl → Prop
  | .un => True
  | .d x => ∃ u, v = some u ∧ Rel K G u x
  | .own ds => ∃ p vs, v = some (.ref p) ∧ H0 p = none ∧ Outs hs p ∧ G p = none ∧ H p = some (.lst vs) ∧ RelL K G vs ds
structure EnvR (K : PySem.W.Frag) (hs : Option (Addr × Addr)) (H0 G H : Hp) (σ : L2.St) (ρ : List Sl) : Prop where
  len : σ.length = ρ.length
  at_ : ∀ (i : Nat) (s : Sl), ρ[i]? = some s → ∃ v, σ[i]? = some v ∧ SlR K hs H0 G H v s
  apart : ∀ (i j : Nat) (ds es : List D) (p : Addr), ρ[i]? = some (.own ds) → ρ[j]? = some (.own es) → i ≠ j → σ[i]? = some (some (.ref p)) → σ[j]? ≠ some (some (.ref p))
section
variable {K : PySem.W.Frag} {hs : Option (Addr × Addr)} {H0 G H G' H' : Hp} {σ : L2.St} {ρ : List Sl}
theorem SlR.step {v : Option V} {s : Sl} (e : Step hs G H G' H') (h : SlR K hs H0 G H v s) : SlR K hs H0 G' H' v s := by
  cases s with
  | un => trivial
  | d x => obtain ⟨u, h1, h2⟩ := h; exact ⟨u, h1, h2.mono e.exg⟩
  | own ds =>
    obtain ⟨p, vs, h1, h2, h3, h4, h5, h6⟩ := h
    refine ⟨p, vs, h1, h2, h3, ?_, e.frm p _ h3 h5, h6.mono e.exg⟩
    cases q : G' p with
    | none => rfl
    | some o =>
      have := e.new p o q h4
      rw [h5] at this; cases this
theorem EnvR.step (e : Step hs G H G' H') (h : EnvR K hs H0 G H σ ρ) : EnvR K hs H0 G' H' σ ρ :=
  ⟨h.len, fun i s q => let ⟨v, a, b⟩ := h.at_ i s q; ⟨v, a, b.step e⟩, h.apart⟩
theorem EnvR.var {i : Nat} {x : D} (h : EnvR K hs H0 G H σ ρ) (e : ρ[i]? = some (.d x)) : ∃ v, σ[i]? = some (some v) ∧ Rel K G v x := by
  obtain ⟨v, a, u, rfl, r⟩ := h.at_ i _ e
  exact ⟨u, a, r⟩
/-- a slot gets a datum, or is forgotten -/
theorem EnvR.set {i : Nat} {v : Option V} {s : Sl} (h : EnvR K hs H0 G H σ ρ) (hs' : SlR K hs H0 G H v s) (no : ∀ ds, s ≠ .own ds) : EnvR K hs H0 G H (σ.set i v) (ρ.set i s) := by
  refine ⟨by rw [List.length_set, List.length_set]; exact h.len, fun j t q => ?_, fun j k ds es p q1 q2 ne e1 e2 => ?_⟩
  · by_cases e : i = j
    · subst e
      rw [List.getElem?_set] at q
      rw [List.getElem?_set]
      simp only [if_true] at q ⊢
      split at q
      · rename_i hl
        have hl' : i < σ.length := by rw [h.len]; exact hl
        rw [if_pos hl']
        cases q
        exact ⟨v, rfl, hs'⟩
      · cases q
    · rw [List.getElem?_set_ne e] at q ⊢
      exact h.at_ j t q
  · by_cases a : i = j
    · subst a
      rw [List.getElem?_set] at q1
      simp only [if_true] at q1
      split at q1
      · cases q1; exact no _ rfl
      · cases q1
    · by_cases b : i = k
      · subst b
        rw [List.getElem?_set] at q2
        simp only [if_true] at q2
        split at q2
        · cases q2; exact no _ rfl
        · cases q2
      · rw [List.getElem?_set_ne a] at q1 e1
        rw [List.getElem?_set_ne b] at q2 e2
        exact h.apart j k ds es p q1 q2 ne e1 e2
end
end PD
set_option Elab.async false
set_option linter.all false
set_option maxRecDepth 100000
set_option maxHeartbeats 1000000
namespace PD
open PySem L2

structure Fr (hs : Option (Addr × Addr)) (G H : Hp) : Prop where
  sub : Same G H
  st : HSt hs G H
theorem Step.fr {hs : Option (Addr × Addr)} {G H G' H' : Hp} (s : Step hs G H G' H') : Fr hs G' H' := ⟨s.sub, s.st⟩
theorem Fr.refl {hs : Option (Addr × Addr)} {G H : Hp} (f : Fr hs G H) : Step hs G H G H := Step.refl f.sub f.st
theorem Fr.none {hs : Option (Addr × Addr)} {G H : Hp} (f : Fr hs G H) : Fr Option.none G H := ⟨f.sub, trivial⟩
theorem Fr.outs {hs : Option (Addr × Addr)} {G H : Hp} (f : Fr hs G H) {p : Addr} (hp : H p = Option.none) : Outs hs p := by
  cases hs with
  | none => trivial
  | some q =>
    obtain ⟨ah, as⟩ := q
    obtain ⟨_, _, _, m, k, ns, h3, h4, _⟩ := f.st
    exact ⟨(ne_of_none h3 hp).symm, (ne_of_none h4 hp).symm⟩
/-- a callee that leaves the draws alone -/
theorem Step.lift {hs : Option (Addr × Addr)} {G H G' H' : Hp} (f : Fr hs G H) (s : Step Option.none G H G' H') : Step hs G H G' H' := by
  refine ⟨fun a o _ e => s.frm a o trivial e, s.exg, s.sub, s.new, ?_⟩
  cases hs with
  | none => trivial
  | some q =>
    obtain ⟨ah, as⟩ := q
    obtain ⟨h0, h1, h2, m, k, ns, h3, h4, h5⟩ := f.st
    refine ⟨h0, ?_, ?_, m, k, ns, s.frm _ _ trivial h3, s.frm _ _ trivial h4, h5⟩
    · cases q : G' ah with
      | none => rfl
      | some o =>
        have := s.new ah o q h1
        rw [h3] at this; cases this
    · cases q : G' as with
      | none => rfl
      | some o =>
        have := s.new as o q h2
        rw [h4] at this; cases this
/-- what has been made stays from now on as it is -/
theorem Step.freeze {hs : Option (Addr × Addr)} {G H G' H' : Hp} {p : Addr} {o : HO} (s : Step hs G H G' H') (h0 : H p = Option.none) (ho : Outs hs p) (hg : G' p = Option.none) (hp : H' p = some o) : Step hs G H (upd G' p o) H' := by
  refine ⟨s.frm, fun a u e => ?_, fun a u e => ?_, fun a u e n => ?_, ?_⟩
  · have q := s.exg a u e
    rw [upd_ne (ne_of_none q hg)]; exact q
  · by_cases q : a = p
    · rw [q] at e ⊢; rw [upd_same] at e; rw [hp]; exact e
    · rw [upd_ne q] at e; exact s.sub a u e
  · by_cases q : a = p
    · rw [q]; exact h0
    · rw [upd_ne q] at e; exact s.new a u e n
  · have h := s.st
    cases hs with
    | none => trivial
    | some q =>
      obtain ⟨ah, as⟩ := q
      obtain ⟨h0, h1, h2, h3⟩ := h
      obtain ⟨o1, o2⟩ := ho
      exact ⟨h0, by rw [upd_ne o1.symm]; exact h1, by rw [upd_ne o2.symm]; exact h2, h3⟩
/-- what is one's own changes -/
theorem Step.mut {hs : Option (Addr × Addr)} {G H G' H' : Hp} {p : Addr} {o : HO} (s : Step hs G H G' H') (h0 : H p = Option.none) (ho : Outs hs p) (hg : G' p = Option.none) : Step hs G H G' (upd H' p o) := by
  refine ⟨fun a u q e => by rw [upd_ne (ne_of_none e h0)]; exact s.frm a u q e, s.exg, fun a u e => by rw [upd_ne (ne_of_none e hg)]; exact s.sub a u e, s.new, ?_⟩
  have h := s.st
  cases hs with
  | none => trivial
  | some q =>
    obtain ⟨ah, as⟩ := q
    obtain ⟨h0, h1, h2, m, k, ns, h3, h4, h5⟩ := h
    obtain ⟨o1, o2⟩ := ho
    exact ⟨h0, h1, h2, m, k, ns, by rw [upd_ne o1.symm]; exact h3, by rw [upd_ne o2.symm]; exact h4, h5⟩

/-! ### the judgements -/
section
variable (K : PySem.W.Frag) (hs : Option (Addr × Addr))
def dE (t : TE) (ρ : List Sl) (k : D → Prop) : Prop := ∀ (H0 : Hp) (σ : L2.St) (G H : Hp) (Q : VK), Fr hs G H → EnvR K hs H0 G H σ ρ → (∀ v G' H' d, Step hs G H G' H' → Rel K G' v d → k d → Q v H') → t σ H Q
def dL (t : TE) (ρ : List Sl) (k : List D → Prop) : Prop := ∀ (H0 : Hp) (σ : L2.St) (G H : Hp) (Q : VK), Fr hs G H → EnvR K hs H0 G H σ ρ →
  (∀ p vs G' H' ds, Step hs G H G' H' → H p = none → G' p = none → H' p = some (.lst vs) → RelL K G' vs ds → k ds → Q (.ref p) H') → t σ H Q
def dT (t : TT) (ρ : List Sl) (k : Bool → Prop) : Prop := ∀ (H0 : Hp) (σ : L2.St) (G H : Hp) (Q : Bool → Hp → Prop), Fr hs G H → EnvR K hs H0 G H σ ρ → (∀ b G' H', Step hs G H G' H' → k b → Q b H') → t σ H Q
def dA (t : TA) (ρ : List Sl) (k : List D → Prop) : Prop := ∀ (H0 : Hp) (σ : L2.St) (G H : Hp) (Q : List V → Hp → Prop), Fr hs G H → EnvR K hs H0 G H σ ρ → (∀ vs G' H' ds, Step hs G H G' H' → RelL K G' vs ds → k ds → Q vs H') → t σ H Q
def dO (t : TO) (ρ : List Sl) (k : Option Int → Prop) : Prop := ∀ (H0 : Hp) (σ : L2.St) (G H : Hp) (Q : Option Int → Hp → Prop), Fr hs G H → EnvR K hs H0 G H σ ρ → (∀ i G' H', Step hs G H G' H' → k i → Q i H') → t σ H Q
def dR (r : R2) (x y : D) (k : D → Prop) : Prop := ∀ (G H : Hp) (v u : V) (Q : VK), Fr hs G H → Rel K G v x → Rel K G u y → (∀ z G' H' d, Step hs G H G' H' → Rel K G' z d → k d → Q z H') → r v u H Q
def dU (r : V → Hp → VK → Prop) (x : D) (k : D → Prop) : Prop := ∀ (G H : Hp) (v : V) (Q : VK), Fr hs G H → Rel K G v x → (∀ z G' H' d, Step hs G H G' H' → Rel K G' z d → k d → Q z H') → r v H Q
def dC (r : List V → Hp → VK → Prop) (xs : List D) (k : D → Prop) : Prop := ∀ (G H : Hp) (vs : List V) (Q : VK), Fr hs G H → RelL K G vs xs → (∀ z G' H' d, Step hs G H G' H' → Rel K G' z d → k d → Q z H') → r vs H Q
def Yields (J : It) (G : Hp) (ds : List D) : Prop := ∀ (G' H' : Hp), Same G G' → Fr hs G' H' → ∀ i : Nat, (i < ds.length → J.go i H' ∧ ∀ x H'', J.yld i H' x H'' → ∃ G'', Step hs G' H' G'' H'' ∧ ∀ d, ds[i]? = some d → Rel K G'' x d) ∧ (ds.length ≤ i → J.stop i H')
def dI (t : TI) (ρ : List Sl) (k : List D → Prop) : Prop := ∀ (H0 : Hp) (σ : L2.St) (G H : Hp) (R : It → Hp → Prop), Fr hs G H → EnvR K hs H0 G H σ ρ → (∀ J G' H' ds, Step hs G H G' H' → Yields K hs J G' ds → k ds → R J H') → t σ H R
def dG (g : TG) (js : Option (List Nat)) (d : D) (ρ : List Sl) (k : List Sl → Prop) : Prop := ∀ (H0 : Hp) (σ : L2.St) (G H : Hp) (v : V) (Q : L2.St → Hp → Prop), Fr hs G H → EnvR K hs H0 G H σ ρ → Rel K G v d →
  (∀ σ' ρ', EnvR K hs H0 G H σ' ρ' → (∀ l, js = some l → wipe σ' l = wipe σ l) → k ρ' → Q σ' H) → g v σ H Q
def dGs (g : TGs) (js : Option (List Nat)) (ds : List D) (ρ : List Sl) (k : List Sl → Prop) : Prop := ∀ (H0 : Hp) (σ : L2.St) (G H : Hp) (vs : List V) (Q : L2.St → Hp → Prop), Fr hs G H → EnvR K hs H0 G H σ ρ → RelL K G vs ds →
  (∀ σ' ρ', EnvR K hs H0 G H σ' ρ' → (∀ l, js = some l → wipe σ' l = wipe σ l) → k ρ' → Q σ' H) → g vs σ H Q
end
/-- what is wanted behind a statement -/
structure DEnds where
  nx : List Sl → Prop
  rt : D → Prop
  bk : List Sl → Prop := fun _ => False
  ct : List Sl → Prop := fun _ => False
structure Ends' (K : PySem.W.Frag) (hs : Option (Addr × Addr)) (G0 H0 Gb : Hp) (E : DEnds) (D : Ends) : Prop where
  nx : ∀ σ G H ρ, Step hs G0 H0 G H → Same Gb G → EnvR K hs H0 G H σ ρ → E.nx ρ → D.nx σ H
  rt : ∀ v G H d, Step hs G0 H0 G H → Rel K G v d → E.rt d → D.rt v H
  bk : ∀ σ G H ρ, Step hs G0 H0 G H → Same Gb G → EnvR K hs H0 G H σ ρ → E.bk ρ → D.bk σ H
  ct : ∀ σ G H ρ, Step hs G0 H0 G H → Same Gb G → EnvR K hs H0 G H σ ρ → E.ct ρ → D.ct σ H
/-- G0, H0: at the def's entry; Gb: what has stayed since the loop around began -/
def dS (K : PySem.W.Frag) (hs : Option (Addr × Addr)) (t : TS) (ρ : List Sl) (E : DEnds) : Prop := ∀ (G0 H0 Gb : Hp) (σ : L2.St) (G H : Hp) (D : Ends), Step hs G0 H0 G H → Same Gb G → EnvR K hs H0 G H σ ρ → Ends' K hs G0 H0 Gb E D → t D σ H

/-! ### expressions -/
def toV : D → Option V
  | .non => some .non
  | .bl b => some (.bl b)
  | .int i => some (.int i)
  | .str x => some (.str x)
  | .ty n => some (.ty n)
  | _ => none
def toD : V → Option D
  | .non => some .non
  | .bl b => some (.bl b)
  | .int i => some (.int i)
  | .str x => some (.str x)
  | .ref a => some (.adr a)
  | .ty n => some (.ty n)
  | _ => none
theorem rel_toD {K : PySem.W.Frag} {G : Hp} {v : V} {d : D} (h : toD v = some d) : Rel K G v d := by
  cases v <;> simp only [toD, Option.some.injEq, reduceCtorEq] at h <;> subst h <;> constructor
theorem of_rel {K : PySem.W.Frag} {G : Hp} {v u : V} {d : D} (r : Rel K G v d) (h : toV d = some u) : v = u := by
  cases r <;> simp only [toV, Option.some.injEq, reduceCtorEq] at h <;> exact h
theorem rel_toV {K : PySem.W.Frag} {G : Hp} {v : V} {d : D} (h : toV d = some v) : Rel K G v d := by
  cases d <;> simp only [toV, Option.some.injEq, reduceCtorEq] at h <;> subst h <;> constructor
theorem rel_int {K : PySem.W.Frag} {G : Hp} {v : V} {i : Int} (r : Rel K G v (.int i)) : v = .int i := by cases r; rfl
theorem rel_bl {K : PySem.W.Frag} {G : Hp} {v : V} {i : Bool} (r : Rel K G v (.bl i)) : v = .bl i := by cases r; rfl
theorem rel_str {K : PySem.W.Frag} {G : Hp} {v : V} {i : Str} (r : Rel K G v (.str i)) : v = .str i := by cases r; rfl
theorem rel_tup {K : PySem.W.Frag} {G : Hp} {v : V} {ds : List D} (r : Rel K G v (.tup ds)) : ∃ a vs, v = .ref a ∧ SqT K G a vs ∧ RelL K G vs ds := by cases r with | tup h r => exact ⟨_, _, rfl, h, r⟩
theorem rel_lst {K : PySem.W.Frag} {G : Hp} {v : V} {ds : List D} (r : Rel K G v (.lst ds)) : ∃ a vs, v = .ref a ∧ G a = some (.lst vs) ∧ RelL K G vs ds := by cases r with | lst h r => exact ⟨_, _, rfl, h, r⟩
theorem rel_dct {K : PySem.W.Frag} {G : Hp} {v : V} {ks : List (Str × D)} (r : Rel K G v (.dct ks)) : ∃ a kvs, v = .ref a ∧ G a = some (.dK kvs) ∧ RelK K G kvs ks := by cases r with | dct h r => exact ⟨_, _, rfl, h, r⟩
theorem rel_adr {K : PySem.W.Frag} {G : Hp} {v : V} {a : Addr} (r : Rel K G v (.adr a)) : v = .ref a := by cases r; rfl

section
variable {K : PySem.W.Frag} {hs : Option (Addr × Addr)} {ρ : List Sl} {k : D → Prop} {ta tb tc te : TE} {t u : TT} {r : R2} {kb : Bool → Prop}
theorem d_var {i : Nat} {x : D} (e : ρ[i]? = some (.d x)) (q : k x) : dE K hs (tVar i) ρ k := fun H0 σ G H Q f R z => by
  obtain ⟨v, h1, h2⟩ := R.var e
  exact ⟨v, h1, z v G H x f.refl h2 q⟩
theorem d_c {v : V} {x : D} (e : toD v = some x) (q : k x) : dE K hs (tC v) ρ k := fun H0 σ G H Q f R z => z v G H x f.refl (rel_toD e) q
/-- a constant of the module -/
theorem d_cK {v : V} {x : D} (e : ∀ G, Rel K G v x) (q : k x) : dE K hs (tC v) ρ k := fun H0 σ G H Q f R z => z v G H x f.refl (e G) q
theorem d_op (h : dE K hs ta ρ fun x => dE K hs tb ρ fun y => dR K hs r x y k) : dE K hs (tOp r ta tb) ρ k := fun H0 σ G H Q f R z =>
  h H0 σ G H _ f R fun v G1 H1 x s1 r1 h1 => h1 H0 σ G1 H1 _ s1.fr (R.step s1) fun w G2 H2 y s2 r2 h2 => h2 G2 H2 v w Q s2.fr (r1.mono s2.exg) r2 fun z' G3 H3 d s3 r3 q => z z' G3 H3 d ((s1.trans s2).trans s3) r3 q
theorem d_un {r : V → Hp → VK → Prop} (h : dE K hs ta ρ fun x => dU K hs r x k) : dE K hs (tUn r ta) ρ k := fun H0 σ G H Q f R z =>
  h H0 σ G H _ f R fun v G1 H1 x s1 r1 h1 => h1 G1 H1 v Q s1.fr r1 fun z' G3 H3 d s3 r3 q => z z' G3 H3 d (s1.trans s3) r3 q
theorem d_chain {r r' : R2} (h : dE K hs ta ρ fun x => dE K hs tb ρ fun y => dR K hs r x y fun z => ∃ b, z = .bl b ∧ (b = true → dE K hs tc ρ fun w => dR K hs r' y w k) ∧ (b = false → k (.bl false))) : dE K hs (tChain r r' ta tb tc) ρ k := fun H0 σ G H Q f R z =>
  h H0 σ G H _ f R fun v G1 H1 x s1 r1 h1 => h1 H0 σ G1 H1 _ s1.fr (R.step s1) fun w G2 H2 y s2 r2 h2 => h2 G2 H2 v w _ s2.fr (r1.mono s2.exg) r2 fun z' G3 H3 d s3 r3 ⟨b, e, q1, q2⟩ => by
    subst e
    refine ⟨b, rel_bl r3, ?_⟩
    cases b with
    | true =>
      rw [if_pos rfl]
      exact q1 rfl H0 σ G3 H3 _ s3.fr (R.step ((s1.trans s2).trans s3)) fun w' G4 H4 y' s4 r4 h4 => h4 G4 H4 w w' Q s4.fr (r2.mono (s3.trans s4).exg) r4 fun z'' G5 H5 d s5 r5 q => z z'' G5 H5 d ((((s1.trans s2).trans s3).trans s4).trans s5) r5 q
    | false =>
      rw [if_neg Bool.false_ne_true]
      exact z _ G3 H3 _ ((s1.trans s2).trans s3) .bl (q2 rfl)
theorem d_test (h : dE K hs te ρ fun x => ∃ b, x = .bl b ∧ kb b) : dT K hs (tTest te) ρ kb := fun H0 σ G H Q f R z =>
  h H0 σ G H _ f R fun v G1 H1 x s1 r1 ⟨b, e, q⟩ => by
    subst e
    exact ⟨b, rel_bl r1, z b G1 H1 s1 q⟩
theorem d_tB (h : dE K hs te ρ fun x => ∃ b, x = .bl b ∧ kb b) : dT K hs (tB te) ρ kb := fun H0 σ G H Q f R z =>
  h H0 σ G H _ f R fun v G1 H1 x s1 r1 ⟨b, e, q⟩ => by
    subst e
    exact ⟨b, rel_bl r1, z b G1 H1 s1 q⟩
theorem d_and (h : dT K hs t ρ fun b => (b = true → dT K hs u ρ kb) ∧ (b = false → kb false)) : dT K hs (tAnd t u) ρ kb := fun H0 σ G H Q f R z =>
  h H0 σ G H _ f R fun b G1 H1 s1 ⟨q1, q2⟩ => by
    cases b with
    | true => rw [if_pos rfl]; exact q1 rfl H0 σ G1 H1 _ s1.fr (R.step s1) fun b G2 H2 s2 q => z b G2 H2 (s1.trans s2) q
    | false => rw [if_neg Bool.false_ne_true]; exact z _ G1 H1 s1 (q2 rfl)
theorem d_or (h : dT K hs t ρ fun b => (b = true → kb true) ∧ (b = false → dT K hs u ρ kb)) : dT K hs (tOr t u) ρ kb := fun H0 σ G H Q f R z =>
  h H0 σ G H _ f R fun b G1 H1 s1 ⟨q1, q2⟩ => by
    cases b with
    | false => rw [if_neg Bool.false_ne_true]; exact q2 rfl H0 σ G1 H1 _ s1.fr (R.step s1) fun b G2 H2 s2 q => z b G2 H2 (s1.trans s2) q
    | true => rw [if_pos rfl]; exact z _ G1 H1 s1 (q1 rfl)
theorem d_not (h : dT K hs t ρ fun b => kb (!b)) : dT K hs (tNot t) ρ kb := fun H0 σ G H Q f R z =>
  h H0 σ G H _ f R fun b G1 H1 s1 q => z _ G1 H1 s1 q
theorem d_yes (h : kb true) : dT K hs tYes ρ kb := fun H0 σ G H Q f R z => z true G H f.refl h
theorem d_andV (h : dE K hs ta ρ fun x => ∃ b, x = .bl b ∧ (b = true → dE K hs tb ρ k) ∧ (b = false → k (.bl false))) : dE K hs (tAndV ta tb) ρ k := fun H0 σ G H Q f R z =>
  h H0 σ G H _ f R fun v G1 H1 x s1 r1 ⟨b, e, q1, q2⟩ => by
    subst e
    refine ⟨b, rel_bl r1, ?_⟩
    cases b with
    | true => rw [if_pos rfl]; exact q1 rfl H0 σ G1 H1 _ s1.fr (R.step s1) fun b G2 H2 d s2 r2 q => z b G2 H2 d (s1.trans s2) r2 q
    | false => rw [if_neg Bool.false_ne_true]; exact z _ G1 H1 _ s1 .bl (q2 rfl)
theorem d_orV (h : dE K hs ta ρ fun x => ∃ b, x = .bl b ∧ (b = true → k (.bl true)) ∧ (b = false → dE K hs tb ρ k)) : dE K hs (tOrV ta tb) ρ k := fun H0 σ G H Q f R z =>
  h H0 σ G H _ f R fun v G1 H1 x s1 r1 ⟨b, e, q1, q2⟩ => by
    subst e
    refine ⟨b, rel_bl r1, ?_⟩
    cases b with
    | false => rw [if_neg Bool.false_ne_true]; exact q2 rfl H0 σ G1 H1 _ s1.fr (R.step s1) fun b G2 H2 d s2 r2 q => z b G2 H2 d (s1.trans s2) r2 q
    | true => rw [if_pos rfl]; exact z _ G1 H1 _ s1 .bl (q1 rfl)
theorem d_notV (h : dE K hs ta ρ fun x => ∃ b, x = .bl b ∧ k (.bl (!b))) : dE K hs (tNotV ta) ρ k := fun H0 σ G H Q f R z =>
  h H0 σ G H _ f R fun v G1 H1 x s1 r1 ⟨b, e, q⟩ => by
    subst e
    exact ⟨b, rel_bl r1, z _ G1 H1 _ s1 .bl q⟩
theorem d_ifE (h : dT K hs t ρ fun b => (b = true → dE K hs ta ρ k) ∧ (b = false → dE K hs tb ρ k)) : dE K hs (tIf t ta tb) ρ k := fun H0 σ G H Q f R z =>
  h H0 σ G H _ f R fun b G1 H1 s1 ⟨q1, q2⟩ => by
    cases b with
    | true => rw [if_pos rfl]; exact q1 rfl H0 σ G1 H1 _ s1.fr (R.step s1) fun b G2 H2 d s2 r2 q => z b G2 H2 d (s1.trans s2) r2 q
    | false => rw [if_neg Bool.false_ne_true]; exact q2 rfl H0 σ G1 H1 _ s1.fr (R.step s1) fun b G2 H2 d s2 r2 q => z b G2 H2 d (s1.trans s2) r2 q
variable {kl : List D → Prop} {tx : TA}
theorem d_nil (q : kl []) : dA K hs tNil ρ kl := fun H0 σ G H Q f R z => z [] G H [] f.refl .nil q
theorem d_cons (h : dE K hs ta ρ fun x => dA K hs tx ρ fun xs => kl (x :: xs)) : dA K hs (tCons ta tx) ρ kl := fun H0 σ G H Q f R z =>
  h H0 σ G H _ f R fun v G1 H1 x s1 r1 h1 => h1 H0 σ G1 H1 _ s1.fr (R.step s1) fun vs G2 H2 xs s2 r2 q => z (v :: vs) G2 H2 (x :: xs) (s1.trans s2) (.cons (r1.mono s2.exg) r2) q
theorem sz {n : Nat} (h : n ≤ 100000) : n ≤ sizeLine := Nat.le_trans h (by decide)
theorem d_tup (h : dA K hs tx ρ fun xs => xs.length ≤ 100000 ∧ k (.tup xs)) : dE K hs (tTup tx) ρ k := fun H0 σ G H Q f R z =>
  h H0 σ G H _ f R fun vs G1 H1 xs s1 r1 ⟨l, q⟩ => ⟨sz (by rw [r1.length]; exact l), fun p hp =>
    have s2 : Step hs G1 H1 _ _ := Step.alloc s1.sub s1.st hp
    z (.ref p) (upd G1 p (.tup vs)) (upd H1 p (.tup vs)) (.tup xs) (s1.trans s2) (.tup (.inl (.inl upd_same)) (r1.mono s2.exg)) q⟩
theorem l_lst (h : dA K hs tx ρ fun xs => xs.length ≤ 100000 ∧ kl xs) : dL K hs (tLst tx) ρ kl := fun H0 σ G H Q f R z =>
  h H0 σ G H _ f R fun vs G1 H1 xs s1 r1 ⟨l, q⟩ => ⟨sz (by rw [r1.length]; exact l), fun p hp => by
    have hH : H p = none := by
      cases e : H p with
      | none => rfl
      | some o =>
        by_cases ho : Outs hs p
        · rw [s1.frm p o ho e] at hp; cases hp
        · have h1 := f.outs (p := p)
          cases hs with
          | none => exact absurd trivial ho
          | some qq =>
            obtain ⟨ah, as⟩ := qq
            obtain ⟨_, _, _, m, k, ns, h3, h4, _⟩ := s1.st
            exact absurd ⟨(ne_of_none h3 hp).symm, (ne_of_none h4 hp).symm⟩ ho
    exact z p vs G1 (upd H1 p (.lst vs)) xs (s1.trans (Step.fresh s1.sub s1.st hp)) hH (Same.free s1.sub hp) upd_same r1 q⟩
theorem Step.back {G H G' H' : Hp} (s1 : Step hs G H G' H') {p : Addr} (hp : H' p = none) : H p = none := by
  cases e : H p with
  | none => rfl
  | some o =>
    by_cases ho : Outs hs p
    · rw [s1.frm p o ho e] at hp; cases hp
    · cases hs with
      | none => exact absurd trivial ho
      | some qq =>
        obtain ⟨ah, as⟩ := qq
        obtain ⟨_, _, _, m, k, ns, h3, h4, _⟩ := s1.st
        exact absurd ⟨(ne_of_none h3 hp).symm, (ne_of_none h4 hp).symm⟩ ho
/-- a new list that stays as it is -/
theorem d_ofL (h : dL K hs te ρ fun xs => k (.lst xs)) : dE K hs te ρ k := fun H0 σ G H Q f R z =>
  h H0 σ G H Q f R fun p vs G1 H1 xs s h0 g0 hp r q => by
    have s2 := s.freeze h0 (f.outs h0) g0 hp
    refine z (.ref p) _ H1 (.lst xs) s2 (.lst upd_same (r.mono ?_)) q
    intro a o e
    rw [upd_ne (ne_of_none e g0)]; exact e
theorem d_lst (h : dA K hs tx ρ fun xs => xs.length ≤ 100000 ∧ k (.lst xs)) : dE K hs (tLst tx) ρ k := d_ofL (l_lst h)
theorem d_cb {rc : List V → Hp → VK → Prop} (h : dA K hs tx ρ fun xs => dC K hs rc xs k) : dE K hs (tCB rc tx) ρ k := fun H0 σ G H Q f R z =>
  h H0 σ G H _ f R fun vs G1 H1 xs s1 r1 q => q G1 H1 vs Q s1.fr r1 fun z' G2 H2 d s2 r2 q2 => z z' G2 H2 d (s1.trans s2) r2 q2

/-! ### operators by data -/
theorem r_I0 {g : Int → Int → V} {i j : Int} {d : D} (e : toD (g i j) = some d) (q : k d) : dR K hs (rI0 g) (.int i) (.int j) k := fun G H v u Q f r1 r2 z =>
  ⟨i, j, rel_int r1, rel_int r2, z _ G H d f.refl (rel_toD e) q⟩
theorem r_I {C : Int → Int → Prop} {g : Int → Int → V} {i j : Int} {d : D} (e : toD (g i j) = some d) (c : C i j) (q : k d) : dR K hs (rI C g) (.int i) (.int j) k := fun G H v u Q f r1 r2 z =>
  ⟨i, j, rel_int r1, rel_int r2, c, z _ G H d f.refl (rel_toD e) q⟩
theorem u_I {g : Int → V} {i : Int} {d : D} (e : toD (g i) = some d) (q : k d) : dU K hs (rU g) (.int i) k := fun G H v Q f r1 z => ⟨i, rel_int r1, z _ G H d f.refl (rel_toD e) q⟩
theorem r_eq {x y : D} {u v : V} (ex : toV x = some u) (ey : toV y = some v) (sc : scal u v = true) (q : k (.bl (decide (u = v)))) : dR K hs rEq x y k := fun G H a b Q f r1 r2 z => by
  rw [of_rel r1 ex, of_rel r2 ey]
  exact ⟨sc, z _ G H _ f.refl .bl q⟩
theorem r_ne {x y : D} {u v : V} (ex : toV x = some u) (ey : toV y = some v) (sc : scal u v = true) (q : k (.bl (!decide (u = v)))) : dR K hs rNe x y k := fun G H a b Q f r1 r2 z => by
  rw [of_rel r1 ex, of_rel r2 ey]
  exact ⟨sc, z _ G H _ f.refl .bl q⟩
theorem str_eq {a b : Str} : decide (V.str a = V.str b) = decide (a = b) := by
  by_cases e : a = b
  · subst e; simp
  · rw [decide_eq_false e, decide_eq_false (fun h => e (V.str.inj h))]
theorem r_eqS {x y : Str} (q : k (.bl (decide (x = y)))) : dR K hs rEq (.str x) (.str y) k := r_eq rfl rfl rfl (by rw [str_eq]; exact q)
theorem r_neS {x y : Str} (q : k (.bl (!decide (x = y)))) : dR K hs rNe (.str x) (.str y) k := r_ne rfl rfl rfl (by rw [str_eq]; exact q)
theorem r_isN {x : D} (q : k (.bl (match x with | .non => true | _ => false))) : dR K hs (fun x y H Q => y = .non ∧ Q (.bl (decide (x = .non))) H) x .non k := fun G H a b Q f r1 r2 z => by
  refine ⟨by cases r2; rfl, z _ G H _ f.refl .bl ?_⟩
  cases r1 <;> exact q
theorem r_notN {x : D} (q : k (.bl (match x with | .non => false | _ => true))) : dR K hs (fun x y H Q => y = .non ∧ Q (.bl (!decide (x = .non))) H) x .non k := fun G H a b Q f r1 r2 z => by
  refine ⟨by cases r2; rfl, z _ G H _ f.refl .bl ?_⟩
  cases r1 <;> exact q
/-- an item -/
theorem atI_get {α : Type} {xs : List α} {i : Int} {j : Nat} {d : α} (e : i = (j : Int)) (h : xs[j]? = some d) : atI xs i = some d := by rw [e]; exact atI_nat h
theorem r_ixT {ds : List D} {i : Int} {d : D} (e : atI ds i = some d) (q : k d) : dR K hs (rIxT K) (.tup ds) (.int i) k := fun G H v u Q f r1 r2 z => by
  obtain ⟨a, vs, rfl, h, r⟩ := rel_tup r1
  have e' : ixN ds.length i = ixN vs.length i := by rw [r.length]
  unfold atI at e
  rw [e'] at e
  cases hj : ixN vs.length i with
  | none => rw [hj] at e; cases e
  | some j =>
    rw [hj] at e
    obtain ⟨w, h1, h2⟩ := r.getD (show ds[j]? = some d from e)
    exact ⟨a, vs, i, w, rfl, rel_int r2, Same.tseq f.sub h, (by unfold atI; rw [hj]; exact h1), z w G H d f.refl h2 q⟩
theorem r_ixL {ds : List D} {i : Int} {d : D} (e : atI ds i = some d) (q : k d) : dR K hs (rIxL K) (.lst ds) (.int i) k := fun G H v u Q f r1 r2 z => by
  obtain ⟨a, vs, rfl, h, r⟩ := rel_lst r1
  have e' : ixN ds.length i = ixN vs.length i := by rw [r.length]
  unfold atI at e
  rw [e'] at e
  cases hj : ixN vs.length i with
  | none => rw [hj] at e; cases e
  | some j =>
    rw [hj] at e
    obtain ⟨w, h1, h2⟩ := r.getD (show ds[j]? = some d from e)
    exact ⟨a, vs, i, w, rfl, rel_int r2, SqL.of (f.sub _ _ h), (by unfold atI; rw [hj]; exact h1), z w G H d f.refl h2 q⟩
theorem r_ix {x y : D} (h : dR K hs (rIxL K) x y k ∨ dR K hs (rIxT K) x y k) : dR K hs (rIx K) x y k := fun G H v u Q f r1 r2 z => by
  rcases h with h | h
  · exact .inl (h G H v u Q f r1 r2 z)
  · exact .inr (.inl (h G H v u Q f r1 r2 z))
def strsOf (ss : List Str) : List D := ss.map D.str
theorem rel_strs {G : Hp} : ∀ {vs : List V} {ss : List Str}, RelL K G vs (strsOf ss) → vs = ss.map V.str
  | _, [], .nil => rfl
  | _, s :: ss, .cons r t => by rw [rel_str r, rel_strs t]; rfl
theorem inV_str {s : Str} : ∀ {ss : List Str}, inV (.str s) (ss.map V.str) = decide (s ∈ ss)
  | [] => by simp [inV]
  | x :: ss => by
    have ih := inV_str (s := s) (ss := ss)
    unfold inV at ih ⊢
    rw [List.map_cons, List.any_cons, ih]
    show (x == s || decide (s ∈ ss)) = _
    rw [Bool.eq_iff_iff, Bool.or_eq_true, beq_iff_eq, decide_eq_true_iff, decide_eq_true_iff, List.mem_cons]
    exact ⟨fun h => h.elim (fun e => .inl e.symm) .inr, fun h => h.elim (fun e => .inl e.symm) .inr⟩
theorem flat_strs : ∀ {ss : List Str}, (ss.map V.str).all flatV = true
  | [] => rfl
  | _ :: ss => by rw [List.map_cons, List.all_cons, flat_strs]; rfl
theorem r_inT {neg : Bool} {s : Str} {ss : List Str} (q : k (.bl (if neg then !decide (s ∈ ss) else decide (s ∈ ss)))) : dR K hs (rIn K neg) (.str s) (.tup (strsOf ss)) k := fun G H v u Q f r1 r2 z => by
  obtain ⟨a, vs, rfl, h, r⟩ := rel_tup r2
  have e := rel_strs r
  subst e
  rw [rel_str r1]
  refine ⟨a, _, rfl, .inr (Same.tseq f.sub h), rfl, flat_strs, ?_⟩
  rw [inV_str]
  exact z _ G H _ f.refl .bl q
theorem r_inL {neg : Bool} {s : Str} {ss : List Str} (q : k (.bl (if neg then !decide (s ∈ ss) else decide (s ∈ ss)))) : dR K hs (rIn K neg) (.str s) (.lst (strsOf ss)) k := fun G H v u Q f r1 r2 z => by
  obtain ⟨a, vs, rfl, h, r⟩ := rel_lst r2
  have e := rel_strs r
  subst e
  rw [rel_str r1]
  refine ⟨a, _, rfl, .inl (SqL.of (f.sub _ _ h)), rfl, flat_strs, ?_⟩
  rw [inV_str]
  exact z _ G H _ f.refl .bl q
/-- t + u of tuples -/
theorem r_catA {xs ys : List D} (hl : xs.length + ys.length ≤ 100000) (q : k (.tup (xs ++ ys))) : dR K hs (rCatA K) (.tup xs) (.tup ys) k := fun G H v u Q f r1 r2 z => by
  obtain ⟨a, vs, rfl, h, r⟩ := rel_tup r1
  obtain ⟨b, us, rfl, h', r'⟩ := rel_tup r2
  refine ⟨a, b, vs, us, rfl, rfl, Same.tseq f.sub h, Same.tseq f.sub h', sz (by rw [r.length, r'.length]; exact hl), fun e => ?_, fun _ e => ?_, fun _ _ p hp => ?_⟩
  · subst e
    cases r
    exact z _ G H _ f.refl r2 q
  · subst e
    cases r'
    rw [List.append_nil] at q
    exact z _ G H _ f.refl r1 q
  · have s2 := Step.alloc (o := .tup (vs ++ us)) f.sub f.st hp
    exact z _ _ _ _ s2 (.tup (.inl (.inl upd_same)) ((r.append r').mono s2.exg)) q
/-- slices -/
theorem o_no {ko : Option Int → Prop} (q : ko none) : dO K hs tNoPart ρ ko := fun H0 σ G H Q f R z => z none G H f.refl q
theorem o_part {ko : Option Int → Prop} (h : dE K hs te ρ fun x => ∃ i, x = .int i ∧ ko (some i)) : dO K hs (tPart te) ρ ko := fun H0 σ G H Q f R z =>
  h H0 σ G H _ f R fun v G1 H1 x s1 r1 ⟨i, e, q⟩ => by
    subst e
    exact ⟨i, rel_int r1, z _ G1 H1 s1 q⟩
def cutD (xs : List D) (lo hi : Option Int) : List D := (xs.drop (HT.sIx xs.length 0 lo)).take (HT.sIx xs.length xs.length hi - HT.sIx xs.length 0 lo)
theorem rel_cut {G : Hp} {vs : List V} {ds : List D} (r : RelL K G vs ds) (lo hi : Option Int) : RelL K G (cutV vs lo hi) (cutD ds lo hi) := by
  unfold cutV cutD
  rw [r.length]
  exact (r.drop _).take _
theorem d_slT {tl th : TO} (h : dE K hs te ρ fun x => dO K hs tl ρ fun l => dO K hs th ρ fun u => ∃ ds, x = .tup ds ∧ k (.tup (cutD ds l u))) : dE K hs (tSl (rSlA K) te tl th) ρ k := fun H0 σ G H Q f R z =>
  h H0 σ G H _ f R fun v G1 H1 x s1 r1 h1 => h1 H0 σ G1 H1 _ s1.fr (R.step s1) fun l G2 H2 s2 h2 => h2 H0 σ G2 H2 _ s2.fr (R.step (s1.trans s2)) fun hi G3 H3 s3 ⟨ds, e, q⟩ => by
    subst e
    obtain ⟨a, vs, rfl, hh, r⟩ := rel_tup (r1.mono (s2.trans s3).exg)
    refine ⟨a, vs, rfl, Same.tseq s3.sub hh, fun e => ?_, fun _ p hp => ?_⟩
    · refine z _ G3 H3 _ ((s1.trans s2).trans s3) (r1.mono (s2.trans s3).exg) ?_
      have : cutD ds l hi = ds := by
        unfold cutD
        rw [r.length] at e
        rw [e.1, e.2]
        simp
      rw [this] at q
      exact q
    · have s4 := Step.alloc (o := .tup (cutV vs l hi)) s3.sub s3.st hp
      exact z _ _ _ _ (((s1.trans s2).trans s3).trans s4) (.tup (.inl (.inl upd_same)) ((rel_cut r l hi).mono s4.exg)) q
theorem l_slL {tl th : TO} {kl : List D → Prop} (h : dE K hs te ρ fun x => dO K hs tl ρ fun l => dO K hs th ρ fun u => ∃ ds, x = .lst ds ∧ kl (cutD ds l u)) : dL K hs (tSl (rSlL K) te tl th) ρ kl := fun H0 σ G H Q f R z =>
  h H0 σ G H _ f R fun v G1 H1 x s1 r1 h1 => h1 H0 σ G1 H1 _ s1.fr (R.step s1) fun l G2 H2 s2 h2 => h2 H0 σ G2 H2 _ s2.fr (R.step (s1.trans s2)) fun hi G3 H3 s3 ⟨ds, e, q⟩ => by
    subst e
    obtain ⟨a, vs, rfl, hh, r⟩ := rel_lst (r1.mono (s2.trans s3).exg)
    refine ⟨a, vs, rfl, SqL.of (s3.sub _ _ hh), fun p hp => ?_⟩
    exact z p _ G3 _ _ (((s1.trans s2).trans s3).trans (Step.fresh s3.sub s3.st hp)) (((s1.trans s2).trans s3).back hp) (Same.free s3.sub hp) upd_same (rel_cut r l hi) q
/-- list + list -/
theorem l_cat {kl : List D → Prop} (h : dE K hs ta ρ fun x => dE K hs tb ρ fun y => ∃ xs ys, x = .lst xs ∧ y = .lst ys ∧ xs.length + ys.length ≤ 100000 ∧ kl (xs ++ ys)) : dL K hs (tOp rCat ta tb) ρ kl := fun H0 σ G H Q f R z =>
  h H0 σ G H _ f R fun v G1 H1 x s1 r1 h1 => h1 H0 σ G1 H1 _ s1.fr (R.step s1) fun w G2 H2 y s2 r2 ⟨xs, ys, e1, e2, hl, q⟩ => by
    subst e1 e2
    obtain ⟨a, vs, rfl, hh, r⟩ := rel_lst (r1.mono s2.exg)
    obtain ⟨b, us, rfl, hh', r'⟩ := rel_lst r2
    refine ⟨a, b, vs, us, rfl, rfl, s2.sub _ _ hh, s2.sub _ _ hh', sz (by rw [r.length, r'.length]; exact hl), fun p hp => ?_⟩
    exact z p _ G2 _ _ ((s1.trans s2).trans (Step.fresh s2.sub s2.st hp)) ((s1.trans s2).back hp) (Same.free s2.sub hp) upd_same (r.append r') q
/-- len -/
theorem c_lenS {x : D} {ds : List D} (e : x = .lst ds ∨ x = .tup ds) (q : k (.int (ds.length : Nat))) : dC K hs (fun xs H Q => ∃ p ys, xs = [.ref p] ∧ (SqL K H p ys ∨ SqT K H p ys) ∧ Q (.int ys.length) H) [x] k := fun G H vs Q f r z => by
  cases r with
  | cons r1 r2 =>
    cases r2
    rcases e with rfl | rfl
    · obtain ⟨a, ws, rfl, hh, r⟩ := rel_lst r1
      refine ⟨a, ws, rfl, .inl (SqL.of (f.sub _ _ hh)), ?_⟩
      rw [r.length]
      exact z _ G H _ f.refl .int q
    · obtain ⟨a, ws, rfl, hh, r⟩ := rel_tup r1
      refine ⟨a, ws, rfl, .inr (Same.tseq f.sub hh), ?_⟩
      rw [r.length]
      exact z _ G H _ f.refl .int q
end
end PD
set_option Elab.async false
set_option linter.all false
set_option maxRecDepth 100000
set_option maxHeartbeats 1000000
namespace PD
open PySem L2

section
variable {K : PySem.W.Frag} {hs : Option (Addr × Addr)} {ρ : List Sl} {k : D → Prop} {ta tb tc te : TE} {tt : TT} {t u : TS} {E : DEnds}
/-! ### statements -/
theorem s_next (q : E.nx ρ) : dS K hs tNext ρ E := fun G0 H0 Gb σ G H D s b R z => z.nx σ G H ρ s b R q
theorem s_seq (h : dS K hs t ρ { E with nx := fun ρ' => dS K hs u ρ' E }) : dS K hs (tSeq t u) ρ E := fun G0 H0 Gb σ G H D s b R z =>
  h G0 H0 Gb σ G H _ s b R ⟨fun σ1 G1 H1 ρ1 s1 b1 R1 q => q G0 H0 Gb σ1 G1 H1 D s1 b1 R1 z, z.rt, z.bk, z.ct⟩
theorem s_ret (h : dE K hs te ρ E.rt) : dS K hs (tRet te) ρ E := fun G0 H0 Gb σ G H D s b R z =>
  h H0 σ G H _ s.fr R fun v G1 H1 d s1 r q => z.rt v G1 H1 d (s.trans s1) r q
theorem s_retN (h : E.rt .non) : dS K hs tRetN ρ E := fun G0 H0 Gb σ G H D s b R z => z.rt _ G H _ s .non h
theorem s_break (h : E.bk ρ) : dS K hs (fun D σ H => D.bk σ H) ρ E := fun G0 H0 Gb σ G H D s b R z => z.bk σ G H ρ s b R h
theorem s_if (h : dT K hs tt ρ fun b => (b = true → dS K hs t ρ E) ∧ (b = false → dS K hs u ρ E)) : dS K hs (tIfS tt t u) ρ E := fun G0 H0 Gb σ G H D s b R z =>
  h H0 σ G H _ s.fr R fun c G1 H1 s1 ⟨q1, q2⟩ => by
    cases c with
    | true => rw [if_pos rfl]; exact q1 rfl G0 H0 Gb σ G1 H1 D (s.trans s1) (b.trans s1.exg) (R.step s1) z
    | false => rw [if_neg Bool.false_ne_true]; exact q2 rfl G0 H0 Gb σ G1 H1 D (s.trans s1) (b.trans s1.exg) (R.step s1) z
theorem s_drop (h : dE K hs te ρ fun _ => E.nx ρ) : dS K hs (tDrop te) ρ E := fun G0 H0 Gb σ G H D s b R z =>
  h H0 σ G H _ s.fr R fun v G1 H1 d s1 r q => z.nx σ G1 H1 ρ (s.trans s1) (b.trans s1.exg) (R.step s1) q
theorem s_never (h : False) : dS K hs tNever ρ E := h.elim

/-! ### targets -/
variable {kr : List Sl → Prop}
theorem wipe_set {σ : L2.St} {j : Nat} {v : Option V} : ∀ {vs : List Nat}, j ∈ vs → wipe (σ.set j v) vs = wipe σ vs
  | [], h => by cases h
  | x :: vs, h => by
    unfold wipe
    by_cases e : j ∈ vs
    · rw [wipe_set e]
    · have e2 : j = x := (List.mem_cons.mp h).resolve_right e
      subst e2
      have : ∀ (vs : List Nat) (τ : L2.St), j ∉ vs → wipe (τ.set j v) vs = (wipe τ vs).set j v := by
        intro vs
        induction vs with
        | nil => intro τ _; rfl
        | cons y ys ih =>
          intro τ h
          unfold wipe
          rw [ih τ fun q => h (List.mem_cons_of_mem _ q)]
          exact List.set_comm _ _ fun q => h (q ▸ List.mem_cons_self)
      rw [this vs σ e, List.set_set]
theorem g_nameV {i : Nat} {d : D} {l : List Nat} (h : i ∈ l) (q : kr (ρ.set i (.d d))) : dG K hs (gName i) (some l) d ρ kr := fun H0 σ G H v Q f R r z =>
  z _ _ (R.set (s := .d d) ⟨v, rfl, r⟩ fun _ e => by cases e) (fun vs e => by cases e; exact wipe_set h) q
theorem g_name {i : Nat} {d : D} (q : kr (ρ.set i (.d d))) : dG K hs (gName i) none d ρ kr := fun H0 σ G H v Q f R r z =>
  z _ _ (R.set (s := .d d) ⟨v, rfl, r⟩ fun _ e => by cases e) (fun vs e => by cases e) q
theorem gs_nil {js : Option (List Nat)} (q : kr ρ) : dGs K hs gNil js [] ρ kr := fun H0 σ G H v Q f R r z => by
  cases r
  exact ⟨rfl, z _ _ R (fun _ _ => rfl) q⟩
theorem gs_cons {g : TG} {gs : TGs} {js : Option (List Nat)} {d : D} {ds : List D} (h : dG K hs g js d ρ fun ρ' => dGs K hs gs js ds ρ' kr) : dGs K hs (gCons g gs) js (d :: ds) ρ kr := fun H0 σ G H v Q f R r z => by
  cases r with
  | cons r rr =>
    refine ⟨_, _, rfl, h H0 σ G H _ _ f R r fun σ1 ρ1 R1 w1 q => q H0 σ1 G H _ _ f R1 rr fun σ2 ρ2 R2 w2 q2 => z _ _ R2 (fun vs hv => ?_) q2⟩
    rw [w2 vs hv, w1 vs hv]
theorem g_tup {gs : TGs} {js : Option (List Nat)} {n : Nat} {ds : List D} (l : ds.length = n) (h : dGs K hs gs js ds ρ kr) : dG K hs (gTup K n gs) js (.tup ds) ρ kr := fun H0 σ G H v Q f R r z => by
  obtain ⟨a, vs, rfl, h', r⟩ := rel_tup r
  exact ⟨a, vs, rfl, Same.tseq f.sub h', by rw [r.length]; exact l, h H0 σ G H _ _ f R r z⟩
theorem s_asg {g : TG} (h : dE K hs te ρ fun d => dG K hs g none d ρ E.nx) : dS K hs (tAsg te g) ρ E := fun G0 H0 Gb σ G H D s b R z =>
  h H0 σ G H _ s.fr R fun v G1 H1 d s1 r q => q H0 σ G1 H1 v _ s1.fr (R.step s1) r fun σ' ρ' R' _ q' => z.nx _ _ _ _ (s.trans s1) (b.trans s1.exg) R' q'
theorem s_set {i : Nat} (h : dE K hs te ρ fun d => E.nx (ρ.set i (.d d))) : dS K hs (tAsg te (gName i)) ρ E := fun G0 H0 Gb σ G H D s b R z =>
  h H0 σ G H _ s.fr R fun v G1 H1 d s1 r q => z.nx _ _ _ _ (s.trans s1) (b.trans s1.exg) ((R.step s1).set (s := .d d) ⟨v, rfl, r⟩ fun _ e => by cases e) q
/-- x += e of ints -/
theorem s_aug {i : Nat} {f : Int → Int → Int} {a : Int} (e : ρ[i]? = some (.d (.int a))) (h : dE K hs te ρ fun d => ∃ b, d = .int b ∧ E.nx (ρ.set i (.d (.int (f a b))))) : dS K hs (tAug i te (ipI f)) ρ E := fun G0 H0 Gb σ G H D s b R z => by
  obtain ⟨v, h1, h2⟩ := R.var e
  refine ⟨v, h1, h H0 σ G H _ s.fr R fun w G1 H1 d s1 r ⟨c, e2, q⟩ => ?_⟩
  subst e2
  exact ⟨a, c, rel_int h2, rel_int r, z.nx _ _ _ _ (s.trans s1) (b.trans s1.exg) ((R.step s1).set (s := .d (.int (f a c))) ⟨_, rfl, .int⟩ fun _ e => by cases e) q⟩

/-! ### lists of one's own -/
theorem EnvR.own {H0 G H : Hp} {σ : L2.St} {i : Nat} {p : Addr} {vs : List V} {ds : List D} (h : EnvR K hs H0 G H σ ρ) (h0 : H0 p = none) (ho : Outs hs p) (hg : G p = none) (hp : H p = some (.lst vs)) (r : RelL K G vs ds)
    (no : ∀ (j : Nat) (es : List D), i ≠ j → ρ[j]? = some (.own es) → σ[j]? ≠ some (some (.ref p))) : EnvR K hs H0 G H (σ.set i (some (.ref p))) (ρ.set i (.own ds)) := by
  refine ⟨by rw [List.length_set, List.length_set]; exact h.len, fun j t q => ?_, fun j l xs ys p' q1 q2 ne e1 e2 => ?_⟩
  · by_cases e : i = j
    · subst e
      rw [List.getElem?_set] at q
      rw [List.getElem?_set]
      simp only [if_true] at q ⊢
      split at q
      · rename_i hl
        have hl' : i < σ.length := by rw [h.len]; exact hl
        rw [if_pos hl']
        cases q
        exact ⟨_, rfl, p, vs, rfl, h0, ho, hg, hp, r⟩
      · cases q
    · rw [List.getElem?_set_ne e] at q ⊢
      exact h.at_ j t q
  · have at_i : ∀ q', (σ.set i (some (.ref p)))[i]? = some (some (.ref q')) → q' = p := fun q' z => by
      rw [List.getElem?_set] at z
      simp only [if_true] at z
      split at z
      · cases z; rfl
      · cases z
    by_cases a : i = j
    · subst a
      have := at_i _ e1
      subst this
      rw [List.getElem?_set_ne ne] at q2 e2
      exact no l _ ne q2 e2
    · by_cases b : i = l
      · subst b
        have := at_i _ e2
        subst this
        rw [List.getElem?_set_ne a] at q1 e1
        exact no j _ a q1 e1
      · rw [List.getElem?_set_ne a] at q1 e1
        rw [List.getElem?_set_ne b] at q2 e2
        exact h.apart j l xs ys p' q1 q2 ne e1 e2
/-- x = a new list, that may grow -/
theorem s_own {i : Nat} (h : dL K hs te ρ fun ds => E.nx (ρ.set i (.own ds))) : dS K hs (tAsg te (gName i)) ρ E := fun G0 H0 Gb σ G H D s b R z =>
  h H0 σ G H _ s.fr R fun p vs G1 H1 ds s1 h0 g1 hp r q => by
    refine z.nx _ _ _ _ (s.trans s1) (b.trans s1.exg) ((R.step s1).own (s.back h0) (s.fr.outs h0) g1 hp r fun j es _ e e2 => ?_) q
    obtain ⟨v, e3, p', vs', e4, _, _, _, e5, _⟩ := R.at_ j _ e
    rw [e3] at e2
    cases e2
    cases e4
    rw [h0] at e5
    cases e5
/-- from now on the list of one's own stays -/
theorem s_keep {i : Nat} {ds : List D} (e : ρ[i]? = some (.own ds)) (h : dS K hs t (ρ.set i (.d (.lst ds))) E) : dS K hs t ρ E := fun G0 H0 Gb σ G H D s b R z => by
  obtain ⟨v, e1, p, vs, rfl, h0, ho, hg, hp, r⟩ := R.at_ i _ e
  have s2 := s.freeze h0 ho hg hp
  have gg : Same G (upd G p (.lst vs)) := fun a o e => by rw [upd_ne (ne_of_none e hg)]; exact e
  refine h G0 H0 Gb σ _ H D s2 (b.trans gg) ⟨by rw [List.length_set]; exact R.len, fun j sl q => ?_, fun j l xs ys p' q1 q2 ne e3 e4 => ?_⟩ z
  · by_cases ej : i = j
    · subst ej
      rw [List.getElem?_set] at q
      simp only [if_true] at q
      split at q
      · cases q
        exact ⟨_, e1, _, rfl, .lst upd_same (r.mono gg)⟩
      · cases q
    · rw [List.getElem?_set_ne ej] at q
      obtain ⟨v', e5, e6⟩ := R.at_ j _ q
      refine ⟨v', e5, ?_⟩
      cases sl with
      | un => trivial
      | d x => obtain ⟨u, a, b⟩ := e6; exact ⟨u, a, b.mono gg⟩
      | own es =>
        obtain ⟨p', vs', rfl, a1, a2, a3, a4, a5⟩ := e6
        refine ⟨p', vs', rfl, a1, a2, ?_, a4, a5.mono gg⟩
        have : p' ≠ p := fun z => by
          subst z
          exact R.apart i j ds es p' e q ej e1 e5
        rw [upd_ne this]; exact a3
  · have nj : i ≠ j := fun z => by
      subst z
      rw [List.getElem?_set] at q1
      simp only [if_true] at q1
      split at q1 <;> cases q1
    have nl : i ≠ l := fun z => by
      subst z
      rw [List.getElem?_set] at q2
      simp only [if_true] at q2
      split at q2 <;> cases q2
    rw [List.getElem?_set_ne nj] at q1
    rw [List.getElem?_set_ne nl] at q2
    exact R.apart j l xs ys p' q1 q2 ne e3 e4
/-- the list at slot i becomes another one -/
theorem EnvR.change {H0 G H : Hp} {σ : L2.St} {i : Nat} {p : Addr} {vs vs' : List V} {ds ds' : List D} (R : EnvR K hs H0 G H σ ρ) (e : ρ[i]? = some (.own ds)) (e1 : σ[i]? = some (some (.ref p))) (h0 : H0 p = none) (ho : Outs hs p) (hg : G p = none) (hp : H p = some (.lst vs)) (r : RelL K G vs' ds') :
    EnvR K hs H0 G (upd H p (.lst vs')) σ (ρ.set i (.own ds')) := by
  refine ⟨by rw [List.length_set]; exact R.len, fun j sl q => ?_, fun j l xs ys p' q1 q2 ne e3 e4 => ?_⟩
  · by_cases ej : i = j
    · subst ej
      rw [List.getElem?_set] at q
      simp only [if_true] at q
      split at q
      · cases q
        exact ⟨_, e1, p, vs', rfl, h0, ho, hg, upd_same, r⟩
      · cases q
    · rw [List.getElem?_set_ne ej] at q
      obtain ⟨v', e5, e6⟩ := R.at_ j _ q
      refine ⟨v', e5, ?_⟩
      cases sl with
      | un => trivial
      | d x => exact e6
      | own es =>
        obtain ⟨p', ws, rfl, a1, a2, a3, a4, a5⟩ := e6
        have : p' ≠ p := fun z => by
          subst z
          exact R.apart i j ds es p' e q ej e1 e5
        exact ⟨p', ws, rfl, a1, a2, a3, by rw [upd_ne this]; exact a4, a5⟩
  · have old : ∀ (n : Nat) (zs : List D), (ρ.set i (.own ds'))[n]? = some (.own zs) → ∃ zs', ρ[n]? = some (.own zs') := fun n zs q => by
      by_cases en : i = n
      · subst en; exact ⟨_, e⟩
      · rw [List.getElem?_set_ne en] at q; exact ⟨_, q⟩
    obtain ⟨x1, y1⟩ := old _ _ q1
    obtain ⟨x2, y2⟩ := old _ _ q2
    exact R.apart j l _ _ p' y1 y2 ne e3 e4
/-- x.append(e) -/
theorem s_app {i : Nat} {ds : List D} (e : ρ[i]? = some (.own ds)) (l : ds.length < 100000) (h : dE K hs te ρ fun d => E.nx (ρ.set i (.own (ds ++ [d])))) : dS K hs (tDrop (tBM K "list" rAppend (tVar i) (tCons te tNil))) ρ E := fun G0 H0 Gb σ G H D s b R z => by
  obtain ⟨v, e1, p, vs, rfl, h0, ho, hg, hp, r⟩ := R.at_ i _ e
  refine ⟨_, e1, .inl ⟨rfl, _, SqL.of hp⟩, h H0 σ G H _ s.fr R fun w G1 H1 d s1 r1 q => ?_⟩
  obtain ⟨v', e1', p', vs', ep, h0', ho', hg', hp', r'⟩ := (R.step s1).at_ i _ e
  rw [e1] at e1'
  cases e1'
  cases ep
  refine ⟨p, vs', w, rfl, rfl, hp', Nat.lt_of_lt_of_le (by rw [r'.length]; exact l) (by decide : 100000 ≤ sizeLine), ?_⟩
  exact z.nx _ _ _ _ ((s.trans s1).mut h0 ho hg') (b.trans s1.exg) ((R.step s1).change e e1 h0' ho' hg' hp' (r'.append (.cons r1 .nil))) q
/-- x.extend(a new list) -/
theorem s_ext {i : Nat} {ds : List D} (e : ρ[i]? = some (.own ds)) (h : dL K hs te ρ fun es => ds.length + es.length ≤ 100000 ∧ E.nx (ρ.set i (.own (ds ++ es)))) : dS K hs (tDrop (tBM K "list" rExtend (tVar i) (tCons te tNil))) ρ E := fun G0 H0 Gb σ G H D s b R z => by
  obtain ⟨v, e1, p, vs, rfl, h0, ho, hg, hp, r⟩ := R.at_ i _ e
  refine ⟨_, e1, .inl ⟨rfl, _, SqL.of hp⟩, h H0 σ G H _ s.fr R fun l ws G1 H1 es s1 hb gb hpb r1 ⟨hl, q⟩ => ?_⟩
  obtain ⟨v', e1', p', vs', ep, h0', ho', hg', hp', r'⟩ := (R.step s1).at_ i _ e
  rw [e1] at e1'
  cases e1'
  cases ep
  refine ⟨p, l, vs', ws, rfl, rfl, hp', hpb, sz (by rw [r'.length, r1.length]; exact hl), ?_⟩
  exact z.nx _ _ _ _ ((s.trans s1).mut h0 ho hg') (b.trans s1.exg) ((R.step s1).change e e1 h0' ho' hg' hp' (r'.append r1)) q
/-- x.extend(a list that stands) -/
theorem s_extD {i : Nat} {ds : List D} (e : ρ[i]? = some (.own ds)) (h : dE K hs te ρ fun d => ∃ es, d = .lst es ∧ ds.length + es.length ≤ 100000 ∧ E.nx (ρ.set i (.own (ds ++ es)))) : dS K hs (tDrop (tBM K "list" rExtend (tVar i) (tCons te tNil))) ρ E := fun G0 H0 Gb σ G H D s b R z => by
  obtain ⟨v, e1, p, vs, rfl, h0, ho, hg, hp, r⟩ := R.at_ i _ e
  refine ⟨_, e1, .inl ⟨rfl, _, SqL.of hp⟩, h H0 σ G H _ s.fr R fun w G1 H1 d s1 r1 ⟨es, ed, hl, q⟩ => ?_⟩
  subst ed
  obtain ⟨l, ws, rfl, hb, r1⟩ := rel_lst r1
  obtain ⟨v', e1', p', vs', ep, h0', ho', hg', hp', r'⟩ := (R.step s1).at_ i _ e
  rw [e1] at e1'
  cases e1'
  cases ep
  refine ⟨p, l, vs', ws, rfl, rfl, hp', s1.sub _ _ hb, sz (by rw [r'.length, r1.length]; exact hl), ?_⟩
  exact z.nx _ _ _ _ ((s.trans s1).mut h0 ho hg') (b.trans s1.exg) ((R.step s1).change e e1 h0' ho' hg' hp' (r'.append r1)) q

/-! ### what is walked -/
theorem y_list {a : Addr} {vs : List V} {ds : List D} {G : Hp} (h : G a = some (.lst vs)) (r : RelL K G vs ds) : Yields K hs (Itl K a) G ds := fun G' H' e f i => by
  have hh : SqL K H' a vs := SqL.of (f.sub _ _ (e _ _ h))
  have r' := r.mono e
  refine ⟨fun hi => ?_, fun hi => ⟨vs, hh, by rw [r.length]; exact hi⟩⟩
  have hi' : i < vs.length := by rw [r.length]; exact hi
  refine ⟨⟨vs, _, hh, List.getElem?_eq_getElem hi'⟩, fun x H'' ⟨e1, e2⟩ => ?_⟩
  subst e1
  refine ⟨G', f.refl, fun d hd => ?_⟩
  obtain ⟨v, e3, e4⟩ := r'.getD hd
  have := e2 vs hh
  rw [e3] at this
  cases this
  exact e4
theorem y_tup {a : Addr} {vs : List V} {ds : List D} {G : Hp} (h : SqT K G a vs) (r : RelL K G vs ds) : Yields K hs (Itt K a) G ds := fun G' H' e f i => by
  have hh : SqT K H' a vs := Same.tseq f.sub (Same.tseq e h)
  have r' := r.mono e
  refine ⟨fun hi => ?_, fun hi => ⟨vs, hh, by rw [r.length]; exact hi⟩⟩
  have hi' : i < vs.length := by rw [r.length]; exact hi
  refine ⟨⟨vs, _, hh, List.getElem?_eq_getElem hi'⟩, fun x H'' ⟨e1, e2⟩ => ?_⟩
  subst e1
  refine ⟨G', f.refl, fun d hd => ?_⟩
  obtain ⟨v, e3, e4⟩ := r'.getD hd
  have := e2 vs hh
  rw [e3] at this
  cases this
  exact e4
variable {kl : List D → Prop}
theorem i_list (h : dE K hs te ρ fun x => ∃ ds, x = .lst ds ∧ kl ds) : dI K hs (iList K te) ρ kl := fun H0 σ G H Q f R z =>
  h H0 σ G H _ f R fun v G1 H1 x s1 r1 ⟨ds, e, q⟩ => by
    subst e
    obtain ⟨a, vs, rfl, hh, r⟩ := rel_lst r1
    exact ⟨a, rfl, ⟨vs, SqL.of (s1.sub _ _ hh)⟩, z _ G1 H1 ds s1 (y_list hh r) q⟩
theorem i_tup (h : dE K hs te ρ fun x => ∃ ds, x = .tup ds ∧ kl ds) : dI K hs (iTup K te) ρ kl := fun H0 σ G H Q f R z =>
  h H0 σ G H _ f R fun v G1 H1 x s1 r1 ⟨ds, e, q⟩ => by
    subst e
    obtain ⟨a, vs, rfl, hh, r⟩ := rel_tup r1
    exact ⟨a, rfl, ⟨vs, Same.tseq s1.sub hh⟩, z _ G1 H1 ds s1 (y_tup hh r) q⟩
def intsUp (lo : Int) (n : Nat) : List D := (List.range n).map fun (i : Nat) => .int (lo + (i : Int))
theorem y_range {lo : Int} {n : Nat} {G : Hp} : Yields K hs (Itr lo n) G (intsUp lo n) := fun G' H' e f i => by
  have hl : (intsUp lo n).length = n := by unfold intsUp; simp
  rw [hl]
  refine ⟨fun hi => ⟨hi, fun x H'' ⟨e1, e2⟩ => ?_⟩, fun hi => hi⟩
  subst e1 e2
  refine ⟨G', f.refl, fun d hd => ?_⟩
  unfold intsUp at hd
  rw [List.getElem?_map, List.getElem?_range hi] at hd
  cases hd
  exact .int
theorem i_range1 {tx : TA} (h : dA K hs tx ρ fun xs => ∃ n : Int, xs = [.int n] ∧ -(2 ^ 62) ≤ n ∧ n < 2 ^ 62 ∧ kl (intsUp 0 n.toNat)) : dI K hs (iRng1 tx) ρ kl := fun H0 σ G H Q f R z =>
  h H0 σ G H _ f R fun vs G1 H1 xs s1 r1 ⟨n, e, h1, h2, q⟩ => by
    subst e
    cases r1 with
    | cons r r2 =>
      cases r2
      exact ⟨n, by rw [rel_int r], h1, h2, z _ G1 H1 _ s1 y_range q⟩
def sgn (c : Nat) : D := .str ⟨#[c]⟩
theorem y_str {x : Str} {G : Hp} : Yields K hs (Its x) G (x.cps.toList.map sgn) := fun G' H' e f i => by
  rw [List.length_map, Array.length_toList]
  refine ⟨fun hi => ⟨hi, fun v H'' ⟨e1, c, e2, e3⟩ => ?_⟩, fun hi => hi⟩
  subst e1 e3
  refine ⟨G', f.refl, fun d hd => ?_⟩
  rw [List.getElem?_map, Array.getElem?_toList, e2] at hd
  cases hd
  exact .str
theorem i_str (h : dE K hs te ρ fun x => ∃ s : Str, x = .str s ∧ kl (s.cps.toList.map sgn)) : dI K hs (iStr te) ρ kl := fun H0 σ G H Q f R z =>
  h H0 σ G H _ f R fun v G1 H1 x s1 r1 ⟨ds, e, q⟩ => by
    subst e
    exact ⟨ds, rel_str r1, z _ G1 H1 _ s1 y_str q⟩
def pairUp (xs ys : List D) : List D := List.zipWith (fun x y => .tup [x, y]) xs ys
theorem y_zipT {a b : Addr} {vs us : List V} {xs ys : List D} {G : Hp} (h : SqT K G a vs) (r : RelL K G vs xs) (h' : SqT K G b us) (r' : RelL K G us ys) : Yields K hs (RZ.ItzT K a b) G (pairUp xs ys) := fun G' H' e f i => by
  have hh : SqT K H' a vs := Same.tseq f.sub (Same.tseq e h)
  have hh' : SqT K H' b us := Same.tseq f.sub (Same.tseq e h')
  have q := r.mono e
  have q' := r'.mono e
  have hl : (pairUp xs ys).length = min xs.length ys.length := by unfold pairUp; exact List.length_zipWith
  rw [hl]
  refine ⟨fun hi => ?_, fun hi => ⟨vs, us, hh, hh', ?_⟩⟩
  · have hi1 : i < vs.length := by rw [r.length]; omega
    have hi2 : i < us.length := by rw [r'.length]; omega
    refine ⟨⟨vs, us, _, _, hh, hh', List.getElem?_eq_getElem hi1, List.getElem?_eq_getElem hi2⟩, fun x H'' ⟨T, v, u, e1, e2, e3, e4, e5⟩ => ?_⟩
    subst e1 e3
    have s2 := Step.alloc (o := .tup [v, u]) f.sub f.st e2
    refine ⟨_, s2, fun d hd => ?_⟩
    unfold pairUp at hd
    obtain ⟨x', y', hx, hy, rfl⟩ := List.getElem?_zipWith_eq_some.mp hd
    obtain ⟨v', a1, a2⟩ := q.getD hx
    obtain ⟨u', b1, b2⟩ := q'.getD hy
    have c1 := e4 vs hh
    have c2 := e5 us hh'
    rw [a1] at c1
    rw [b1] at c2
    cases c1
    cases c2
    exact .tup (.inl (.inl upd_same)) (.cons (a2.mono s2.exg) (.cons (b2.mono s2.exg) .nil))
  · rw [r.length, r'.length]; omega
theorem i_zipT {tx : TA} (h : dA K hs tx ρ fun zs => ∃ xs ys, zs = [.tup xs, .tup ys] ∧ kl (pairUp xs ys)) : dI K hs (RZ.iZipA K tx) ρ kl := fun H0 σ G H Q f R z =>
  h H0 σ G H _ f R fun vs G1 H1 xs s1 r1 ⟨xs', ys', e, q⟩ => by
    subst e
    cases r1 with
    | cons r r2 =>
      cases r2 with
      | cons r' r3 =>
        cases r3
        obtain ⟨a, ws, rfl, hh, r⟩ := rel_tup r
        obtain ⟨b, us, rfl, hh', r'⟩ := rel_tup r'
        exact ⟨a, b, ws, us, rfl, .inr ⟨Same.tseq s1.sub hh, Same.tseq s1.sub hh', z _ G1 H1 _ s1 (y_zipT hh r hh' r') q⟩⟩

/-! ### for -/
variable {g : TG}
def forW (K : PySem.W.Frag) (hs : Option (Addr × Addr)) (g : TG) (t : TS) (E : DEnds) : List D → List Sl → Prop
  | [], ρ => E.nx ρ
  | d :: r, ρ => dG K hs g none d ρ fun ρ' => dS K hs t ρ' { nx := forW K hs g t E r, rt := E.rt, bk := E.nx, ct := forW K hs g t E r }
theorem s_for {ti : TI} (h : dI K hs ti ρ fun ds => forW K hs g t E ds ρ) : dS K hs (tFor ti g t) ρ E := fun G0 H0 Gb σ G H D s b R z =>
  h H0 σ G H _ s.fr R fun J G1 H1 ds s1 y q => by
    refine ⟨fun i m σ' H' => i ≤ ds.length ∧ m = ds.length - i ∧ ∃ G' ρ', Step hs G0 H0 G' H' ∧ Same G1 G' ∧ EnvR K hs H0 G' H' σ' ρ' ∧ forW K hs g t E (ds.drop i) ρ', ⟨_, Nat.zero_le _, rfl, G1, ρ, s.trans s1, Same.refl G1, R.step s1, q⟩, ?_⟩
    rintro i m σ' H' ⟨hi, hm, G', ρ', s', e', R', q'⟩
    obtain ⟨y1, y2⟩ := y G' H' e' s'.fr i
    by_cases hl : i < ds.length
    · refine .inr ⟨(y1 hl).1, fun σ'' H'' => ∃ m', m' < m ∧ i + 1 ≤ ds.length ∧ m' = ds.length - (i + 1) ∧ ∃ G' ρ', Step hs G0 H0 G' H'' ∧ Same G1 G' ∧ EnvR K hs H0 G' H'' σ'' ρ' ∧ forW K hs g t E (ds.drop (i + 1)) ρ', fun σ'' H'' ⟨m', h1, h2⟩ => ⟨m', h1, h2⟩, fun x H2 hy => ?_⟩
      obtain ⟨G2, s2, hd⟩ := (y1 hl).2 x H2 hy
      have rx := hd _ (List.getElem?_eq_getElem hl)
      rw [List.drop_eq_getElem_cons hl] at q'
      refine q' H0 σ' G2 H2 x _ s2.fr (R'.step s2) rx fun σ3 ρ3 R3 _ q3 => ?_
      have b3 : Same G1 G2 := e'.trans s2.exg
      have b1 : Same Gb G1 := b.trans s1.exg
      have nxt : ∀ σ G H ρ, Step hs G0 H0 G H → Same G1 G → EnvR K hs H0 G H σ ρ → forW K hs g t E (ds.drop (i + 1)) ρ → ∃ m', m' < m ∧ i + 1 ≤ ds.length ∧ m' = ds.length - (i + 1) ∧ ∃ G' ρ', Step hs G0 H0 G' H ∧ Same G1 G' ∧ EnvR K hs H0 G' H σ ρ' ∧ forW K hs g t E (ds.drop (i + 1)) ρ' :=
        fun σ G H ρ a b c d => ⟨_, by omega, hl, rfl, G, ρ, a, b, c, d⟩
      exact q3 G0 H0 G1 σ3 G2 H2 _ (s'.trans s2) b3 R3 ⟨nxt, z.rt, fun σ G H ρ a b c d => z.nx σ G H ρ a (b1.trans b) c d, nxt⟩
    · refine .inl ⟨y2 (by omega), ?_⟩
      have : ds.drop i = [] := List.drop_eq_nil_of_le (by omega)
      rw [this] at q'
      exact z.nx _ _ _ _ s' ((b.trans s1.exg).trans e') R' q'
/-- a loop by an invariant: P ρ holds ahead of the items that are left -/
theorem forW_inv (P : List D → List Sl → Prop) (h0 : ∀ ρ, P [] ρ → E.nx ρ) (h1 : ∀ d r ρ, P (d :: r) ρ → dG K hs g none d ρ fun ρ' => dS K hs t ρ' { nx := P r, rt := E.rt, bk := E.nx, ct := P r }) : ∀ (ds : List D) (ρ : List Sl), P ds ρ → forW K hs g t E ds ρ
  | [], ρ, p => h0 ρ p
  | d :: r, ρ, p => fun H0 σ G H v Q f R rv z => h1 d r ρ p H0 σ G H v Q f R rv fun σ' ρ' R' w q => z σ' ρ' R' w fun G0 H0 Gb σ G H D s b R z' =>
      q G0 H0 Gb σ G H D s b R ⟨fun σ G H ρ a b c d => z'.nx σ G H ρ a b c (forW_inv P h0 h1 r ρ d), z'.rt, z'.bk, fun σ G H ρ a b c d => z'.ct σ G H ρ a b c (forW_inv P h0 h1 r ρ d)⟩

/-! ### comprehensions -/
def wipeR (ρ : List Sl) : List Nat → List Sl
  | [] => ρ
  | v :: vs => (wipeR ρ vs).set v .un
theorem EnvR.wipe {H0 G H : Hp} {σ : L2.St} (R : EnvR K hs H0 G H σ ρ) : ∀ vs : List Nat, EnvR K hs H0 G H (L2.wipe σ vs) (wipeR ρ vs)
  | [] => R
  | v :: vs => (EnvR.wipe R vs).set trivial fun _ e => by cases e
theorem wipe_wipe {σ : L2.St} : ∀ {vs us : List Nat}, (∀ j ∈ us, j ∈ vs) → wipe (wipe σ us) vs = wipe σ vs
  | _, [], _ => rfl
  | vs, u :: us, h => by
    show wipe ((wipe σ us).set u none) vs = _
    rw [wipe_set (h u List.mem_cons_self)]
    exact wipe_wipe fun j hj => h j (List.mem_cons_of_mem _ hj)
def lcW (K : PySem.W.Frag) (hs : Option (Addr × Addr)) (g : TG) (js : List Nat) (tt : TT) (te : TE) (ρ : List Sl) (kl : List D → Prop) : List D → List D → Prop
  | [], acc => kl acc
  | d :: r, acc => dG K hs g (some js) d ρ fun ρ' => dT K hs tt ρ' fun b => (b = true → dE K hs te ρ' fun y => lcW K hs g js tt te ρ kl r (acc ++ [y])) ∧ (b = false → lcW K hs g js tt te ρ kl r acc)
theorem l_lc {ti : TI} {vs : List Nat} {kl : List D → Prop} (h : dI K hs ti ρ fun ds => ds.length ≤ 50000 ∧ lcW K hs g vs tt te (wipeR ρ vs) kl ds []) : dL K hs (tLc ti g tt te vs) ρ kl := fun H0 σ G H Q f R z =>
  h H0 σ G H _ f R fun J G1 H1 ds s1 y ⟨hl, q⟩ Dl hD => by
    have hH := s1.back hD
    have oD := s1.fr.outs hD
    have gD := Same.free s1.sub hD
    have Rw := (R.step s1).wipe vs
    refine ⟨fun i m H' => i ≤ ds.length ∧ m = ds.length - i ∧ ∃ G' acc ws, Step hs G1 H1 G' H' ∧ G' Dl = none ∧ H' Dl = some (.lst ws) ∧ RelL K G' ws acc ∧ acc.length ≤ i ∧ lcW K hs g vs tt te (wipeR ρ vs) kl (ds.drop i) acc,
      ⟨_, Nat.zero_le _, rfl, G1, [], [], Step.fresh s1.sub s1.st hD, gD, upd_same, .nil, Nat.zero_le _, q⟩, ?_⟩
    rintro i m H' ⟨hi, hm, G', acc, ws, s', g', h', r', la, q'⟩
    obtain ⟨y1, y2⟩ := y G' H' s'.exg s'.fr i
    by_cases hl' : i < ds.length
    · refine .inr ⟨(y1 hl').1, fun H'' => ∃ m', m' < m ∧ i + 1 ≤ ds.length ∧ m' = ds.length - (i + 1) ∧ ∃ G' acc ws, Step hs G1 H1 G' H'' ∧ G' Dl = none ∧ H'' Dl = some (.lst ws) ∧ RelL K G' ws acc ∧ acc.length ≤ i + 1 ∧ lcW K hs g vs tt te (wipeR ρ vs) kl (ds.drop (i + 1)) acc, fun H'' x => x, fun x H2 hy => ?_⟩
      obtain ⟨G2, s2, hd⟩ := (y1 hl').2 x H2 hy
      have rx := hd _ (List.getElem?_eq_getElem hl')
      have keep : ∀ {G3 H3 : Hp}, Step hs G' H' G3 H3 → G3 Dl = none ∧ H3 Dl = some (.lst ws) := fun {G3 H3} s3 => by
        refine ⟨?_, s3.frm _ _ oD h'⟩
        cases e : G3 Dl with
        | none => rfl
        | some o =>
          have := s3.new Dl o e g'
          rw [h'] at this; cases this
      rw [List.drop_eq_getElem_cons hl'] at q'
      refine q' H0 _ G2 H2 x _ s2.fr (Rw.step (s'.trans s2)) rx fun σ3 ρ3 R3 w3 q3 => ⟨?_, ?_⟩
      · rw [w3 vs rfl, wipe_wipe fun j h => h]
      · refine q3 H0 σ3 G2 H2 _ s2.fr R3 fun b G3 H3 s3 ⟨p1, p2⟩ => ?_
        cases b with
        | true =>
          rw [if_pos rfl]
          refine p1 rfl H0 σ3 G3 H3 _ s3.fr (R3.step s3) fun v G4 H4 d s4 r4 q4 => ?_
          have st := (s2.trans s3).trans s4
          obtain ⟨k1, k2⟩ := keep st
          refine ⟨ws, k2, Nat.lt_of_le_of_lt (by rw [r'.length]; omega : ws.length ≤ 50000) (by decide), _, by omega, hl', rfl, G4, acc ++ [d], ws ++ [v], (s'.trans st).mut hD oD k1, k1, upd_same, (r'.mono st.exg).append (.cons r4 .nil), ?_, q4⟩
          rw [List.length_append, List.length_singleton]; omega
        | false =>
          rw [if_neg Bool.false_ne_true]
          have st := s2.trans s3
          obtain ⟨k1, k2⟩ := keep st
          exact ⟨_, by omega, hl', rfl, G3, acc, ws, s'.trans st, k1, k2, r'.mono st.exg, by omega, p2 rfl⟩
    · refine .inl ⟨y2 (by omega), ?_⟩
      have : ds.drop i = [] := List.drop_eq_nil_of_le (by omega)
      rw [this] at q'
      exact z Dl ws G' H' acc (s1.trans s') hH g' h' r' q'
/-- the element, and whether it comes, are functions of the item -/
theorem lcW_fun {js : List Nat} {kl : List D → Prop} (P : D → Prop) (p : D → Bool) (f : D → D) (h : ∀ d, P d → ∀ kk : List Sl → Prop, (∀ ρ', (∀ kb : Bool → Prop, kb (p d) → dT K hs tt ρ' kb) → (p d = true → ∀ k : D → Prop, k (f d) → dE K hs te ρ' k) → kk ρ') → dG K hs g (some js) d ρ kk) :
    ∀ (ds acc : List D), (∀ d ∈ ds, P d) → kl (acc ++ (ds.filter p).map f) → lcW K hs g js tt te ρ kl ds acc
  | [], acc, _, q => by
    show kl acc
    simpa using q
  | d :: r, acc, hp, q => by
    refine h d (hp d List.mem_cons_self) _ fun ρ' h1 h2 => h1 _ ⟨fun e => h2 e _ ?_, fun e => ?_⟩
    · refine lcW_fun P p f h r (acc ++ [f d]) (fun x hx => hp x (List.mem_cons_of_mem _ hx)) ?_
      rw [List.filter_cons, if_pos e, List.map_cons] at q
      rw [List.append_assoc]
      exact q
    · refine lcW_fun P p f h r acc (fun x hx => hp x (List.mem_cons_of_mem _ hx)) ?_
      rw [List.filter_cons, e] at q
      exact q
end

/-! ### defs and their calls -/
/-- a def's promise by data -/
def spD (K : PySem.W.Frag) (hs : Option (Addr × Addr)) (M : List D → (D → Prop) → Prop) : Sp := fun vs H Q _ => ∃ (G : Hp) (ds : List D) (k : D → Prop), Fr hs G H ∧ RelL K G vs ds ∧ M ds k ∧ ∀ v G' H' d, Step hs G H G' H' → Rel K G' v d → k d → Q v H'
section
variable {K : PySem.W.Frag} {hs : Option (Addr × Addr)} {ρ : List Sl} {k : D → Prop} {tx : TA} {M : List D → (D → Prop) → Prop} {X : XK}
theorem d_call (h : dA K hs tx ρ fun ds => M ds k) : dE K hs (tCall (spD K hs M) [] X tx) ρ k := fun H0 σ G H Q f R z =>
  h H0 σ G H _ f R fun vs G1 H1 ds s1 r q => ⟨G1, ds, k, s1.fr, by rw [List.append_nil]; exact r, q, fun v G2 H2 d s2 r2 q2 => z v G2 H2 d (s1.trans s2) r2 q2⟩
/-- of a def that leaves the draws alone -/
theorem d_callP (h : dA K hs tx ρ fun ds => M ds k) : dE K hs (tCall (spD K none M) [] X tx) ρ k := fun H0 σ G H Q f R z =>
  h H0 σ G H _ f R fun vs G1 H1 ds s1 r q => ⟨G1, ds, k, s1.fr.none, by rw [List.append_nil]; exact r, q, fun v G2 H2 d s2 r2 q2 => z v G2 H2 d (s1.trans (s2.lift s1.fr)) r2 q2⟩
theorem d_callLP {i : Nat} {f : Addr} (e : ρ[i]? = some (.d (.adr f))) (h : dA K hs tx ρ fun ds => M ds k) : dE K hs (tCallL i f (spD K none M) [] X tx) ρ k := fun H0 σ G H Q fr R z => by
  obtain ⟨v, h1, h2⟩ := R.var e
  cases rel_adr h2
  refine ⟨h1, h H0 σ G H _ fr R fun vs G1 H1 ds s1 r q => ⟨G1, ds, k, s1.fr.none, by rw [List.append_nil]; exact r, q, fun v G2 H2 d s2 r2 q2 => z v G2 H2 d (s1.trans (s2.lift s1.fr)) r2 q2⟩⟩
def startD (N : List Str) (ds : List D) : List Sl := ds.map Sl.d ++ List.replicate (N.length - ds.length) .un
theorem env_start {K : PySem.W.Frag} {hs : Option (Addr × Addr)} {H0 G H : Hp} {N : List Str} {vs : List V} {ds : List D} (r : RelL K G vs ds) : EnvR K hs H0 G H (L2.start N vs) (startD N ds) := by
  have hl := r.length
  refine ⟨?_, fun i s e => ?_, fun i j ds' es p q1 => ?_⟩
  · unfold L2.start startD; simp [hl]
  · unfold startD at e
    unfold L2.start
    by_cases hi : i < ds.length
    · rw [List.getElem?_append_left (by simpa using hi), List.getElem?_map] at e
      rw [List.getElem?_append_left (by simpa [hl] using hi), List.getElem?_map]
      cases q : ds[i]? with
      | none => rw [q] at e; cases e
      | some d =>
        rw [q] at e
        cases e
        obtain ⟨v, h1, h2⟩ := r.getD q
        exact ⟨some v, by rw [h1]; rfl, v, rfl, h2⟩
    · rw [List.getElem?_append_right (by simpa using hi)] at e
      rw [List.getElem?_append_right (by simpa [hl] using hi)]
      simp only [List.length_map] at e ⊢
      rw [List.getElem?_replicate] at e ⊢
      rw [hl]
      split at e
      · rename_i h
        cases e
        exact ⟨none, by rw [if_pos h], trivial⟩
      · cases e
  · exfalso
    unfold startD at q1
    by_cases hi : i < ds.length
    · rw [List.getElem?_append_left (by simpa using hi), List.getElem?_map] at q1
      cases q : ds[i]? with
      | none => rw [q] at q1; cases q1
      | some d => rw [q] at q1; cases q1
    · rw [List.getElem?_append_right (by simpa using hi), List.getElem?_replicate] at q1
      split at q1 <;> cases q1
end
section
variable {P : Program} {w : World} {K : PySem.W.Frag} {mg : Str → Option Value} {base : Heap} {hs : Option (Addr × Addr)}
/-- THE RULE for a def, by data -/
theorem okD {x qual : Str} {st : Stmt} {f : Addr} {fd : FuncData} {N ps : List Str} {k : Nat} {M : List D → (D → Prop) → Prop} (F : Fun K x qual st f fd) (S : FnScope N ps (defScope st)) (len : ∀ ds k, M ds k → ds.length = ps.length)
    (hbody : ∀ (cdv : Value) (A : Around) (outer : List Env) (s : Shared) (H : Hp) (E : XK) (ds : List D) (kk : D → Prop), Room k (A.deeper (PyProof.Rows.envOfC qual (defScope st) s.heap.objs.size f cdv)) → M ds kk →
      ∃ t, PSs (cxOf CX0 P w K mg base N qual (defScope st) f cdv A outer s H E).nox (defBody st) t ∧ dS K hs t (startD N ds) { nx := fun _ => kk .non, rt := kk }) : FnOk P w K mg base CX0 (k + 1) f fd ps (spD K hs M) := by
  refine F.ok S (fun vs H Q E h => ?_) (fun cdv A outer s H vs Q E hr h => ?_)
  · obtain ⟨G, ds, kk, _, r, m, _⟩ := h
    rw [r.length]
    exact len ds kk m
  · obtain ⟨G, ds, kk, fr, r, m, z⟩ := h
    obtain ⟨t, ht, hd⟩ := hbody cdv A outer s H E ds kk hr m
    exact ⟨t, ht, hd G H G _ G H _ fr.refl (Same.refl G) (env_start r) ⟨fun σ G' H' ρ s' _ _ q => z _ G' H' _ s' .non q, fun v G' H' d s' r' q => z v G' H' d s' r' q, fun _ _ _ _ _ _ _ q => q.elim, fun _ _ _ _ _ _ _ q => q.elim⟩⟩
/-- a weaker promise -/
theorem FnOk.impD {k : Nat} {f : Addr} {fd : FuncData} {ps : List Str} {M M' : List D → (D → Prop) → Prop} (F : FnOk P w K mg base CX0 k f fd ps (spD K hs M)) (h : ∀ ds kk, M' ds kk → M ds kk) : FnOk P w K mg base CX0 k f fd ps (spD K hs M') :=
  F.imp fun vs H Q E ⟨G, ds, kk, a, b, c, d⟩ => ⟨G, ds, kk, a, b, h _ _ c, d⟩
end
end PD
set_option Elab.async false
set_option linter.all false
set_option maxRecDepth 100000
set_option maxHeartbeats 1000000
namespace PD
open PySem L2

section
variable {K : PySem.W.Frag} {hs : Option (Addr × Addr)} {ρ : List Sl} {k : D → Prop} {ta tb tc te : TE} {tt : TT} {t u : TS} {E : DEnds} {kb : Bool → Prop} {tx : TA}
theorem int_eq {a b : Int} : decide (V.int a = V.int b) = decide (a = b) := by
  by_cases e : a = b
  · subst e; simp
  · rw [decide_eq_false e, decide_eq_false (fun h => e (V.int.inj h))]
theorem r_eqI {x y : Int} (q : k (.bl (decide (x = y)))) : dR K hs rEq (.int x) (.int y) k := r_eq rfl rfl rfl (by rw [int_eq]; exact q)
theorem r_neI {x y : Int} (q : k (.bl (!decide (x = y)))) : dR K hs rNe (.int x) (.int y) k := r_ne rfl rfl rfl (by rw [int_eq]; exact q)
/-! ### isinstance -/
def tyD : D → String
  | .non => "NoneType"
  | .bl _ => "bool"
  | .int _ => "int"
  | .str _ => "str"
  | .tup _ => "tuple"
  | .lst _ => "list"
  | .dct _ => "dict"
  | _ => ""
theorem rel_ty {G H : Hp} {v : V} {x : D} (s : Same G H) (r : Rel K G v x) (h : tyD x ≠ "") : TyX K H v (.type (tyD x)) := by
  cases r with
  | non => exact .base .non
  | bl => exact .base (.bl _)
  | int => exact .base (.int _)
  | str => exact .base (.str _)
  | adr => exact absurd rfl h
  | ty => exact absurd rfl h
  | tup h' _ =>
    rcases h' with (h' | ⟨o, h'⟩) | ⟨o, its, n, h1, h2, _⟩
    · exact .base (.tup (s _ _ h'))
    · exact .fTuple (s _ _ h')
    · exact .kTuple h1 h2
  | lst h' _ => exact .base (.lst (s _ _ h'))
  | dct h' _ => exact .base (.dK (s _ _ h'))
  | tpf h' _ _ => exact absurd rfl h
theorem c_isi {x : D} {T : String} {b : Bool} (e : kitB (tyD x) T = some b) (h : tyD x ≠ "") (q : k (.bl b)) : dC K hs (rIsi K) [x, .ty T] k := fun G H vs Q f r z => by
  cases r with
  | cons r1 r2 =>
    cases r2 with
    | cons r2 r3 =>
      cases r3
      cases r2
      exact ⟨_, _, _, _, b, rfl, .ty T, rel_ty f.sub r1 h, kit_ty e, z _ G H _ f.refl .bl q⟩
inductive Tg where
  | non | bl | int | str | tup | lst | dct
def tgD : D → Option Tg
  | .non => some .non
  | .bl _ => some .bl
  | .int _ => some .int
  | .str _ => some .str
  | .tup _ => some .tup
  | .lst _ => some .lst
  | .dct _ => some .dct
  | _ => none
def Tg.is (g h : Tg) : Bool := match g, h with
  | .non, .non => true | .bl, .bl => true | .int, .int => true | .bl, .int => true | .str, .str => true | .tup, .tup => true | .lst, .lst => true | .dct, .dct => true
  | _, _ => false
def Tg.nm : Tg → String
  | .non => "NoneType" | .bl => "bool" | .int => "int" | .str => "str" | .tup => "tuple" | .lst => "list" | .dct => "dict"
theorem kit_tg : ∀ g h : Tg, kitB g.nm h.nm = some (g.is h) := by
  intro g h
  cases g <;> cases h <;> decide +kernel
theorem c_isT {x : D} {g : Tg} (h : Tg) (e : tgD x = some g) (q : k (.bl (g.is h))) : dC K hs (rIsi K) [x, .ty h.nm] k := by
  have e1 : tyD x = g.nm := by
    cases x <;> simp only [tgD, Option.some.injEq, reduceCtorEq] at e <;> subst e <;> rfl
  refine c_isi (b := g.is h) (by rw [e1]; exact kit_tg g h) ?_ q
  rw [e1]
  cases g <;> decide
theorem c_bool {x : D} {g : Tg} (e : tgD x = some g) (q : k (.bl (g.is .bl))) : dC K hs (rIsi K) [x, .ty "bool"] k := c_isT .bl e q
theorem c_int {x : D} {g : Tg} (e : tgD x = some g) (q : k (.bl (g.is .int))) : dC K hs (rIsi K) [x, .ty "int"] k := c_isT .int e q
theorem c_str {x : D} {g : Tg} (e : tgD x = some g) (q : k (.bl (g.is .str))) : dC K hs (rIsi K) [x, .ty "str"] k := c_isT .str e q
theorem c_tup {x : D} {g : Tg} (e : tgD x = some g) (q : k (.bl (g.is .tup))) : dC K hs (rIsi K) [x, .ty "tuple"] k := c_isT .tup e q
theorem c_lst {x : D} {g : Tg} (e : tgD x = some g) (q : k (.bl (g.is .lst))) : dC K hs (rIsi K) [x, .ty "list"] k := c_isT .lst e q
/-! ### truth -/
def truD : D → Bool
  | .non => false
  | .bl b => b
  | .int i => i != 0
  | .str y => ((y.length : Int) != 0)
  | .tup ds => !ds.isEmpty
  | .lst ds => !ds.isEmpty
  | .dct ks => !ks.isEmpty
  | _ => true
def truOk : D → Prop
  | .str y => y.length ≤ 100000
  | .adr _ => False
  | .ty _ => False
  | .tpf _ => False
  | _ => True
theorem truOk_tup {A : Prop} {ds : List D} (h : A) : truOk (.tup ds) ∧ A := ⟨trivial, h⟩
theorem truOk_lst {A : Prop} {ds : List D} (h : A) : truOk (.lst ds) ∧ A := ⟨trivial, h⟩
theorem br_t {A B : Prop} {b : Bool} (e : b = true) (h : A) : (b = true → A) ∧ (b = false → B) := ⟨fun _ => h, fun q => (by rw [e] at q; cases q)⟩
theorem br_f {A B : Prop} {b : Bool} (e : b = false) (h : B) : (b = true → A) ∧ (b = false → B) := ⟨fun q => (by rw [e] at q; cases q), fun _ => h⟩
theorem d_truth (h : dE K hs ta ρ fun x => truOk x ∧ kb (truD x)) : dT K hs (fun σ H Q => ta σ H fun x H' => ∃ k, TruV K x H' k ∧ Q k H') ρ kb := fun H0 σ G H Q f R z =>
  h H0 σ G H _ f R fun v G1 H1 x s1 r1 ⟨o, q⟩ => by
    refine ⟨truD x, ?_, z _ G1 H1 s1 q⟩
    cases r1 with
    | non => rfl
    | bl => rfl
    | int => rfl
    | str => exact ⟨sz o, rfl⟩
    | adr => exact o.elim
    | ty => exact o.elim
    | tup h' r => exact .inr (.inl ⟨_, Same.tseq s1.sub h', by cases r <;> rfl⟩)
    | lst h' r => exact .inl ⟨_, SqL.of (s1.sub _ _ h'), by cases r <;> rfl⟩
    | dct h' r => exact .inr (.inr ⟨_, s1.sub _ _ h', by cases r <;> rfl⟩)
    | tpf _ _ _ => exact o.elim
/-! ### tuple(..), list(..), any -/
theorem c_tuple {x : D} {ds : List D} (e : x = .lst ds ∨ x = .tup ds) (q : k (.tup ds)) : dC K hs (fun xs H Q => ∃ p ys, xs = [.ref p] ∧ ((SqL K H p ys ∧ ∀ l, H l = none → Q (.ref l) (upd H l (.tup ys))) ∨ (SqT K H p ys ∧ Q (.ref p) H))) [x] k := fun G H vs Q f r z => by
  cases r with
  | cons r1 r2 =>
    cases r2
    rcases e with rfl | rfl
    · obtain ⟨a, ws, rfl, hh, r⟩ := rel_lst r1
      refine ⟨a, ws, rfl, .inl ⟨SqL.of (f.sub _ _ hh), fun p hp => ?_⟩⟩
      have s2 := Step.alloc (o := .tup ws) f.sub f.st hp
      exact z _ _ _ _ s2 (.tup (.inl (.inl upd_same)) (r.mono s2.exg)) q
    · obtain ⟨a, ws, rfl, hh, r⟩ := rel_tup r1
      exact ⟨a, ws, rfl, .inr ⟨Same.tseq f.sub hh, z _ G H _ f.refl r1 q⟩⟩
theorem l_list {kl : List D → Prop} (h : dA K hs tx ρ fun xs => ∃ x ds, xs = [x] ∧ (x = .lst ds ∨ x = .tup ds) ∧ kl ds) :
    dL K hs (tCB (fun xs H Q => ∃ p ys, xs = [.ref p] ∧ (SqL K H p ys ∨ SqT K H p ys) ∧ ∀ l, H l = none → Q (.ref l) (upd H l (.lst ys))) tx) ρ kl := fun H0 σ G H Q f R z =>
  h H0 σ G H _ f R fun vs G1 H1 xs s1 r1 ⟨x, ds, e, e2, q⟩ => by
    subst e
    cases r1 with
    | cons r1 r2 =>
      cases r2
      rcases e2 with rfl | rfl
      · obtain ⟨a, ws, rfl, hh, r⟩ := rel_lst r1
        exact ⟨a, ws, rfl, .inl (SqL.of (s1.sub _ _ hh)), fun p hp => z p ws G1 _ _ (s1.trans (Step.fresh s1.sub s1.st hp)) (s1.back hp) (Same.free s1.sub hp) upd_same r q⟩
      · obtain ⟨a, ws, rfl, hh, r⟩ := rel_tup r1
        exact ⟨a, ws, rfl, .inr (Same.tseq s1.sub hh), fun p hp => z p ws G1 _ _ (s1.trans (Step.fresh s1.sub s1.st hp)) (s1.back hp) (Same.free s1.sub hp) upd_same r q⟩
theorem rel_bls {G : Hp} : ∀ {vs : List V} {bs : List Bool}, RelL K G vs (bs.map D.bl) → vs = bs.map V.bl
  | _, [], .nil => rfl
  | _, s :: ss, .cons r t => by rw [rel_bl r, rel_bls t]; rfl
theorem rel_ints {G : Hp} : ∀ {vs : List V} {bs : List Int}, RelL K G vs (bs.map D.int) → vs = bs.map V.int
  | _, [], .nil => rfl
  | _, s :: ss, .cons r t => by rw [rel_int r, rel_ints t]; rfl
theorem c_any {bs : List Bool} (q : k (.bl (bs.any id))) : dC K hs (rAny K) [.lst (bs.map D.bl)] k := fun G H vs Q f r z => by
  cases r with
  | cons r1 r2 =>
    cases r2
    obtain ⟨a, ws, rfl, hh, r⟩ := rel_lst r1
    have e := rel_bls r
    subst e
    exact ⟨a, bs, rfl, SqL.of (f.sub _ _ hh), z _ G H _ f.refl .bl q⟩
theorem c_sum {ns : List Int} (q : k (.int ns.sum)) : dC K hs (rSum K) [.lst (ns.map D.int)] k := fun G H vs Q f r z => by
  cases r with
  | cons r1 r2 =>
    cases r2
    obtain ⟨a, ws, rfl, hh, r⟩ := rel_lst r1
    have e := rel_ints r
    subst e
    exact ⟨a, ns, rfl, SqL.of (f.sub _ _ hh), z _ G H _ f.refl .int q⟩
theorem c_max2 {i j : Int} (q : k (.int (if j > i then j else i))) : dC K hs (fun xs H Q => ∃ i j, xs = [.int i, .int j] ∧ Q (.int (if j > i then j else i)) H) [.int i, .int j] k := fun G H vs Q f r z => by
  cases r with
  | cons r1 r2 =>
    cases r2 with
    | cons r2 r3 =>
      cases r3
      rw [rel_int r1, rel_int r2]
      exact ⟨i, j, rfl, z _ G H _ f.refl .int q⟩
theorem c_int1 {b : Bool} (q : k (.int (if b then 1 else 0))) : dC K hs (fun xs H Q => (∃ i, xs = [.int i] ∧ Q (.int i) H) ∨ ∃ k, xs = [.bl k] ∧ Q (.int (if k then 1 else 0)) H) [.bl b] k := fun G H vs Q f r z => by
  cases r with
  | cons r1 r2 =>
    cases r2
    rw [rel_bl r1]
    exact .inr ⟨b, rfl, z _ G H _ f.refl .int q⟩
/-! ### dicts -/
def lookD (ks : List (Str × D)) (s : Str) : Option D := (ks.find? fun kv => decide (kv.1 = s)).map (·.2)
theorem rel_look {G : Hp} {s : Str} : ∀ {kvs : List (Key × V)} {ks : List (Str × D)}, RelK K G kvs ks → (∀ d, lookD ks s = some d → ∃ v, valV kvs (Sum.inr s) = some v ∧ Rel K G v d) ∧ (lookD ks s = none → valV kvs (Sum.inr s) = none)
  | _, _, .nil => ⟨fun d e => (by cases e), fun _ => rfl⟩
  | _, _, .cons (k := x) (v := v0) (vs := vs) (d := d0) (ds := ds) r t => by
    obtain ⟨h1, h2⟩ := rel_look (s := s) t
    unfold lookD valV at h1 h2 ⊢
    by_cases e : x = s
    · subst e
      have f1 : (((Sum.inr x : Key), v0) :: vs).find? (fun kv => decide (kv.1 = Sum.inr x)) = some (Sum.inr x, v0) := by simp
      have f2 : ((x, d0) :: ds).find? (fun kv => decide (kv.1 = x)) = some (x, d0) := by simp
      rw [f1, f2]
      refine ⟨fun d q => ?_, fun q => ?_⟩
      · cases q
        exact ⟨_, rfl, r⟩
      · cases q
    · have f1 : (((Sum.inr x : Key), v0) :: vs).find? (fun kv => decide (kv.1 = Sum.inr s)) = vs.find? (fun kv => decide (kv.1 = Sum.inr s)) := by
        have : ¬ (Sum.inr x : Key) = Sum.inr s := fun q => e (Sum.inr.inj q)
        simp [List.find?_cons, this]
      have f2 : ((x, d0) :: ds).find? (fun kv => decide (kv.1 = s)) = ds.find? (fun kv => decide (kv.1 = s)) := by simp [List.find?_cons, e]
      rw [f1, f2]
      exact ⟨h1, h2⟩
theorem d_dget (h : dE K hs ta ρ fun x => dE K hs tb ρ fun y => ∃ ks s d, x = .dct ks ∧ y = .str s ∧ lookD ks s = some d ∧ k d) : dE K hs (tDGet ta tb) ρ k := fun H0 σ G H Q f R z =>
  h H0 σ G H _ f R fun v G1 H1 x s1 r1 h1 => h1 H0 σ G1 H1 _ s1.fr (R.step s1) fun w G2 H2 y s2 r2 ⟨ks, s, d, e1, e2, e3, q⟩ => by
    subst e1 e2
    obtain ⟨a, kvs, rfl, hh, r⟩ := rel_dct (r1.mono s2.exg)
    obtain ⟨v', h3, h4⟩ := (rel_look (s := s) r).1 d e3
    refine ⟨a, v', rfl, .inl ⟨kvs, Sum.inr s, .inl (s2.sub _ _ hh), by rw [rel_str r2]; rfl, h3.symm⟩, z _ G2 H2 d (s1.trans s2) h4 q⟩
theorem d_dget1 (h : dE K hs ta ρ fun x => ∃ ks, x = .dct ks ∧ dE K hs tb ρ fun y => ∃ s, y = .str s ∧ k ((lookD ks s).getD .non)) : dE K hs (tDGet1 ta tb) ρ k := fun H0 σ G H Q f R z =>
  h H0 σ G H _ f R fun v G1 H1 x s1 r1 ⟨ks, e0, h1⟩ => by
    subst e0
    obtain ⟨a, kvs, rfl, hh, r⟩ := rel_dct r1
    refine ⟨a, rfl, .inl ⟨kvs, .inl (s1.sub _ _ hh)⟩, h1 H0 σ G1 H1 _ s1.fr (R.step s1) fun w G2 H2 y s2 r2 ⟨s, e2, q⟩ => ?_⟩
    subst e2
    obtain ⟨g1, g2⟩ := rel_look (s := s) (r.mono s2.exg)
    refine ⟨valV kvs (Sum.inr s), .inl ⟨kvs, Sum.inr s, .inl (s2.sub _ _ (s2.exg _ _ hh)), by rw [rel_str r2]; rfl, rfl⟩, ?_⟩
    cases e : lookD ks s with
    | none =>
      rw [e] at q
      rw [g2 e]
      exact z _ G2 H2 _ (s1.trans s2) .non q
    | some d =>
      rw [e] at q
      obtain ⟨v', h3, h4⟩ := g1 d e
      rw [h3]
      exact z _ G2 H2 _ (s1.trans s2) h4 q
theorem d_dget2 (h : dE K hs ta ρ fun x => ∃ ks, x = .dct ks ∧ dE K hs tb ρ fun y => dE K hs tc ρ fun x' => ∃ s, y = .str s ∧ k ((lookD ks s).getD x')) : dE K hs (tDGet2 ta tb tc) ρ k := fun H0 σ G H Q f R z =>
  h H0 σ G H _ f R fun v G1 H1 x s1 r1 ⟨ks, e0, h1⟩ => by
    subst e0
    obtain ⟨a, kvs, rfl, hh, r⟩ := rel_dct r1
    refine ⟨a, rfl, .inl ⟨kvs, .inl (s1.sub _ _ hh)⟩, h1 H0 σ G1 H1 _ s1.fr (R.step s1) fun w G2 H2 y s2 r2 h2 => h2 H0 σ G2 H2 _ s2.fr (R.step (s1.trans s2)) fun u G3 H3 x' s3 r3 ⟨s, e2, q⟩ => ?_⟩
    subst e2
    obtain ⟨g1, g2⟩ := rel_look (s := s) (r.mono (s2.trans s3).exg)
    refine ⟨valV kvs (Sum.inr s), .inl ⟨kvs, Sum.inr s, .inl (s3.sub _ _ ((s2.trans s3).exg _ _ hh)), by rw [rel_str r2]; rfl, rfl⟩, ?_⟩
    cases e : lookD ks s with
    | none =>
      rw [e] at q
      rw [g2 e]
      exact z _ G3 H3 _ ((s1.trans s2).trans s3) r3 q
    | some d =>
      rw [e] at q
      obtain ⟨v', h3, h4⟩ := g1 d e
      rw [h3]
      exact z _ G3 H3 _ ((s1.trans s2).trans s3) h4 q

end
/-! ### dicts of the module (text keys) -/
def tKGet (K : PySem.W.Frag) (w : World) (d : Addr) (ty : TE) : TE := fun σ H Q => ty σ H fun y H2 => ∃ z r, y = .str z ∧ PySem.W.nsIn K d z = some r ∧ (r = none → Q .non H2) ∧ ∀ u0, r = some u0 → ∃ v0, RelV v0 u0 ∧ Q v0 H2
theorem kd_get1 {X : Cx} {d : Addr} {es : Array DictEntry} {n : Nat} {x : Str} {e : Expr} {p apos cpos : Pos} {ty : TE} (Dk : KDict X.K X.w d es n) (hg : Gl X x) (hm : X.mg x = some (.ref d)) (he : PE X e ty) (m : M1 X (.Name x p) "get" apos e cpos) (hd : (x == ("__debug__" : Str)) = false := by decide) :
    PE X (.Call (.Attribute (.Name x p) "get" apos) [e] [] cpos) (tKGet X.K X.w d ty) := by
  refine ⟨fun pins s σ H Q I h => ?_⟩
  refine PySem.wpAny_Call_method m.base m.few m.line PySem.F.plainAttrs_dict PySem.F.slot_dict_get PySem.F.type_dict_get (ld_glob I hg hm ?_ hd)
  refine ⟨kd_type Dk I, fun b q => ?_, ?_⟩
  · cases q
    exact ⟨_, I.kIn _ _ Dk.at_, rfl⟩
  rw [m.trees]
  refine Calls.callWith_builtin rfl (Calls.evalArgs_plain (Calls.spliced_cons (thn (he.run pins s σ H _ I h) fun iv s2 ⟨y, H2, I2, ry, z, r, ey, en, q1, q2⟩ => Calls.spliced_nil ?_)))
  subst ey
  obtain ⟨t, rfl⟩ := ry
  refine PySem.call_meetsIn PySem.F.slot_dict_get (kd_type Dk I2) PySem.F.entry_dict_get (PySem.F.args_dict_get_2 _ _) (PySem.meets_dict_get (strKind X.prog X.w) d (PySem.strKind_is X.prog X.w z t) Dk.low) ⟨_, PySem.W.mapOf_K (prog := X.prog) I2.kIn Dk.at_ Dk.lit, ?_⟩
  rw [PySem.W.find_K Dk.at_ en]
  cases r with
  | none => exact ⟨.non, H2, I2.tok _, rfl, q1 rfl⟩
  | some u0 =>
    obtain ⟨v0, r0, q0⟩ := q2 u0 rfl
    exact ⟨v0, H2, I2.tok _, r0, q0⟩
/-- what a dict of the module gives for a key -/
def KHas (K : PySem.W.Frag) (d : Addr) (s : Str) (x : Option D) : Prop := match x with
  | none => PySem.W.nsIn K d s = some none
  | some x => ∃ u v, PySem.W.nsIn K d s = some (some u) ∧ RelV v u ∧ ∀ G, Rel K G v x
section
variable {K : PySem.W.Frag} {hs : Option (Addr × Addr)} {ρ : List Sl} {k : D → Prop} {ta tb tc te : TE} {w : World} {d : Addr}
theorem d_kget (h : dE K hs te ρ fun y => ∃ s x, y = .str s ∧ KHas K d s x ∧ k (x.getD .non)) : dE K hs (tKGet K w d te) ρ k := fun H0 σ G H Q f R z =>
  h H0 σ G H _ f R fun v G1 H1 y s1 r1 ⟨s, x, e, kh, q⟩ => by
    subst e
    cases x with
    | none => exact ⟨s, none, rel_str r1, kh, fun _ => z _ G1 H1 _ s1 .non q, fun u0 e => (by cases e)⟩
    | some x =>
      obtain ⟨u, v', h1, h2, h3⟩ := kh
      refine ⟨s, some u, rel_str r1, h1, fun e => (by cases e), fun u0 e => ?_⟩
      cases e
      exact ⟨v', h2, z _ G1 H1 _ s1 (h3 _) q⟩
theorem r_inK {s : Str} {x : Option D} (kh : KHas K d s x) (q : k (.bl x.isSome)) : dR K hs (fun x y H Q => ∃ (z : Str) (r : Option Value), x = .str z ∧ y = .ref d ∧ PySem.W.nsIn K d z = some r ∧ Q (.bl r.isSome) H) (.str s) (.adr d) k := fun G H v u Q f r1 r2 z => by
  cases x with
  | none => exact ⟨s, none, rel_str r1, rel_adr r2, kh, z _ G H _ f.refl .bl q⟩
  | some x =>
    obtain ⟨u', v', h1, h2, h3⟩ := kh
    exact ⟨s, some u', rel_str r1, rel_adr r2, h1, z _ G H _ f.refl .bl q⟩
theorem r_ixK {s : Str} {x : D} {es : Array DictEntry} {n : Nat} (Dk : KDict K w d es n) (kh : KHas K d s (some x)) (q : k x) : dR K hs (rIxD K w) (.adr d) (.str s) k := fun G H v u Q f r1 r2 z => by
  obtain ⟨u', v', h1, h2, h3⟩ := kh
  exact ⟨d, s, v', rel_adr r1, rel_str r2, ⟨es, n, u', Dk.at_, Dk.lit, h1, h2⟩, z _ G H _ f.refl (h3 _) q⟩
end

section
variable {K : PySem.W.Frag} {hs : Option (Addr × Addr)} {ρ : List Sl} {k : D → Prop} {te : TE} {tt : TT} {t : TS} {E : DEnds} {g : TG} {js : List Nat}
theorem forW_nil (h : E.nx ρ) : forW K hs g t E [] ρ := h
theorem forW_cons {d : D} {r : List D} (h : dG K hs g none d ρ fun ρ' => dS K hs t ρ' { nx := forW K hs g t E r, rt := E.rt, bk := E.nx, ct := forW K hs g t E r }) : forW K hs g t E (d :: r) ρ := h
theorem forW_id {ds : List D} (h : forW K hs g t E ds ρ) : forW K hs g t E ds ρ := h
theorem g_tid {gs : TGs} {js : Option (List Nat)} {n : Nat} {d : D} {kr : List Sl → Prop} (h : dG K hs (gTup K n gs) js d ρ kr) : dG K hs (gTup K n gs) js d ρ kr := h
theorem forW_pair {x y : D} {xs ys : List D} (h : dG K hs g none (.tup [x, y]) ρ fun ρ' => dS K hs t ρ' { nx := forW K hs g t E (pairUp xs ys), rt := E.rt, bk := E.nx, ct := forW K hs g t E (pairUp xs ys) }) : forW K hs g t E (pairUp (x :: xs) (y :: ys)) ρ := h
theorem forW_pnil {ys : List D} (h : E.nx ρ) : forW K hs g t E (pairUp [] ys) ρ := h
theorem d_slT1 (h : dE K hs te ρ fun x => ∃ d r, x = .tup (d :: r) ∧ k (.tup r)) : dE K hs (tSl (rSlA K) te (tPart (tC (.int 1))) tNoPart) ρ k := d_slT fun H0 σ G H Q f R z => h H0 σ G H Q f R fun v G' H' x s r ⟨d, l, e, q⟩ => z v G' H' x s r (o_part (d_c rfl ⟨1, rfl, o_no ⟨_, e, by
  have : cutD (d :: l) (some 1) none = l := by
    unfold cutD
    rw [HT.sIx_none, show HT.sIx (d :: l).length 0 (some 1) = 1 from by rw [show (1 : Int) = ((1 : Nat) : Int) from rfl, HT.sIx_nat]; simp]
    simp
  rw [this]
  exact q⟩⟩))
theorem d_slT3 (h : dE K hs te ρ fun x => ∃ a b c r, x = .tup (a :: b :: c :: r) ∧ k (.tup [a, b, c])) : dE K hs (tSl (rSlA K) te tNoPart (tPart (tC (.int 3)))) ρ k := d_slT fun H0 σ G H Q f R z => h H0 σ G H Q f R fun v G' H' x s r ⟨a, b, c, l, e, q⟩ => z v G' H' x s r (o_no (o_part (d_c rfl ⟨3, rfl, ⟨_, e, by
  have : cutD (a :: b :: c :: l) none (some 3) = [a, b, c] := by
    unfold cutD
    rw [HT.sIx_none, show HT.sIx (a :: b :: c :: l).length (a :: b :: c :: l).length (some 3) = 3 from by rw [show (3 : Int) = ((3 : Nat) : Int) from rfl, HT.sIx_nat]; simp]
    simp
  rw [this]
  exact q⟩⟩)))
theorem d_slT13 (h : dE K hs te ρ fun x => ∃ a b c r, x = .tup (a :: b :: c :: r) ∧ k (.tup [b, c])) : dE K hs (tSl (rSlA K) te (tPart (tC (.int 1))) (tPart (tC (.int 3)))) ρ k := d_slT fun H0 σ G H Q f R z => h H0 σ G H Q f R fun v G' H' x s r ⟨a, b, c, l, e, q⟩ => z v G' H' x s r (o_part (d_c rfl ⟨1, rfl, (o_part (d_c rfl ⟨3, rfl, ⟨_, e, by
  have : cutD (a :: b :: c :: l) (some 1) (some 3) = [b, c] := by
    unfold cutD
    rw [show HT.sIx (a :: b :: c :: l).length 0 (some 1) = 1 from by rw [show (1 : Int) = ((1 : Nat) : Int) from rfl, HT.sIx_nat]; simp, show HT.sIx (a :: b :: c :: l).length (a :: b :: c :: l).length (some 3) = 3 from by rw [show (3 : Int) = ((3 : Nat) : Int) from rfl, HT.sIx_nat]; simp]
    simp
  rw [this]
  exact q⟩⟩))⟩))
theorem lcW_nil {kl : List D → Prop} {acc : List D} (h : kl acc) : lcW K hs g js tt te ρ kl [] acc := h
theorem lcW_cons {kl : List D → Prop} {acc : List D} {d : D} {r : List D} (h : dG K hs g (some js) d ρ fun ρ' => dT K hs tt ρ' fun b => (b = true → dE K hs te ρ' fun y => lcW K hs g js tt te ρ kl r (acc ++ [y])) ∧ (b = false → lcW K hs g js tt te ρ kl r acc)) : lcW K hs g js tt te ρ kl (d :: r) acc := h
theorem d_lc {ti : TI} {vs : List Nat} (h : dI K hs ti ρ fun ds => ds.length ≤ 50000 ∧ lcW K hs g vs tt te (wipeR ρ vs) (fun ds => k (.lst ds)) ds []) : dE K hs (tLc ti g tt te vs) ρ k := d_ofL (l_lc h)
theorem s_setL {ti : TI} {vs : List Nat} {i : Nat} (h : dI K hs ti ρ fun ds => ds.length ≤ 50000 ∧ lcW K hs g vs tt te (wipeR ρ vs) (fun ds => E.nx (ρ.set i (.d (.lst ds)))) ds []) : dS K hs (tAsg (tLc ti g tt te vs) (gName i)) ρ E := s_set (d_lc h)
end

/-! ### defs by names -/
def DefT (K : PySem.W.Frag) (mg : Str → Option Value) (x : Str) (st : Stmt) : Prop := ∃ f fd, mg x = some (.ref f) ∧ FunD K x x (defArgs st) (defBody st) (defScope st) [] [] f fd
/-- a def of the module that keeps its promise by data -/
theorem fd_look {K : PySem.W.Frag} {x qual : Str} {params : Arguments} {body : List Stmt} {scope : Scope} {dvs : List V} {kws : List (Str × V)} {f : Addr} {fd : FuncData} (F : FunD K x qual params body scope dvs kws f fd) : ∃ (oc : Value) (od : Option Addr) (osl : Array (Option Value)), K.lookup f = some ⟨oc, od, .func fd, osl⟩ := by
  obtain ⟨oc, od, _, _, _, _, _, _, _, osl, _, lk, _⟩ := F.ex
  exact ⟨oc, od, osl, lk⟩
structure CalF (P : Program) (w : World) (K : PySem.W.Frag) (mg : Str → Option Value) (base : Heap) (k : Nat) (x : Str) (ps : List Str) (hs : Option (Addr × Addr)) (M : List D → (D → Prop) → Prop) (f : Addr) (fd : FuncData) : Prop where
  at_ : mg x = some (.ref f)
  keep : PySem.W.keepIn K (.ref f) = true
  binds : Binds K fd ps []
  look : ∃ (oc : Value) (od : Option Addr) (osl : Array (Option Value)), K.lookup f = some ⟨oc, od, .func fd, osl⟩
  ok : FnOk P w K mg base CX0 k f fd ps (spD K hs M)
def Cal (P : Program) (w : World) (K : PySem.W.Frag) (mg : Str → Option Value) (base : Heap) (k : Nat) (x : Str) (ps : List Str) (hs : Option (Addr × Addr)) (M : List D → (D → Prop) → Prop) : Prop := ∃ f fd, CalF P w K mg base k x ps hs M f fd
section
variable {P : Program} {w : World} {K : PySem.W.Frag} {mg : Str → Option Value} {base : Heap} {hs : Option (Addr × Addr)} {x : Str} {st : Stmt} {N ps : List Str} {k j : Nat} {M M' : List D → (D → Prop) → Prop}
theorem Cal.mono (C : Cal P w K mg base k x ps hs M) (h : k ≤ j) : Cal P w K mg base j x ps hs M := by
  obtain ⟨f, fd, a, b, c, l, d⟩ := C
  exact ⟨f, fd, a, b, c, l, d.mono h⟩
theorem Cal.imp (C : Cal P w K mg base k x ps hs M) (h : ∀ ds kk, M' ds kk → M ds kk) : Cal P w K mg base k x ps hs M' := by
  obtain ⟨f, fd, a, b, c, l, d⟩ := C
  exact ⟨f, fd, a, b, c, l, FnOk.impD d h⟩
theorem okF (F : DefT K mg x st) (S : FnScope N ps (defScope st))
    (hb : ∀ (kV doc pm : Value) (an : Option Addr) (cdv ct : Value) (us : List Value), us.length = ps.length → bindArgs (PySem.W.fnOf x x (defArgs st) (defBody st) (defScope st) .none kV doc pm an cdv ct) ⟨us, []⟩ = pure (ps.zip us))
    (len : ∀ ds k, M ds k → ds.length = ps.length)
    (hbody : ∀ (f : Addr) (cdv : Value) (A : Around) (outer : List Env) (s : Shared) (H : Hp) (E : XK) (ds : List D) (kk : D → Prop), Room k (A.deeper (PyProof.Rows.envOfC x (defScope st) s.heap.objs.size f cdv)) → M ds kk →
      ∃ t, PSs (cxOf CX0 P w K mg base N x (defScope st) f cdv A outer s H E).nox (defBody st) t ∧ dS K hs t (startD N ds) { nx := fun _ => kk .non, rt := kk }) : Cal P w K mg base (k + 1) x ps hs M := by
  obtain ⟨f, fd, h1, h2⟩ := F
  refine ⟨f, fd, h1, h2.kp, h2.bindsN hb, fd_look h2, ?_⟩
  refine h2.ok S (fun vs H Q E h => ?_) (fun cdv A outer s H vs Q E hr h => ?_)
  · obtain ⟨G, ds, kk, _, r, m, _⟩ := h
    rw [r.length]
    exact len ds kk m
  · obtain ⟨G, ds, kk, fr, r, m, z⟩ := h
    obtain ⟨t, ht, hd⟩ := hbody f cdv A outer s H E ds kk hr m
    exact ⟨t, ht.nox, hd G H G _ G H _ fr.refl (Same.refl G) (env_start r) ⟨fun σ G' H' ρ s' _ _ q => z _ G' H' _ s' .non q, fun v G' H' d s' r' q => z v G' H' d s' r' q, fun _ _ _ _ _ _ _ q => q.elim, fun _ _ _ _ _ _ _ q => q.elim⟩⟩
theorem pe_gref {X : Cx} {x : Str} {a : Addr} {pos : Pos} (hg : Gl X x) (hm : X.mg x = some (.ref a)) (hd : (x == ("__debug__" : Str)) = false := by decide) : PE X (.Name x pos) (tC (.ref a)) := pe_glob (v := .ref a) hg hm rfl hd
theorem pe_gint {X : Cx} {x : Str} {i : Int} {t : Tok} {pos : Pos} (hg : Gl X x) (hm : X.mg x = some (.int i t)) (hd : (x == ("__debug__" : Str)) = false := by decide) : PE X (.Name x pos) (tC (.int i)) := pe_glob (v := .int i) hg hm ⟨t, rfl⟩ hd
theorem pe_bty {X : Cx} {x : Str} {n : String} {pos : Pos} (hg : Gl X x) (hm : X.mg x = none) (hv : bootBuiltins x = some (.type n)) (hn : x ≠ "__name__" := by decide) (hd : (x == ("__debug__" : Str)) = false := by decide) : PE X (.Name x pos) (tC (.ty n)) := pe_bltn (v := .ty n) hg hm hv rfl hn hd
abbrev rLenQ (K : PySem.W.Frag) : List V → Hp → VK → Prop := fun xs H Q => ∃ p ys, xs = [.ref p] ∧ (SqL K H p ys ∨ SqT K H p ys) ∧ Q (.int ys.length) H
abbrev rTupQ (K : PySem.W.Frag) : List V → Hp → VK → Prop := fun xs H Q => ∃ p ys, xs = [.ref p] ∧ ((SqL K H p ys ∧ ∀ l, H l = none → Q (.ref l) (upd H l (.tup ys))) ∨ (SqT K H p ys ∧ Q (.ref p) H))
abbrev rListQ (K : PySem.W.Frag) : List V → Hp → VK → Prop := fun xs H Q => ∃ p ys, xs = [.ref p] ∧ (SqL K H p ys ∨ SqT K H p ys) ∧ ∀ l, H l = none → Q (.ref l) (upd H l (.lst ys))
theorem pg_tupK {X : Cx} {K : PySem.W.Frag} {es : List Expr} {k n : Nat} {t : TGs} {pos : Pos} (hK : X.K = K) (hc : X.calm = true) (h : PGs X es t)
    (hn : (assignEach es X.env).length = n := by rfl) (hst : (assignEach es X.env).findIdx? (·.1) = none := by rfl) : PG X (.Tuple es k pos) (gTup K n t) := by
  subst hK
  exact pg_tup hc h hn hst
/-- f(e, ..) -/
theorem pe_calK {X : Cx} {K : PySem.W.Frag} {e : Expr} {es : List Expr} {t : TA} {p pos : Pos} (hK : X.K = K) (C : Cal X.prog X.w X.K X.mg X.base k x ps hs M) (hr : Room k X.A) (hg : Gl X x) (ha : PA X (e :: es) t) (hdb : (x == ("__debug__" : Str)) = false := by decide)
    (he : starEach (e :: es) X.env = (false, eval e X.env) :: starEach es X.env := by rfl) (hpl : (backTo pos (starEach es X.env)).any (·.1) = false := by rfl) : PE X (.Call (.Name x p) (e :: es) [] pos) (tCall (spD K hs M) [] E0 t) := by
  subst hK
  obtain ⟨f, fd, a, b, c, _, d⟩ := C
  exact pe_call d hr hg a b c .nil pass0 ha hdb he hpl
theorem pe_cal {X : Cx} {e : Expr} {es : List Expr} {t : TA} {p pos : Pos} (C : Cal X.prog X.w X.K X.mg X.base k x ps hs M) (hr : Room k X.A) (hg : Gl X x) (ha : PA X (e :: es) t) (hdb : (x == ("__debug__" : Str)) = false := by decide)
    (he : starEach (e :: es) X.env = (false, eval e X.env) :: starEach es X.env := by rfl) (hpl : (backTo pos (starEach es X.env)).any (·.1) = false := by rfl) : PE X (.Call (.Name x p) (e :: es) [] pos) (tCall (spD X.K hs M) [] E0 t) := by
  obtain ⟨f, fd, a, b, c, _, d⟩ := C
  exact pe_call d hr hg a b c .nil pass0 ha hdb he hpl
end

/-! ### defs with defaults -/
def DefV (K : PySem.W.Frag) (mg : Str → Option Value) (x : Str) (st : Stmt) (dvs : List V) : Prop := ∃ f fd, mg x = some (.ref f) ∧ FunD K x x (defArgs st) (defBody st) (defScope st) dvs [] f fd
def CalV (P : Program) (w : World) (K : PySem.W.Frag) (mg : Str → Option Value) (base : Heap) (k : Nat) (x : Str) (ps : List Str) (hs : Option (Addr × Addr)) (M : List D → (D → Prop) → Prop) (dvs : List V) : Prop :=
  ∃ f fd ds, CalF P w K mg base k x ps hs M f fd ∧ Vals dvs ds ∧ Binds K fd ps ds
section
variable {P : Program} {w : World} {K : PySem.W.Frag} {mg : Str → Option Value} {base : Heap} {hs : Option (Addr × Addr)} {x : Str} {st : Stmt} {N ps : List Str} {k j : Nat} {M M' : List D → (D → Prop) → Prop} {dvs : List V}
theorem CalV.cal (C : CalV P w K mg base k x ps hs M dvs) : Cal P w K mg base k x ps hs M := by
  obtain ⟨f, fd, ds, c, _⟩ := C
  exact ⟨f, fd, c⟩
theorem CalV.mono (C : CalV P w K mg base k x ps hs M dvs) (h : k ≤ j) : CalV P w K mg base j x ps hs M dvs := by
  obtain ⟨f, fd, ds, ⟨a, b, c, l, d⟩, e⟩ := C
  exact ⟨f, fd, ds, ⟨a, b, c, l, d.mono h⟩, e⟩
theorem okV (F : DefV K mg x st dvs) (S : FnScope N ps (defScope st)) (n : Nat) (hd : dvs ≠ []) (hn : n + dvs.length = ps.length)
    (hb : ∀ (T : Addr) (kV doc pm : Value) (an : Option Addr) (cdv ct : Value) (us its : List Value), us.length = n → its.length = dvs.length →
      ∃ k, bindArgs (PySem.W.fnOf x x (defArgs st) (defBody st) (defScope st) (.ref T) kV doc pm an cdv ct) ⟨us, []⟩ = seqItems? (.ref T) >>= k ∧ k (some its.toArray) = pure (ps.zip (us ++ its)))
    (hf : ∀ (T : Addr) (kV doc pm : Value) (an : Option Addr) (cdv ct : Value) (us its : List Value), us.length = ps.length → its.length = dvs.length →
      ∃ k, bindArgs (PySem.W.fnOf x x (defArgs st) (defBody st) (defScope st) (.ref T) kV doc pm an cdv ct) ⟨us, []⟩ = seqItems? (.ref T) >>= k ∧ k (some its.toArray) = pure (ps.zip us))
    (len : ∀ ds k, M ds k → ds.length = ps.length)
    (hbody : ∀ (f : Addr) (cdv : Value) (A : Around) (outer : List Env) (s : Shared) (H : Hp) (E : XK) (ds : List D) (kk : D → Prop), Room k (A.deeper (PyProof.Rows.envOfC x (defScope st) s.heap.objs.size f cdv)) → M ds kk →
      ∃ t, PSs (cxOf CX0 P w K mg base N x (defScope st) f cdv A outer s H E).nox (defBody st) t ∧ dS K hs t (startD N ds) { nx := fun _ => kk .non, rt := kk }) : CalV P w K mg base (k + 1) x ps hs M dvs := by
  obtain ⟨f, fd, h1, h2⟩ := F
  have b1 := h2.binds1 (ps := ps) n 0 hd (by rw [Nat.sub_zero]; exact hn) fun T kV doc pm an cdv ct us its h3 h4 => by
    obtain ⟨q, q1, q2⟩ := hb T kV doc pm an cdv ct us its h3 h4
    exact ⟨q, q1, by rw [List.drop_zero]; exact q2⟩
  have b2 := h2.binds1 (ps := ps) ps.length dvs.length hd (by omega) fun T kV doc pm an cdv ct us its h3 h4 => by
    obtain ⟨q, q1, q2⟩ := hf T kV doc pm an cdv ct us its h3 h4
    refine ⟨q, q1, ?_⟩
    rw [List.drop_eq_nil_of_le (by omega), List.append_nil]
    exact q2
  obtain ⟨ds1, v1, b1⟩ := b1
  obtain ⟨ds2, v2, b2⟩ := b2
  rw [List.drop_eq_nil_of_le (Nat.le_refl _)] at v2
  cases v2
  refine ⟨f, fd, ds1, ⟨h1, h2.kp, b2, fd_look h2, ?_⟩, v1, b1⟩
  refine h2.ok S (fun vs H Q E h => ?_) (fun cdv A outer s H vs Q E hr h => ?_)
  · obtain ⟨G, ds, kk, _, r, m, _⟩ := h
    rw [r.length]
    exact len ds kk m
  · obtain ⟨G, ds, kk, fr, r, m, z⟩ := h
    obtain ⟨t, ht, hd⟩ := hbody f cdv A outer s H E ds kk hr m
    exact ⟨t, ht.nox, hd G H G _ G H _ fr.refl (Same.refl G) (env_start r) ⟨fun σ G' H' ρ s' _ _ q => z _ G' H' _ s' .non q, fun v G' H' d s' r' q => z v G' H' d s' r' q, fun _ _ _ _ _ _ _ q => q.elim, fun _ _ _ _ _ _ _ q => q.elim⟩⟩
/-- f(e, ..), the defaults fill up -/
theorem pe_calD {X : Cx} {e : Expr} {es : List Expr} {t : TA} {p pos : Pos} (C : CalV X.prog X.w X.K X.mg X.base k x ps hs M dvs) (hr : Room k X.A) (hg : Gl X x) (ha : PA X (e :: es) t) (hdb : (x == ("__debug__" : Str)) = false := by decide)
    (he : starEach (e :: es) X.env = (false, eval e X.env) :: starEach es X.env := by rfl) (hpl : (backTo pos (starEach es X.env)).any (·.1) = false := by rfl) : PE X (.Call (.Name x p) (e :: es) [] pos) (tCall (spD X.K hs M) dvs E0 t) := by
  obtain ⟨f, fd, ds, ⟨a, b, c, _, d⟩, v, bb⟩ := C
  exact pe_call d hr hg a b bb v pass0 ha hdb he hpl
theorem d_callV {ρ : List Sl} {kk : D → Prop} {tx : TA} {X : XK} {dds : List D} (hv : ∀ G, RelL K G dvs dds) (h : dA K hs tx ρ fun ds => M (ds ++ dds) kk) : dE K hs (tCall (spD K none M) dvs X tx) ρ kk := fun H0 σ G H Q f R z =>
  h H0 σ G H _ f R fun vs G1 H1 ds s1 r q => ⟨G1, ds ++ dds, kk, s1.fr.none, r.append (hv _), q, fun v G2 H2 d s2 r2 q2 => z v G2 H2 d (s1.trans (s2.lift s1.fr)) r2 q2⟩
end
end PD
set_option Elab.async false
set_option linter.all false
set_option maxRecDepth 100000
set_option maxHeartbeats 1000000
namespace PD
open PySem L2
section
variable {K : PySem.W.Frag} {hs : Option (Addr × Addr)} {ρ : List Sl} {k : D → Prop}
theorem eqvAll_strs : ∀ {ss ts : List Str}, PyData.eqvAll (ss.map PyData.str) (ts.map PyData.str) = decide (ss = ts)
  | [], [] => by simp [PyData.eqvAll]
  | [], _ :: _ => by simp [PyData.eqvAll]
  | _ :: _, [] => by simp [PyData.eqvAll]
  | s :: ss, t :: ts => by
    rw [List.map_cons, List.map_cons, PyData.eqvAll, eqvAll_strs (ss := ss) (ts := ts), PyData.eqv]
    by_cases e : s = t <;> by_cases f : ss = ts <;> simp [e, f]
theorem canLay_strs : ∀ {ss : List Str}, (∀ s ∈ ss, PyData.strOk s = true) → PyData.canLayAll0 (ss.map PyData.str) = true
  | [], _ => rfl
  | s :: ss, h => by
    rw [List.map_cons, PyData.canLayAll0, canLay_strs fun x hx => h x (List.mem_cons_of_mem _ hx), PyData.canLay0, h s List.mem_cons_self]
    rfl
theorem depth_strs : ∀ {ss : List Str}, PyData.depthAll (ss.map PyData.str) = 0
  | [] => rfl
  | s :: ss => by
    rw [List.map_cons, PyData.depthAll, depth_strs, PyData.depth]
    rfl
theorem shaped_tup {ss : List Str} (h : ∀ s ∈ ss, PyData.strOk s = true) : SeqAt.shaped (.tuple (ss.map PyData.str)) = true := by
  unfold SeqAt.shaped
  rw [PyData.canLay0, canLay_strs h, PyData.depth, depth_strs]
  rfl
theorem shaped_lst {ss : List Str} (h : ∀ s ∈ ss, PyData.strOk s = true) : SeqAt.shaped (.list (ss.map PyData.str)) = true := by
  unfold SeqAt.shaped
  rw [PyData.canLay0, canLay_strs h, PyData.depth, depth_strs]
  rfl
theorem dpAll_strs {H : Hp} : ∀ {ss : List Str}, DpAll K H (ss.map V.str) (ss.map PyData.str)
  | [] => .nil
  | s :: ss => .cons (.str s) dpAll_strs
theorem r_eqT {ss ts : List Str} (h1 : ∀ s ∈ ss, PyData.strOk s = true) (h2 : ∀ s ∈ ts, PyData.strOk s = true) (q : k (.bl (decide (ss = ts)))) : dR K hs (rEqD K) (.tup (strsOf ss)) (.tup (strsOf ts)) k := fun G H v u Q f r1 r2 z => by
  obtain ⟨a, vs, rfl, hh, r⟩ := rel_tup r1
  obtain ⟨b, us, rfl, hh', r'⟩ := rel_tup r2
  have e := rel_strs r
  have e' := rel_strs r'
  subst e e'
  refine ⟨_, _, .tup (Same.tseq f.sub hh) dpAll_strs, .tup (Same.tseq f.sub hh') dpAll_strs, shaped_tup h1, shaped_tup h2, ?_⟩
  rw [PyData.eqv, eqvAll_strs]
  exact z _ G H _ f.refl .bl q
theorem r_eqL {ss ts : List Str} (h1 : ∀ s ∈ ss, PyData.strOk s = true) (h2 : ∀ s ∈ ts, PyData.strOk s = true) (q : k (.bl (decide (ss = ts)))) : dR K hs (rEqD K) (.lst (strsOf ss)) (.lst (strsOf ts)) k := fun G H v u Q f r1 r2 z => by
  obtain ⟨a, vs, rfl, hh, r⟩ := rel_lst r1
  obtain ⟨b, us, rfl, hh', r'⟩ := rel_lst r2
  have e := rel_strs r
  have e' := rel_strs r'
  subst e e'
  refine ⟨_, _, .lst (SqL.of (f.sub _ _ hh)) dpAll_strs, .lst (SqL.of (f.sub _ _ hh')) dpAll_strs, shaped_lst h1, shaped_lst h2, ?_⟩
  rw [PyData.eqv, eqvAll_strs]
  exact z _ G H _ f.refl .bl q
/-- None in a list of texts and Nones -/
def optD : Option Str → D
  | some s => .str s
  | none => .non
theorem rel_opts {G : Hp} : ∀ {vs : List V} {os : List (Option Str)}, RelL K G vs (os.map optD) → vs.all flatV = true ∧ inV .non vs = os.any Option.isNone
  | _, [], .nil => ⟨rfl, rfl⟩
  | _, o :: os, .cons r t => by
    obtain ⟨h1, h2⟩ := rel_opts (os := os) t
    unfold inV at h2 ⊢
    cases o with
    | none =>
      cases r
      refine ⟨h1, ?_⟩
      rw [List.any_cons, h2]
      rfl
    | some s =>
      cases r
      refine ⟨h1, ?_⟩
      rw [List.any_cons, h2]
      rfl
theorem r_inN {os : List (Option Str)} (q : k (.bl (os.any Option.isNone))) : dR K hs (rIn K false) .non (.lst (os.map optD)) k := fun G H v u Q f r1 r2 z => by
  obtain ⟨a, vs, rfl, h, r⟩ := rel_lst r2
  obtain ⟨h1, h2⟩ := rel_opts r
  cases r1
  refine ⟨a, _, rfl, .inl (SqL.of (f.sub _ _ h)), rfl, h1, ?_⟩
  rw [h2]
  exact z _ G H _ f.refl .bl q
end
end PD
set_option Elab.async false
set_option linter.all false
set_option maxRecDepth 100000
set_option maxHeartbeats 1000000
/-! PT: sets of texts: made of a list, sorted -/
namespace PT
open PySem PySem.Spec PyProof.Rows L2

def tx (e : Int × Value) : Str := match e.2 with
  | .str x _ => x
  | _ => Str.empty
/-- an entry of such a set -/
def IsE (w : World) (e : Int × Value) : Prop := ∃ (x : Str) (tk : Tok), e = (hashStr w x, Value.str x tk)
structure Body (w : World) (L : List Str) (es : Array (Int × Value)) : Prop where
  good : ∀ e ∈ es.toList, IsE w e
  nd : (es.toList.map tx).Nodup
  mem : ∀ x, x ∈ es.toList.map tx ↔ x ∈ L
  room : es.size < scanBound
  few : es.size ≤ L.length
def Tab (w : World) (n : Nat) (t : SetTable) : Prop := t.fits n = true ∧ Ris t.place.toList ∧ (w.params.followText "set-order" = true ∨ t.led = true)
/-- the set at a holds the texts of L -/
def At (w : World) (h : Heap) (a : Addr) (L : List Str) : Prop := ∃ o es ep t, h.get? a = some o ∧ o.ExactSet ∧ o.data = .set es ep t ∧ Body w L es ∧ Tab w es.size t
section
variable {P : Program} {w : World} {h h' : Heap} {a : Addr} {L : List Str} {es : Array (Int × Value)}
theorem At.keep (R : At w h a L) (k : ∀ o, h.get? a = some o → h'.get? a = some o) : At w h' a L := by
  obtain ⟨o, es, ep, t, ho, more⟩ := R
  exact ⟨o, es, ep, t, k o ho, more⟩
theorem At.same {L' : List Str} (R : At w h a L) (l : L.length ≤ L'.length) (e : ∀ x, x ∈ L ↔ x ∈ L') : At w h a L' := by
  obtain ⟨o, es, ep, t, ho, hx, hd, b, tb⟩ := R
  exact ⟨o, es, ep, t, ho, hx, hd, ⟨b.good, b.nd, fun x => (b.mem x).trans (e x), b.room, Nat.le_trans b.few l⟩, tb⟩
theorem elems {l : List (Int × Value)} (g : ∀ e ∈ l, IsE w e) : ElemsOf (PySem.strKind P w) l := by
  intro e he
  obtain ⟨x, tk, rfl⟩ := g e he
  exact ⟨⟨x, PySem.strKind_is P w x tk, rfl⟩, rfl⟩
theorem is_tx {e : Int × Value} (g : IsE w e) (x : Str) : (PySem.strKind P w).is x e.2 = true ↔ tx e = x := by
  obtain ⟨y, tk, rfl⟩ := g
  show (y == x) = true ↔ y = x
  exact beq_iff_eq
theorem mem_tx {l : List (Int × Value)} (g : ∀ e ∈ l, IsE w e) (x : Str) : x ∈ l.map tx ↔ ∃ e ∈ l, (PySem.strKind P w).is x e.2 = true := by
  rw [List.mem_map]
  exact ⟨fun ⟨e, he, q⟩ => ⟨e, he, (is_tx (g e he) x).mpr q⟩, fun ⟨e, he, q⟩ => ⟨e, he, (is_tx (g e he) x).mp q⟩⟩
theorem Body.perm {es' : Array (Int × Value)} (b : Body w L es) (p : es'.toList.Perm es.toList) : Body w L es' where
  good := fun e he => b.good e (p.mem_iff.mp he)
  nd := (p.map tx).nodup_iff.mpr b.nd
  mem := fun x => (p.map tx).mem_iff.trans (b.mem x)
  room := by
    have q := p.length_eq
    rw [Array.length_toList, Array.length_toList] at q
    rw [q]; exact b.room
  few := by
    have q := p.length_eq
    rw [Array.length_toList, Array.length_toList] at q
    rw [q]; exact b.few
end
section
variable {P : Program} {w : World} {A : Around} {E : Value → Shared → Prop} {s : Shared} {a : Addr} {L : List Str}
theorem put {o : Obj} {es es' : Array (Int × Value)} {ep : Nat} {t t' : SetTable} {Q : Unit → Shared → Prop} (ho : s.heap.get? a = some o) (hx : o.ExactSet) (hd : o.data = .set es ep t) (b : Body w L es') (tb : Tab w es'.size t')
    (q : ∀ h', Heap.SameBut a s.heap h' → At w h' a L → (∃ o', h'.get? a = some o' ∧ o'.ExactSet ∧ o'.data = .set es' (ep + 1) t') → Q () { s with heap := h' }) : wpAny (model P w) A (storeSet a es' t') Q E s := by
  have here := L2.store_at (es' := es') (t' := t') ho hd
  exact wpAny_storeSet_of ho hd (q _ (Heap.SameBut.update s.heap a (Obj.putSet es' t')) ⟨_, es', _, t', here, hx, rfl, b, tb⟩ ⟨_, here, hx, rfl⟩) (fits_of_scanBound b.room)
/-- the end of an adding: the new table is laid, perhaps once more -/
theorem lay {g : Bool → Sem Unit} (hg : ∀ (b : Bool) (z : Shared) (R : Unit → Shared → Prop), R () z → wpAny (model P w) A (g b) R E z) {o : Obj} {es es1 : Array (Int × Value)} {ep : Nat} {t t2 : SetTable}
    (ho : s.heap.get? a = some o) (hx : o.ExactSet) (hd : o.data = .set es ep t) (b : Body w L es1) (tb : Tab w es1.size t2) {dm : Bool} {R : Option Bool → Shared → Prop}
    (hR : ∀ h', Heap.SameBut a s.heap h' → At w h' a L → R (some true) { s with heap := h' }) :
    wpAny (model P w) A (do
      storeSet a es1 t2
      if (!dm && t2.tooFull) = true then do g (relayAll t2 es1 (SetTable.grown es1.size)).2.2; storeSet a (relayAll t2 es1 (SetTable.grown es1.size)).1 (relayAll t2 es1 (SetTable.grown es1.size)).2.1; pure (some true)
      else pure (some true)) R E s := by
  refine wpAny_bind (put ho hx hd b tb fun h1 sb1 at1 ⟨o1, ho1, hx1, hd1⟩ => ?_)
  by_cases full : (!dm && t2.tooFull) = true
  · rw [if_pos full]
    have p2 := relayAll_perm t2 es1 (SetTable.grown es1.size)
    have f2 := relayAll_fits t2 es1 (SetTable.grown es1.size)
    have r2 := relayAll_ris t2 es1 (SetTable.grown es1.size)
    have l2 := relayAll_led t2 es1 (SetTable.grown es1.size)
    revert p2 f2 r2 l2
    generalize relayAll t2 es1 (SetTable.grown es1.size) = new
    intro p2 f2 r2 l2
    refine wpAny_bind (hg _ _ _ (wpAny_bind ?_))
    refine put (s := { s with heap := h1 }) ho1 hx1 hd1 (b.perm p2) ⟨f2, r2, tb.2.2.imp id fun z => l2.trans z⟩ fun h2 sb2 at2 _ => ?_
    exact wpAny_pure (hR h2 (sb1.trans sb2) at2)
  · rw [if_neg full]
    exact wpAny_pure (hR h1 sb1 at1)
/-- one more text -/
theorem add {x : Str} {tk : Tok} {Q : Bool → Shared → Prop} (R : At w s.heap a L) (room : L.length + 1 < scanBound)
    (hQ : ∀ b h', Heap.SameBut a s.heap h' → At w h' a (x :: L) → Q b { s with heap := h' }) : wpAny (model P w) A (setAddHashed a (.str x tk) (hashStr w x)) Q E s := by
  obtain ⟨o, es, ep, t, ho, hx, hd, b, tb⟩ := R
  have key : (PySem.strKind P w).is x (.str x tk) = true := PySem.strKind_is P w x tk
  have scn : (Value.str x tk).scannable = true := rfl
  have els : ElemsOf (PySem.strKind P w) es.toList := elems b.good
  unfold setAddHashed setAddHashedIn
  refine wpAny_holding (wpAny_bind (wpAny_setState_of ho hd tb.1 ?_))
  dsimp only
  rw [byScan_of scn b.room els, if_pos rfl]
  unfold setAddByScan
  refine wpAny_bind (wpAny_bind (wpAny_rule (wpAny_bind (wpAny_setScan_of key ho hd tb.1 els ?_))))
  cases found : List.findIdx? (fun e => (PySem.strKind P w).is x e.2) es.toList with
  | some j =>
    obtain ⟨lj, pj, _⟩ := List.findIdx?_eq_some_iff_getElem.mp found
    have old : x ∈ L := (b.mem x).mp ((mem_tx (P := P) b.good x).mpr ⟨_, List.getElem_mem lj, pj⟩)
    have q := hQ false s.heap (Heap.SameBut.refl a s.heap) (At.same ⟨o, es, ep, t, ho, hx, hd, b, tb⟩ (Nat.le_succ _) fun y => by
      rw [List.mem_cons]
      exact ⟨.inr, fun z => z.elim (fun e => by rw [e]; exact old) id⟩)
    dsimp only
    exact wpAny_pure (wpAny_pure q)
  | none =>
    have new : x ∉ es.toList.map tx := fun z => by
      obtain ⟨e, he, q⟩ := (mem_tx (P := P) b.good x).mp z
      rw [List.findIdx?_eq_none_iff.mp found e he] at q
      cases q
    have r1 : es.size + 1 < scanBound := Nat.lt_of_le_of_lt (Nat.succ_le_succ b.few) room
    have p1 := layNew_perm t es (hashStr w x) (.str x tk)
    have f1 := layNew_fits t es (hashStr w x) (.str x tk)
    have i1 := layNew_ris t es (hashStr w x) (.str x tk) tb.2.1
    have l1 := layNew_led t es (hashStr w x) (.str x tk)
    dsimp only
    revert p1 f1 i1 l1
    generalize layNew t es (hashStr w x) (.str x tk) = laid
    intro p1 f1 i1 l1
    obtain ⟨es1, t1, dm, gave⟩ := laid
    dsimp only at p1 f1 i1 l1 ⊢
    rw [Array.toList_push] at p1
    have pc : es1.toList.Perm ((hashStr w x, Value.str x tk) :: es.toList) := p1.trans (List.perm_append_singleton _ _)
    have px : (es1.toList.map tx).Perm (x :: es.toList.map tx) := pc.map tx
    have n1 : es1.size = es.size + 1 := by
      have q := pc.length_eq
      rw [List.length_cons, Array.length_toList, Array.length_toList] at q
      exact q
    have b1 : Body w (x :: L) es1 := {
      good := fun e he => by
        rcases List.mem_cons.mp (pc.mem_iff.mp he) with z | z
        · exact ⟨x, tk, z⟩
        · exact b.good e z
      nd := px.nodup_iff.mpr (List.nodup_cons.mpr ⟨new, b.nd⟩)
      mem := fun y => by rw [px.mem_iff, List.mem_cons, List.mem_cons, b.mem y]
      room := by rw [n1]; exact r1
      few := by rw [n1]; exact Nat.succ_le_succ b.few }
    have led1 : w.params.followText "set-order" = true ∨ t1.led = true := tb.2.2.imp id fun z => l1.trans z
    have quiet : ∀ (c : Bool) (z : Shared) (R : Unit → Shared → Prop), R () z → wpAny (model P w) A (match c with | true => rule "set.scan.the-table-gave-way" | false => pure ()) R E z := by
      intro c z R q
      cases c
      · exact wpAny_pure q
      · exact wpAny_rule q
    refine wpAny_bind (quiet _ _ _ ?_)
    by_cases pl : t1.plain = true
    · rw [if_pos pl]
      refine wpAny_bind ?_
      rw [hashByValue_scannable 8 scn]
      refine wpAny_pure ?_
      have tb' : Tab w es1.size (if plainKind (Value.str x tk) = true then t1 else { t1 with plain := false }) := by
        cases plainKind (Value.str x tk)
        · exact ⟨SetTable.fits_plain_off f1, i1, led1⟩
        · exact ⟨f1, i1, led1⟩
      exact lay quiet ho hx hd b1 tb' fun h' sb at' => wpAny_pure (hQ true h' sb at')
    · rw [if_neg pl]
      refine wpAny_bind (wpAny_pure ?_)
      rw [if_pos rfl]
      exact lay quiet ho hx hd b1 ⟨f1, i1, led1⟩ fun h' sb at' => wpAny_pure (hQ true h' sb at')
/-- the loop that fills the set -/
theorem fill {I : Addr} {fp wr : List Addr} {Gn : Array GenState → Array GenState → Prop} {n : Nat} {Pv : Nat → Value → Prop} {St : Nat → Shared → Prop} {R : Result → Shared → Prop}
    (W : WalksS P w A.in1 I fp wr Gn n Pv St) (c : Addr) (cf : c ∉ fp) (ss : List Str) (hn : n = ss.length) (hb : ss.length + 1 < scanBound) (hv : ∀ i v, Pv i v → ∃ x t, ss[i]? = some x ∧ v = .str x t) :
    ∀ (left i : Nat) (z : Shared), i + left = n → St i z → At w z.heap c (ss.take i).reverse → (∀ z', Moved (c :: wr) Gn z z' → At w z'.heap c ss.reverse → R (.ok (.ret .none)) z') →
      codeAny (model P w) A (.builtin "set.update.loop" ⟨[.ref c, .ref I], []⟩) R z := by
  have cw : c ∉ wr := fun q => cf (W.sub _ q)
  intro left
  induction left with
  | zero =>
    intro i z e st at' go
    refine codeAny_builtin F.entry_set_update_loop ?_
    rw [Around.under_plainId F.plain_set_update_loop _]
    have ei : i = n := e
    subst ei
    refine wpAny_bind (m := pyNext (.ref I)) (W.done z _ _ st fun z' mv => ?_)
    rw [List.take_of_length_le (Nat.le_of_eq hn.symm)] at at'
    refine wpAny_pure (go z' (mv.mono fun b hb => List.mem_cons_of_mem _ hb) (at'.keep fun o eo => mv.heap c o cw eo))
  | succ left ih =>
    intro i z e st at' go
    have lt : i < n := by omega
    refine codeAny_builtin F.entry_set_update_loop ?_
    rw [Around.under_plainId F.plain_set_update_loop _]
    refine wpAny_bind (m := pyNext (.ref I)) (W.item i z _ _ lt st fun v z' hP st' mv => ?_)
    obtain ⟨x, t, ex, rfl⟩ := hv i v hP
    have at1 := at'.keep fun o eo => mv.heap c o cw eo
    refine wpAny_bind (m := holding [Value.str x t] (setAdd c (.str x t))) (wpAny_holding ?_)
    unfold setAdd
    refine wpAny_holding (wpAny_bind ((PySem.strKind P w).pyHash (k := x) (PySem.strKind_is _ _ _ _) ?_))
    have room : (ss.take i).reverse.length + 1 < scanBound := by
      rw [List.length_reverse, List.length_take]
      omega
    refine add (s := { z' with toks := z'.toks + 1 }) at1 room fun b h' sb at2 => ?_
    have el : x :: (ss.take i).reverse = (ss.take (i + 1)).reverse := by rw [List.take_add_one, ex]; simp
    rw [el] at at2
    refine wpAny_pure ⟨plainId_quiet F.plain_set_update_loop _, ih (i + 1) _ (by omega) (W.frame _ z' _ _ st' (Nat.le_succ _) fun u hu o eo => ?_) at2 fun z2 mv2 at3 => ?_⟩
    · rw [sb.2 u fun q => cf (q ▸ hu)]; exact eo
    · refine go z2 (Moved.trans W.gtrans ((mv.mono fun b hb => List.mem_cons_of_mem _ hb).then_heap (Nat.le_succ _) fun u o hu eo => ?_) mv2) at3
      rw [sb.2 u fun q => hu (q ▸ List.mem_cons_self)]; exact eo
/-- a set that has just been made -/
abbrev bare (w : World) : Obj := { cls := .type "set", dict := none, data := .set #[] 0 (.fresh 0 0 (!w.params.followText "set-order")) }
theorem at_bare {h : Heap} {c : Addr} (ho : h.get? c = some (bare w)) : At w h c [] := by
  refine ⟨_, #[], 0, _, ho, ⟨rfl, rfl, rfl⟩, rfl, ⟨fun e he => by simp at he, by simp, fun x => by simp, by decide, Nat.le_refl _⟩, by rfl, List.Pairwise.nil, ?_⟩
  cases q : w.params.followText "set-order"
  · exact .inr rfl
  · exact .inl rfl
abbrev made (w : World) (s : Shared) : Shared := { s with heap := s.heap.push (bare w) }
theorem strs_get : ∀ {us : List Value} {ss : List Str}, StrsAre us ss → us.length = ss.length ∧ ∀ (i : Nat) (v : Value), us[i]? = some v → ∃ x t, ss[i]? = some x ∧ v = .str x t
  | _, _, .nil => ⟨rfl, fun i v e => by simp at e⟩
  | _, _, .cons y t r => by
    obtain ⟨h1, h2⟩ := strs_get r
    refine ⟨congrArg (· + 1) h1, fun i v e => ?_⟩
    cases i with
    | zero => simp at e; exact ⟨y, t, rfl, e.symm⟩
    | succ i => exact h2 i v (by simpa using e)
end
end PT
set_option Elab.async false
set_option linter.all false
set_option maxRecDepth 100000
namespace PT
open PySem PySem.Spec PyProof.Rows L2
section
variable {P : Program} {w : World} {A : Around} {E : Value → Shared → Prop} {s : Shared} {a : Addr} {L : List Str}
set_option maxHeartbeats 4000000 in
theorem set_of_list {l : Addr} {items : Array Value} (ss : List Str) {Q : Value → Shared → Prop} (hh : A.handled = none) (hl : s.heap.IsList l items) (hi : StrsAre items.toList ss) (hb : ss.length + 1 < scanBound)
    (go : ∀ h' tk, At w h' s.heap.objs.size ss.reverse → (∀ b o, s.heap.get? b = some o → h'.get? b = some o) → Q (.ref s.heap.objs.size) { s with heap := h', toks := tk }) :
    wpAny (model P w) A (call (.type "set") [.ref l]) Q E s := by
  obtain ⟨lenE, vals⟩ := strs_get hi
  have c0 := F.called_set
  obtain ⟨cc, tl, order⟩ := c0.mro
  have ⟨q1, q2, q3, q4⟩ := And.intro c0.made (And.intro c0.sub (And.intro c0.notType c0.canCreate))
  have q5 := F.typeCall_set_1 (.ref l)
  apply wpAny_call; apply codeAny_of_tree
  refine wpAny_pure (Q := _) (show _ from ⟨Code.quiet_builtin _ (by decide +kernel), codeAny_builtin F.entry_type_call ?_⟩)
  rw [Around.under_plain (PySem.weight_type_call_type "set" [.ref l] []) rfl]
  repeat (any_goals (first | assumption | wp_step))
  refine codeAny_mono (code_set_led1 (.ref l) (E := E) (Q₁ := fun ob z => ob = .ref s.heap.objs.size ∧ z = made w s) ⟨rfl, rfl⟩) fun r z hr => ?_
  match r, hr with
  | .error e, hr => exact hr
  | .ok .next, hr => exact hr.elim
  | .ok .brk, hr => exact hr.elim
  | .ok .cont, hr => exact hr.elim
  | .ok (.ret ob), hr =>
    obtain ⟨rfl, rfl⟩ := hr
    have hS : (made w s).heap.get? s.heap.objs.size = some (bare w) := Heap.get?_push_size _ rfl
    have hT : (made w s).TypeIs (.ref s.heap.objs.size) "set" := ⟨_, hS, rfl⟩
    have q6 := c0.init.lookup
    have q7 := c0.init.bind (.ref s.heap.objs.size)
    repeat (any_goals (first | assumption | wp_step))
    refine codeAny_mono (codeAny_call_builtin (R := wants (fun r z => r = .none ∧ ∃ h' tk, z = { s with heap := h', toks := tk } ∧ At w h' s.heap.objs.size ss.reverse ∧ ∀ b o, s.heap.get? b = some o → h'.get? b = some o) E) c0.init.plain F.entry_set_init (PySem.check_set_init_1 hT ?_)) fun r2 z2 hr2 => ?_
    · have ll : l < s.heap.objs.size := by
        obtain ⟨_, e, _⟩ := hl
        exact Heap.lt_size e
      have hl1 : (made w s).heap.IsList l items := hl.push _
      obtain ⟨ol, e1, e2, nl, e3⟩ := id hl1
      obtain ⟨ocls, odict, odata, oslots⟩ := ol
      simp only at e2 e3
      subst e2 e3
      have n1 := F.sub_list_set
      have n2 := F.sub_list_frozenset
      have n3 : (Value.type "list" == Value.type "dict") = false := by decide
      unfold Builtin.«set.__init__» noKeywords Builtin.Frozenset.updateFrom
      generalize hPI : pyIter = PI
      wp_walk
      subst hPI
      refine wpAny_pyIter_list hl1 (wpAny_bind (wpAny_runValue ?_))
      have big : (made w s).heap.objs.size = s.heap.objs.size + 1 := Heap.size_push ..
      have ne1 : l ≠ (made w s).heap.objs.size := by rw [big]; exact Nat.ne_of_lt (Nat.lt_succ_of_lt ll)
      have ne2 : s.heap.objs.size ∉ [(made w s).heap.objs.size, l] := by
        rw [big]
        simp only [List.mem_cons, List.not_mem_nil, or_false, not_or]
        exact ⟨Nat.ne_of_lt (Nat.lt_succ_self _), Nat.ne_of_gt ll⟩
      have hh3 : A.in1.in1.in1.handled = none := by simp [hh]
      have itl : items.size = ss.length := by rw [← lenE, Array.length_toList]
      refine fill ((Walks.list hh3 _ l ne1 items).toS) s.heap.objs.size ne2 ss itl hb (fun i v e => vals i v (by rw [Array.getElem?_toList]; exact e)) items.size 0 _ (Nat.zero_add _)
        ⟨⟨_, Heap.get?_push_size _ rfl, rfl, rfl⟩, hl1.push _⟩ (at_bare (Heap.get?_push_of_some _ hS)) fun z mv at' => ?_
      obtain ⟨h', gz, dz, tz, oz⟩ := z
      obtain rfl : gz = s.gens := mv.gens
      obtain rfl : dz = s.drawn := mv.drawn
      obtain rfl : oz = s.os := mv.os
      refine wpAny_pure (wpAny_pure ⟨rfl, h', tz, rfl, at', fun b o e => ?_⟩)
      have lb := Heap.lt_size e
      refine mv.heap b o ?_ (Heap.get?_push_of_some _ (Heap.get?_push_of_some _ e))
      simp only [List.mem_cons, List.not_mem_nil, or_false, not_or]
      exact ⟨Nat.ne_of_lt lb, by rw [big]; exact Nat.ne_of_lt (Nat.lt_succ_of_lt lb)⟩
    · match r2, hr2 with
      | .error e, hr2 => exact hr2
      | .ok .next, hr2 => exact hr2.elim
      | .ok .brk, hr2 => exact hr2.elim
      | .ok .cont, hr2 => exact hr2.elim
      | .ok (.ret ob), hr2 =>
        obtain ⟨rfl, h', tk, rfl, at', kp⟩ := hr2
        repeat (any_goals (first | assumption | wp_step))
        exact go h' tk at' kp
end
end PT
set_option Elab.async false
set_option linter.all false
set_option maxRecDepth 100000
set_option maxHeartbeats 1000000
namespace PT
open PySem PySem.Spec PyProof.Rows L2
section
variable {P : Program} {w : World} {A : Around} {E : Value → Shared → Prop} {s : Shared} {a : Addr} {L : List Str}
theorem nodup_le {α : Type} [DecidableEq α] : ∀ {l m : List α}, l.Nodup → (∀ x ∈ l, x ∈ m) → l.length ≤ m.length
  | [], _, _, _ => Nat.zero_le _
  | x :: l, m, d, h => by
    obtain ⟨d1, d2⟩ := List.nodup_cons.mp d
    have hm : x ∈ m := h x List.mem_cons_self
    have q := nodup_le (l := l) (m := m.erase x) d2 fun y hy => (List.mem_erase_of_ne (fun e : y = x => d1 (by rw [← e]; exact hy))).mpr (h y (List.mem_cons_of_mem _ hy))
    rw [List.length_erase_of_mem hm] at q
    have := List.length_pos_of_mem hm
    rw [List.length_cons]
    omega
theorem strs_tx {l : List (Int × Value)} (g : ∀ e ∈ l, IsE w e) : ∀ {vs : List Value}, (∀ v ∈ vs, ∃ e ∈ l, e.2 = v) → StrsAre vs (vs.map strOf) := fun {vs} h => strsAre_map vs fun v hv => by
  obtain ⟨e, he, rfl⟩ := h v hv
  obtain ⟨x, t, rfl⟩ := g e he
  exact ⟨x, t, rfl⟩
/-- sorted(a set of texts) -/
theorem sorted_of {Q : Value → Shared → Prop} (R : At w s.heap a L) (hh : A.handled = none) (few : L.length < 64)
    (go : ∀ s' p (out : Array Value) (c : Nat) (ys : List Str), (∀ b o, s.heap.get? b = some o → s'.heap.get? b = some o) → s'.gens = s.gens → s'.os = s.os → s.heap.objs.size ≤ p →
      s'.heap.get? p = some (seqObj "list" out c) → StrsAre out.toList ys → sortedS ys = true → ys.Nodup → (∀ x, x ∈ ys ↔ x ∈ L) → Q (.ref p) s') : wpAny (model P w) A (call (.builtin "sorted") [.ref a]) Q E s := by
  obtain ⟨o, es, ep, t, ho, hx, hd, b, f1, f2, f3⟩ := R
  have n64 : es.size < 64 := Nat.lt_of_le_of_lt b.few few
  apply Calls.call_function_entry kind_sorted plain_sorted entry_sorted (args_sorted1 _)
  unfold Builtin.«sorted»
  refine wpAny_bind (m := checkCount "sorted" 1 1 _) (wpAny_pure (wpAny_bind (collect_set (A := A.in1) hh ⟨o, ho, hx.1, hd⟩ f1 b.room f2 f3 fun z vs kz sz gz oz pm => ?_)))
  have len : vs.length = es.size := by rw [pm.length_eq, List.length_map, Array.length_toList]
  have txt : StrsAre vs (vs.map strOf) := strs_tx b.good fun v hv => by
    obtain ⟨e, he, q⟩ := List.mem_map.mp (pm.mem_iff.mp hv)
    exact ⟨e, he, q⟩
  have same : (vs.map strOf).Perm (es.toList.map tx) := by
    have q := pm.map strOf
    rw [List.map_map] at q
    refine q.trans (List.Perm.of_eq (List.map_congr_left fun e he => ?_))
    obtain ⟨x, t, rfl⟩ := b.good e he
    rfl
  refine wpAny_bind (wpAny_newList ?_ (by rw [len, sizeLine_eq]; omega))
  have here : (z.heap.push (seqObj "list" vs.toArray 0)).get? z.heap.objs.size = some (seqObj "list" vs.toArray 0) := Heap.get?_push_size _ rfl
  refine wpAny_bind (wpAny_holding (wpAny_call_entry slot_list_sort ⟨_, here, rfl⟩ entry_list_sort (list_sort_treeK strKind_oneLt here txt.keysOf (fun v₁ v₂ rest e => keyKind_strs (by rw [← e]; exact txt)) (by rw [len]; exact n64) fun st' hp hs => ⟨_, rfl, ?_⟩) (args_list_sort _)))
  obtain ⟨ys, y1, y2, y3⟩ := sorted_out_str txt hp hs
  obtain ⟨c, hc⟩ := sortedHeap_at (vs := vs) (out := (arrOf st').map (·.2)) here
  have yp : ys.Perm (es.toList.map tx) := y2.trans same
  refine wpAny_pure ⟨_, rfl, go _ z.heap.objs.size _ c ys (fun u o e => ?_) gz oz sz hc y1 y3 (yp.nodup_iff.mpr b.nd) (fun x => yp.mem_iff.trans (b.mem x))⟩
  have e1 := kz u o e
  have lt := Heap.lt_size e1
  refine (sortedHeap_old (Nat.ne_of_lt lt) ?_).trans (Heap.get?_push_of_some _ e1)
  rw [size_push']; exact Nat.lt_succ_of_lt lt
end
def SetTx (w : World) (a : Addr) (L : List Str) : HO := .ext fun h => At w h a L
theorem setTx_new {w : World} {P : Program} {H : Hp} {h : Heap} {a : Addr} {L : List Str} (R : At w h a L) : ObjOk P w H h a (SetTx w a L) := by
  have ⟨o, _, _, _, ho, _⟩ := R
  exact ⟨R, ⟨o, ho⟩, fun _ _ p k => At.keep p k⟩
def rSetTx (K : PySem.W.Frag) (w : World) : List V → Hp → VK → Prop := fun xs H Q => ∃ (l : Addr) (ss : List Str), xs = [V.ref l] ∧ SqL K H l (ss.map V.str) ∧ ss.length ≤ 60 ∧ ∀ a, H a = none → Q (.ref a) (upd H a (SetTx w a ss.reverse))
theorem cr_setTx {X : Cx} (hc : X.calm = true) : CallR X (.type "set") (rSetTx X.K X.w) := by
  intro pins s σ H xs us Q I r ⟨l, ss, ex, hl, few, q⟩
  subst ex
  rw [Vals.ref1 r]
  obtain ⟨its, rv, pl, _⟩ := I.list hl
  have free : H s.heap.objs.size = none := I.hok.fresh (Nat.le_refl _)
  have room : ss.length + 1 < scanBound := Nat.lt_of_le_of_lt (Nat.succ_le_succ few) (by decide)
  refine set_of_list ss (I.ok.hd hc) pl.isList (by simpa using rv.strs) room fun h' tk at' kp => ?_
  exact ⟨.ref _, upd H _ (SetTx X.w _ ss.reverse), I.laid (t' := tk) kp (Nat.le_refl _) (setTx_new at'), rfl, q _ free⟩
def rSortedTx (w : World) : List V → Hp → VK → Prop := fun xs H Q => ∃ (a : Addr) (L : List Str), xs = [V.ref a] ∧ H a = some (SetTx w a L) ∧ L.length < 64 ∧
  ∀ (ys : List Str) (p : Addr), sortedS ys = true → ys.Nodup → (∀ x, x ∈ ys ↔ x ∈ L) → H p = none → Q (.ref p) (upd H p (.lst (ys.map V.str)))
theorem cr_sortedTx {X : Cx} (hc : X.calm = true) : CallR X (.builtin "sorted") (rSortedTx X.w) := by
  intro pins s σ H xs us Q I r ⟨a, L, ex, ha, few, q⟩
  subst ex
  rw [Vals.ref1 r]
  have at' : At X.w s.heap a L := (I.hok a _ ha).1
  refine sorted_of at' (I.ok.hd hc) few fun s' p out c ys kp g o sz hp st y1 y2 y3 => ?_
  have free : H p = none := I.hok.fresh sz
  have short : (ys.map V.str).length ≤ sizeLine := by
    obtain ⟨o', es, ep, t, ho, hx, hd, b, _⟩ := at'
    have h1 : ys.length ≤ L.length := (nodup_le y2 fun x hx => (y3 x).mp hx)
    rw [List.length_map, sizeLine_eq]
    omega
  have J : Inv X pins σ (upd H p (.lst (ys.map V.str))) { s with heap := s'.heap, gens := s'.gens, drawn := s'.drawn, toks := s'.toks } :=
    I.call (ch := []) (Un.laid kp sz free) (I.hok.laid kp sz ⟨short, out.toList, c, vals_of_strs st, hp⟩) (by rw [g]; exact I.bare) (fun _ z => nomatch z)
  have back : s' = { s with heap := s'.heap, gens := s'.gens, drawn := s'.drawn, toks := s'.toks } := by
    cases s'; cases s; cases o; rfl
  rw [back]
  exact ⟨.ref p, _, J, rfl, q ys p y1 y2 y3 free⟩
end PT
set_option Elab.async false
set_option linter.all false
set_option maxRecDepth 100000
set_option maxHeartbeats 1000000
namespace PD
open PySem L2
open PT (rSetTx rSortedTx cr_setTx cr_sortedTx SetTx)
section
variable {K : PySem.W.Frag} {hs : Option (Addr × Addr)} {ρ : List Sl} {te : TE} {kl : List D → Prop} {w : World}
theorem rel_of_strs {G : Hp} : ∀ {ss : List Str}, RelL K G (ss.map V.str) (strsOf ss)
  | [] => .nil
  | s :: ss => .cons .str rel_of_strs
/-- sorted(set(texts)) -/
theorem l_sortedSet (h : dE K hs te ρ fun x => ∃ ss : List Str, x = .lst (strsOf ss) ∧ ss.length ≤ 60 ∧ ∀ ys : List Str, PyProof.Rows.sortedS ys = true → ys.Nodup → (∀ x, x ∈ ys ↔ x ∈ ss) → kl (strsOf ys)) :
    dL K hs (tCB (rSortedTx w) (tCons (tCB (rSetTx K w) (tCons te tNil)) tNil)) ρ kl := fun H0 σ G H Q f R z =>
  h H0 σ G H _ f R fun v G1 H1 x s1 r1 ⟨ss, e, few, q⟩ => by
    subst e
    obtain ⟨l, vs, rfl, hh, r⟩ := rel_lst r1
    have e := rel_strs r
    subst e
    refine ⟨l, ss, rfl, SqL.of (s1.sub _ _ hh), few, fun a ha => ?_⟩
    have s2 := Step.fresh (o := SetTx w a ss.reverse) s1.sub s1.st ha
    refine ⟨a, ss.reverse, rfl, upd_same, by rw [List.length_reverse]; omega, fun ys p y1 y2 y3 hp => ?_⟩
    have s3 := Step.fresh (o := .lst (ys.map V.str)) s2.sub s2.st hp
    exact z p _ G1 _ _ ((s1.trans s2).trans s3) ((s1.trans s2).back hp) (Same.free s2.sub hp) upd_same rel_of_strs (q ys y1 y2 fun x => (y3 x).trans List.mem_reverse)
theorem d_sortedSet {k : D → Prop} (h : dE K hs te ρ fun x => ∃ ss : List Str, x = .lst (strsOf ss) ∧ ss.length ≤ 60 ∧ ∀ ys : List Str, PyProof.Rows.sortedS ys = true → ys.Nodup → (∀ x, x ∈ ys ↔ x ∈ ss) → k (.lst (strsOf ys))) :
    dE K hs (tCB (rSortedTx w) (tCons (tCB (rSetTx K w) (tCons te tNil)) tNil)) ρ k := d_ofL (l_sortedSet h)
end
/-! ### rising texts are told by their members -/
def up (a b : Str) : Prop := a.cps.toList < b.cps.toList
theorem up_irr (a : Str) : ¬ up a a := List.lt_irrefl _
theorem up_tri {a b : Str} (h : ¬ up a b) (n : a ≠ b) : up b a := by
  have h1 : b.cps.toList ≤ a.cps.toList := List.not_lt.mp h
  rcases List.le_iff_lt_or_eq.mp h1 with q | q
  · exact q
  · exfalso
    apply n
    cases a; cases b
    congr
    exact (Array.toList_inj.mp q).symm
theorem up_trans {a b c : Str} (h : up a b) (h' : up b c) : up a c := List.lt_trans h h'
theorem rising_up : ∀ {l : List Str} {p : Str}, PyProof.Rows.risingS p l = true → (p :: l).Nodup → (p :: l).Pairwise up
  | [], p, _, _ => List.pairwise_singleton _ _
  | x :: l, p, h, d => by
    unfold PyProof.Rows.risingS at h
    rw [Bool.and_eq_true] at h
    obtain ⟨h1, h2⟩ := h
    obtain ⟨d1, d2⟩ := List.nodup_cons.mp d
    have ih := rising_up h2 d2
    have px : up p x := by
      refine up_tri (a := x) (b := p) (fun q => ?_) (fun q => d1 (by rw [← q]; exact List.mem_cons_self))
      rw [PyProof.Rows.ltCps_eq, decide_eq_true (show x.cps.toList < p.cps.toList from q)] at h1
      cases h1
    refine List.pairwise_cons.mpr ⟨fun y hy => ?_, ih⟩
    rcases List.mem_cons.mp hy with rfl | hy
    · exact px
    · exact up_trans px ((List.pairwise_cons.mp ih).1 y hy)
theorem sorted_up {l : List Str} (h : PyProof.Rows.sortedS l = true) (d : l.Nodup) : l.Pairwise up := by
  cases l with
  | nil => exact List.Pairwise.nil
  | cons x l => exact rising_up h d
theorem up_same : ∀ {l m : List Str}, l.Pairwise up → m.Pairwise up → (∀ x, x ∈ l ↔ x ∈ m) → l = m
  | [], [], _, _, _ => rfl
  | [], y :: m, _, _, h => by have := (h y).mpr List.mem_cons_self; cases this
  | x :: l, [], _, _, h => by have := (h x).mp List.mem_cons_self; cases this
  | x :: l, y :: m, hl, hm, h => by
    obtain ⟨l1, l2⟩ := List.pairwise_cons.mp hl
    obtain ⟨m1, m2⟩ := List.pairwise_cons.mp hm
    have e : x = y := by
      rcases List.mem_cons.mp ((h x).mp List.mem_cons_self) with q | q
      · exact q
      · rcases List.mem_cons.mp ((h y).mpr List.mem_cons_self) with r | r
        · exact r.symm
        · exact (up_irr x (up_trans (l1 y r) (m1 x q))).elim
    subst e
    have nl : x ∉ l := fun q => up_irr x (l1 x q)
    have nm : x ∉ m := fun q => up_irr x (m1 x q)
    rw [up_same l2 m2 fun z => ⟨fun hz => ?_, fun hz => ?_⟩]
    · rcases List.mem_cons.mp ((h z).mp (List.mem_cons_of_mem _ hz)) with q | q
      · exact (nl (by rw [← q]; exact hz)).elim
      · exact q
    · rcases List.mem_cons.mp ((h z).mpr (List.mem_cons_of_mem _ hz)) with q | q
      · exact (nm (by rw [← q]; exact hz)).elim
      · exact q
theorem sorted_is {ys xs : List Str} (h : PyProof.Rows.sortedS ys = true) (d : ys.Nodup) (r : xs.Pairwise up) (m : ∀ x, x ∈ ys ↔ x ∈ xs) : ys = xs := up_same (sorted_up h d) r m
end PD
set_option Elab.async false
set_option linter.all false
set_option maxRecDepth 100000
set_option maxHeartbeats 1000000
namespace PD
open PySem L2
/-- d[k] = v -/
def putD (ks : List (Str × D)) (k : Str) (d : D) : List (Str × D) := if (ks.any fun p => decide (p.1 = k)) = true then ks.map (fun p => if p.1 = k then (p.1, d) else p) else ks ++ [(k, d)]
section
variable {K : PySem.W.Frag} {G : Hp}
theorem rel_any {k : Str} : ∀ {kvs : List (Key × V)} {ks : List (Str × D)}, RelK K G kvs ks → (kvs.any fun kv => decide (kv.1 = Sum.inr k)) = (ks.any fun p => decide (p.1 = k))
  | _, _, .nil => rfl
  | _, _, .cons (k := x) r t => by
    rw [List.any_cons, List.any_cons, rel_any t]
    congr 1
    by_cases e : x = k
    · subst e; simp
    · have : ¬ (Sum.inr x : Key) = Sum.inr k := fun q => e (Sum.inr.inj q)
      simp [e, this]
theorem rel_repl {k : Str} {v : V} {d : D} (r0 : Rel K G v d) : ∀ {kvs : List (Key × V)} {ks : List (Str × D)}, RelK K G kvs ks → RelK K G (kvs.map fun kv => if kv.1 = Sum.inr k then (kv.1, v) else kv) (ks.map fun p => if p.1 = k then (p.1, d) else p)
  | _, _, .nil => .nil
  | _, _, .cons (k := x) (v := v1) (d := d1) r t => by
    rw [List.map_cons, List.map_cons]
    by_cases e : x = k
    · subst e
      rw [if_pos rfl, if_pos rfl]
      exact .cons r0 (rel_repl r0 t)
    · have : ¬ (Sum.inr x : Key) = Sum.inr k := fun q => e (Sum.inr.inj q)
      rw [if_neg this, if_neg e]
      exact .cons r (rel_repl r0 t)
theorem RelK.app : ∀ {kvs us : List (Key × V)} {ks ls : List (Str × D)}, RelK K G kvs ks → RelK K G us ls → RelK K G (kvs ++ us) (ks ++ ls)
  | _, _, _, _, .nil, h => h
  | _, _, _, _, .cons r t, h => .cons r (RelK.app t h)
theorem RelK.len : ∀ {kvs : List (Key × V)} {ks : List (Str × D)}, RelK K G kvs ks → kvs.length = ks.length
  | _, _, .nil => rfl
  | _, _, .cons _ t => congrArg (· + 1) t.len
theorem rel_put {k : Str} {v : V} {d : D} {kvs : List (Key × V)} {ks : List (Str × D)} (r : RelK K G kvs ks) (r0 : Rel K G v d) : RelK K G (putK kvs (Sum.inr k) v) (putD ks k d) := by
  unfold putK putD
  rw [rel_any r]
  split
  · exact rel_repl r0 r
  · exact r.app (.cons r0 .nil)
end
theorem putD_len (ks : List (Str × D)) (k : Str) (d : D) : (putD ks k d).length ≤ ks.length + 1 := by
  unfold putD
  split
  · rw [List.length_map]; omega
  · rw [List.length_append]; exact Nat.le_refl _
/-- new keys, one behind another -/
theorem putD_new {ks : List (Str × D)} {k : Str} {d : D} (h : k ∉ ks.map (·.1)) : putD ks k d = ks ++ [(k, d)] := by
  unfold putD
  rw [if_neg]
  intro q
  obtain ⟨p, hp, e⟩ := List.any_eq_true.mp q
  exact h (List.mem_map.mpr ⟨p, hp, of_decide_eq_true e⟩)
section
variable {K : PySem.W.Frag} {hs : Option (Addr × Addr)} {ρ : List Sl} {k : D → Prop} {te tk tv : TE} {tt : TT} {g : TG}
def dcW (K : PySem.W.Frag) (hs : Option (Addr × Addr)) (g : TG) (js : List Nat) (tt : TT) (tk tv : TE) (ρ : List Sl) (k : List (Str × D) → Prop) : List D → List (Str × D) → Prop
  | [], acc => k acc
  | d :: r, acc => dG K hs g (some js) d ρ fun ρ' => dT K hs tt ρ' fun b => (b = true → dE K hs tk ρ' fun x => dE K hs tv ρ' fun y => ∃ s, x = .str s ∧ dcW K hs g js tt tk tv ρ k r (putD acc s y)) ∧ (b = false → dcW K hs g js tt tk tv ρ k r acc)
theorem d_dc {ti : TI} {vs : List Nat} (h : dI K hs ti ρ fun ds => ds.length ≤ 50000 ∧ dcW K hs g vs tt tk tv (wipeR ρ vs) (fun ks => k (.dct ks)) ds []) : dE K hs (tDc ti g tt tk tv vs) ρ k := fun H0 σ G H Q f R z =>
  h H0 σ G H _ f R fun J G1 H1 ds s1 y ⟨hl, q⟩ Dl hD => by
    have hH := s1.back hD
    have oD := s1.fr.outs hD
    have gD := Same.free s1.sub hD
    have Rw := (R.step s1).wipe vs
    refine ⟨fun i m H' => i ≤ ds.length ∧ m = ds.length - i ∧ ∃ G' acc ws, Step hs G1 H1 G' H' ∧ G' Dl = none ∧ H' Dl = some (.dK ws) ∧ RelK K G' ws acc ∧ acc.length ≤ i ∧ dcW K hs g vs tt tk tv (wipeR ρ vs) (fun ks => k (.dct ks)) (ds.drop i) acc,
      ⟨_, Nat.zero_le _, rfl, G1, [], [], Step.fresh s1.sub s1.st hD, gD, upd_same, .nil, Nat.zero_le _, q⟩, ?_⟩
    rintro i m H' ⟨hi, hm, G', acc, ws, s', g', h', r', la, q'⟩
    obtain ⟨y1, y2⟩ := y G' H' s'.exg s'.fr i
    by_cases hl' : i < ds.length
    · refine .inr ⟨(y1 hl').1, fun H'' => ∃ m', m' < m ∧ i + 1 ≤ ds.length ∧ m' = ds.length - (i + 1) ∧ ∃ G' acc ws, Step hs G1 H1 G' H'' ∧ G' Dl = none ∧ H'' Dl = some (.dK ws) ∧ RelK K G' ws acc ∧ acc.length ≤ i + 1 ∧ dcW K hs g vs tt tk tv (wipeR ρ vs) (fun ks => k (.dct ks)) (ds.drop (i + 1)) acc, fun H'' x => x, fun x H2 hy => ?_⟩
      obtain ⟨G2, s2, hd⟩ := (y1 hl').2 x H2 hy
      have rx := hd _ (List.getElem?_eq_getElem hl')
      have keep : ∀ {G3 H3 : Hp}, Step hs G' H' G3 H3 → G3 Dl = none ∧ H3 Dl = some (.dK ws) := fun {G3 H3} s3 => by
        refine ⟨?_, s3.frm _ _ oD h'⟩
        cases e : G3 Dl with
        | none => rfl
        | some o =>
          have := s3.new Dl o e g'
          rw [h'] at this; cases this
      rw [List.drop_eq_getElem_cons hl'] at q'
      refine q' H0 _ G2 H2 x _ s2.fr (Rw.step (s'.trans s2)) rx fun σ3 ρ3 R3 w3 q3 => ⟨?_, ?_⟩
      · rw [w3 vs rfl, wipe_wipe fun j h => h]
      · refine q3 H0 σ3 G2 H2 _ s2.fr R3 fun b G3 H3 s3 ⟨p1, p2⟩ => ?_
        cases b with
        | true =>
          rw [if_pos rfl]
          refine p1 rfl H0 σ3 G3 H3 _ s3.fr (R3.step s3) fun v G4 H4 d4 s4 r4 q4 => q4 H0 σ3 G4 H4 _ s4.fr (R3.step (s3.trans s4)) fun u G5 H5 d5 s5 r5 ⟨s, e, q5⟩ => ?_
          subst e
          have st := ((s2.trans s3).trans s4).trans s5
          obtain ⟨k1, k2⟩ := keep st
          refine ⟨ws, Sum.inr s, by rw [rel_str r4]; rfl, k2, Nat.lt_of_le_of_lt (by rw [r'.len]; omega : ws.length ≤ 50000) (by decide), _, by omega, hl', rfl, G5, putD acc s d5, putK ws (Sum.inr s) u, (s'.trans st).mut hD oD k1, k1, upd_same, rel_put (r'.mono st.exg) r5, ?_, q5⟩
          have := putD_len acc s d5
          omega
        | false =>
          rw [if_neg Bool.false_ne_true]
          have st := s2.trans s3
          obtain ⟨k1, k2⟩ := keep st
          exact ⟨_, by omega, hl', rfl, G3, acc, ws, s'.trans st, k1, k2, r'.mono st.exg, by omega, p2 rfl⟩
    · refine .inl ⟨y2 (by omega), ?_⟩
      have : ds.drop i = [] := List.drop_eq_nil_of_le (by omega)
      rw [this] at q'
      have s2 := (s1.trans s').freeze hH (f.outs hH) g' h'
      refine z (.ref Dl) _ H' (.dct acc) s2 (.dct upd_same (r'.mono ?_)) q'
      intro a o e
      rw [upd_ne (ne_of_none e g')]; exact e
theorem s_setD {ti : TI} {vs : List Nat} {i : Nat} {E : DEnds} (h : dI K hs ti ρ fun ds => ds.length ≤ 50000 ∧ dcW K hs g vs tt tk tv (wipeR ρ vs) (fun ks => E.nx (ρ.set i (.d (.dct ks)))) ds []) : dS K hs (tAsg (tDc ti g tt tk tv vs) (gName i)) ρ E := s_set (d_dc h)
/-- the keys are new, one behind another, they and the values functions of the item -/
theorem dcW_fun {js : List Nat} {k : List (Str × D) → Prop} (P : D → Prop) (fk : D → Str) (fv : D → D) (h : ∀ d, P d → ∀ kk : List Sl → Prop, (∀ ρ', (∀ kb : Bool → Prop, kb true → dT K hs tt ρ' kb) → (∀ k : D → Prop, k (.str (fk d)) → dE K hs tk ρ' k) → (∀ k : D → Prop, k (fv d) → dE K hs tv ρ' k) → kk ρ') → dG K hs g (some js) d ρ kk) :
    ∀ (ds : List D) (acc : List (Str × D)), (∀ d ∈ ds, P d) → (acc.map (·.1) ++ ds.map fk).Nodup → k (acc ++ ds.map fun d => (fk d, fv d)) → dcW K hs g js tt tk tv ρ k ds acc
  | [], acc, _, _, q => by
    show k acc
    simpa using q
  | d :: r, acc, hp, nd, q => by
    refine h d (hp d List.mem_cons_self) _ fun ρ' h1 h2 h3 => h1 _ ⟨fun _ => h2 _ (h3 _ ⟨fk d, rfl, ?_⟩), fun e => by cases e⟩
    have new : fk d ∉ acc.map (·.1) := fun m => by
      have := (List.nodup_append.mp nd).2.2 _ m _ List.mem_cons_self
      exact this rfl
    rw [putD_new new]
    refine dcW_fun P fk fv h r _ (fun x hx => hp x (List.mem_cons_of_mem _ hx)) ?_ ?_
    · rw [List.map_append, List.append_assoc]
      exact nd
    · rw [List.append_assoc]
      exact q
theorem r_in0 {s : Str} {ss : List Str} (q : k (.bl (decide (s ∈ ss)))) : dR K hs (rIn K false) (.str s) (.tup (strsOf ss)) k := r_inT (neg := false) q
theorem r_in1 {s : Str} {ss : List Str} (q : k (.bl (!decide (s ∈ ss)))) : dR K hs (rIn K true) (.str s) (.tup (strsOf ss)) k := r_inT (neg := true) q
theorem r_in2 {s : Str} {ss : List Str} (q : k (.bl (decide (s ∈ ss)))) : dR K hs (rIn K false) (.str s) (.lst (strsOf ss)) k := r_inL (neg := false) q
theorem r_in3 {s : Str} {ss : List Str} (q : k (.bl (!decide (s ∈ ss)))) : dR K hs (rIn K true) (.str s) (.lst (strsOf ss)) k := r_inL (neg := true) q
end
end PD
set_option Elab.async false
set_option linter.all false
set_option maxRecDepth 100000
set_option maxHeartbeats 1000000
namespace PD
open PySem PySem.Spec PyProof.Rows L2
section
variable {X : Cx}
theorem sw_dict {kx vx : Expr} {gs : List Comprehension} {scope : Scope} {pos py : Pos} {y : Str} {l : Nat} {env : Env} (kf : env.scope.kind = .function) (ly : env.scope.names.lookup y = some .local) (ll : (py.line == pos.line) = true)
    (no : (scope.names.any fun (n, k) => n == y && (k == .local || k == .cell)) = false) : swapsWith (.DictComp kx vx gs scope pos) (some (.Name y py)) l env = pure true := by
  have k1 : env.kindOf y = some .local := ly
  have k2 : env.blockKind = .function := by unfold Env.blockKind; rw [kf]; rfl
  unfold swapsWith; simp only [k1, k2, no, ll, Expr.pos]; rfl
/-- y = {k: v for ..} -/
theorem ps_setDc {i : Nat} {y : Str} {py : Pos} {kx vx tg iter : Expr} {ifs : List Expr} {scope : Scope} {own : List (Str × Nat)} {pos spos : Pos} {wi : TI} {g : TG} {tt : TT} {tk tv : TE} (hc : X.calm = true) (hN : X.N.Nodup) (hy : X.N[i]? = some y) (ly : X.env.scope.names.lookup y = some .local)
    (sw : swapsWith (.DictComp kx vx [⟨tg, iter, ifs, 0⟩] scope pos) (some (.Name y py)) spos.line X.env = pure true) (hi : PI X tg iter wi) (ok : BlkOk X.N X.env.scope scope own)
    (hg : ∀ (s : Shared) (H : Hp) (C : Addr) (cl : List (Str × Addr)) (fp : List Addr), PG (X.blk s H scope (compEnvC scope cl C X.env) fp) tg g) (ht : ∀ (s : Shared) (H : Hp) (C : Addr) (cl : List (Str × Addr)) (fp : List Addr), PTs (X.blk s H scope (compEnvC scope cl C X.env) fp) ifs tt)
    (hk : ∀ (s : Shared) (H : Hp) (C : Addr) (cl : List (Str × Addr)) (fp : List Addr), PE (X.blk s H scope (compEnvC scope cl C X.env) fp) kx tk) (hv : ∀ (s : Shared) (H : Hp) (C : Addr) (cl : List (Str × Addr)) (fp : List Addr), PE (X.blk s H scope (compEnvC scope cl C X.env) fp) vx tv)
    (hs : ∀ x, foldedSetIterable iter X.env x = pure x := by intro _; rfl) : PS X (.Assign [.Name y py] (.DictComp kx vx [⟨tg, iter, ifs, 0⟩] scope pos) spos) (tAsg (tDc wi g tt tk tv (own.map (·.2))) (gName i)) := ⟨fun pins s σ H D I h => by
  rw [exec_Assign_Name_used _ _ _ _ sw]
  have h' : tDc wi g tt tk tv (own.map (·.2)) σ H (fun x H1 => gName i x σ H1 D.nx) := h
  refine wpAny_bind (wpAny_standAt (wpAny_bind ?_))
  refine wpAny_bind (m := comprehension (.DictComp kx vx [⟨tg, iter, ifs, 0⟩] scope pos) scope X.env (firstIterPos [⟨tg, iter, ifs, 0⟩] pos) newDict false (eval iter X.env) (some (assign (.Name y py) X.env)))
    (thn (dc_core (Qf := fun _ z => SP X pins D .next z) hc hN I hi ok hg ht hk hv hs h' fun L C z m H1 I1 q hn f => ?_) fun _ _ hq => wpAny_pure (wpAny_pure hq))
  obtain ⟨f0, f1, f2, f3, f4, f5⟩ := f
  refine wpAny_assign_Name (Q := _) (store_ok2 (v := V.ref L) I1 hN hy (.inl ly) rfl (fun z2 I2 ⟨a, sb, ha⟩ => ?_) (.inr ly))
  refine ⟨m, hn.sameBut sb (ha.elim (fun e => by rw [e]; exact f1) fun e q => f4 y a e q.symm), fun h3 sb3 => ⟨_, H1, I2.turned (t' := z2.toks) (fun b o hb e => (sb3.2 b hb).trans e) f0 f1 f3 f4 f5, q⟩⟩⟩
end
end PD
set_option Elab.async false
set_option linter.all false
set_option maxRecDepth 100000
set_option maxHeartbeats 1000000
namespace PD
open PySem L2
section
variable {K : PySem.W.Frag} {hs : Option (Addr × Addr)} {ρ : List Sl} {k : D → Prop} {ta tb te : TE} {kl : List D → Prop}
theorem RelL.flat {G : Hp} {vs : List V} {ds : List D} (r : RelL K G vs ds) : ∀ n : Nat, RelL K G (List.replicate n vs).flatten (List.replicate n ds).flatten
  | 0 => .nil
  | n + 1 => by
    rw [List.replicate_succ, List.flatten_cons, List.replicate_succ, List.flatten_cons]
    exact r.append (RelL.flat r n)
/-- list * int -/
theorem l_rep (h : dE K hs ta ρ fun x => dE K hs tb ρ fun y => ∃ (xs : List D) (n : Nat), x = .lst xs ∧ y = .int (n : Int) ∧ xs.length * n ≤ 100000 ∧ n ≤ 1000 ∧ kl (List.replicate n xs).flatten) : dL K hs (tOp rRep ta tb) ρ kl := fun H0 σ G H Q f R z =>
  h H0 σ G H _ f R fun v G1 H1 x s1 r1 h1 => h1 H0 σ G1 H1 _ s1.fr (R.step s1) fun w G2 H2 y s2 r2 ⟨xs, n, e1, e2, hl, hn, q⟩ => by
    subst e1 e2
    obtain ⟨a, vs, rfl, hh, r⟩ := rel_lst (r1.mono s2.exg)
    refine ⟨a, n, vs, rfl, rel_int r2, s2.sub _ _ hh, by omega, by omega, sz (by rw [Int.toNat_natCast, r.length]; exact hl), fun p hp => ?_⟩
    rw [Int.toNat_natCast]
    exact z p _ G2 _ _ ((s1.trans s2).trans (Step.fresh s2.sub s2.st hp)) ((s1.trans s2).back hp) (Same.free s2.sub hp) upd_same (r.flat n) q
abbrev rSortD : List V → Hp → VK → Prop := fun xs H Q => ∃ (a : Addr) (kvs : List (Key × V)) (ks : List Str), xs = [.ref a] ∧ Rd H a (.dK kvs) ∧ kvs.map (·.1) = ks.map Sum.inr ∧ ks.length < 64 ∧
    ∀ ys p, ys.Perm ks → PyProof.Rows.sortedS ys = true → H p = none → Q (.ref p) (upd H p (.lst (ys.map V.str)))
theorem rel_keys {G : Hp} : ∀ {kvs : List (Key × V)} {ks : List (Str × D)}, RelK K G kvs ks → kvs.map (·.1) = (ks.map (·.1)).map Sum.inr
  | _, _, .nil => rfl
  | _, _, .cons _ t => by rw [List.map_cons, List.map_cons, List.map_cons, rel_keys t]
/-- sorted(dict) -/
theorem l_sortedD (h : dE K hs te ρ fun x => ∃ ks : List (Str × D), x = .dct ks ∧ ks.length < 64 ∧ ∀ ys : List Str, ys.Perm (ks.map (·.1)) → PyProof.Rows.sortedS ys = true → kl (strsOf ys)) : dL K hs (tCB rSortD (tCons te tNil)) ρ kl := fun H0 σ G H Q f R z =>
  h H0 σ G H _ f R fun v G1 H1 x s1 r1 ⟨ks, e, few, q⟩ => by
    subst e
    obtain ⟨a, kvs, rfl, hh, r⟩ := rel_dct r1
    refine ⟨a, kvs, ks.map (·.1), rfl, .inl (s1.sub _ _ hh), rel_keys r, by rw [List.length_map]; exact few, fun ys p y1 y2 hp => ?_⟩
    exact z p _ G1 _ _ (s1.trans (Step.fresh s1.sub s1.st hp)) (s1.back hp) (Same.free s1.sub hp) upd_same rel_of_strs (q ys y1 y2)
/-- sorted(texts) -/
theorem l_sortedL (h : dE K hs te ρ fun x => ∃ ss : List Str, x = .lst (strsOf ss) ∧ ss.length < 64 ∧ ∀ ys : List Str, ys.Perm ss → PyProof.Rows.sortedS ys = true → kl (strsOf ys)) : dL K hs (tCB (rSortedS K) (tCons te tNil)) ρ kl := fun H0 σ G H Q f R z =>
  h H0 σ G H _ f R fun v G1 H1 x s1 r1 ⟨ss, e, few, q⟩ => by
    subst e
    obtain ⟨a, vs, rfl, hh, r⟩ := rel_lst r1
    have e := rel_strs r
    subst e
    refine ⟨a, ss, rfl, SqL.of (s1.sub _ _ hh), few, fun ys p y1 y2 hp => ?_⟩
    exact z p _ G1 _ _ (s1.trans (Step.fresh s1.sub s1.st hp)) (s1.back hp) (Same.free s1.sub hp) upd_same rel_of_strs (q ys y1 y2)
/-- a statement, what holds behind it, the rest -/
theorem s_cut {t u : TS} {E : DEnds} {I : List Sl → Prop} (h : dS K hs t ρ { E with nx := I }) (h2 : ∀ ρ', I ρ' → dS K hs u ρ' E) : dS K hs (tSeq t u) ρ E := s_seq fun G0 H0 Gb σ G H D s b R z =>
  h G0 H0 Gb σ G H D s b R ⟨fun σ1 G1 H1 ρ1 a b c d => z.nx σ1 G1 H1 ρ1 a b c (h2 ρ1 d), z.rt, z.bk, z.ct⟩
theorem s_keep1 {i : Nat} {ds : List D} {E : DEnds} {t : TS} (e : ρ[i]? = some (.own ds)) (h : dS K hs t (ρ.set i (.d (.lst ds))) E) : dS K hs t ρ E := s_keep e h
/-! ### dicts that are written out -/
def mergeD (ks more : List (Str × D)) : List (Str × D) := more.foldl (fun acc p => putD acc p.1 p.2) ks
theorem rel_merge {G : Hp} : ∀ {more : List (Key × V)} {ms : List (Str × D)} {kvs : List (Key × V)} {ks : List (Str × D)}, RelK K G more ms → RelK K G kvs ks → RelK K G (mergeK kvs more) (mergeD ks ms)
  | _, _, _, _, .nil, h => h
  | _, _, _, _, .cons r t, h => by
    unfold mergeK mergeD
    rw [List.foldl_cons, List.foldl_cons]
    exact rel_merge t (rel_put h r)
theorem RelK.mono' {G G' : Hp} (e : Same G G') {v : List (Key × V)} {d : List (Str × D)} (h : RelK K G v d) : RelK K G' v d := RelK.mono e h
def dP (K : PySem.W.Frag) (hs : Option (Addr × Addr)) : List (TE × TE) → List Sl → (List (Str × D) → Prop) → Prop
  | [], _, k => k []
  | (tk, tv) :: r, ρ, k => dE K hs tk ρ fun x => ∃ s, x = .str s ∧ dE K hs tv ρ fun y => dP K hs r ρ fun ps => k ((s, y) :: ps)
theorem pairs_run : ∀ {trs : List (TE × TE)} {kp : List (Str × D) → Prop}, dP K hs trs ρ kp → ∀ (H0 : Hp) (σ : L2.St) (G H : Hp) (Q : List (V × V) → Hp → Prop), Fr hs G H → EnvR K hs H0 G H σ ρ →
    (∀ kvs G' H' ds, Step hs G H G' H' → RelK K G' kvs ds → kp ds → Q (kvs.map fun kv => (kV kv.1, kv.2)) H') → tPairs trs σ H Q
  | [], kp, h, H0, σ, G, H, Q, f, R, z => z [] G H [] f.refl .nil h
  | (tk, tv) :: r, kp, h, H0, σ, G, H, Q, f, R, z => h H0 σ G H _ f R fun v G1 H1 x s1 r1 ⟨s, e, h1⟩ => h1 H0 σ G1 H1 _ s1.fr (R.step s1) fun u G2 H2 y s2 r2 h2 =>
      pairs_run h2 H0 σ G2 H2 _ s2.fr (R.step (s1.trans s2)) fun kvs G3 H3 ds s3 r3 q => by
        subst e
        rw [rel_str r1]
        exact z ((Sum.inr s, u) :: kvs) G3 H3 ((s, y) :: ds) ((s1.trans s2).trans s3) (.cons (r2.mono s3.exg) r3) q
theorem d_disp {trs : List (TE × TE)} (h : dP K hs trs ρ fun ps => ps.length ≤ 15 ∧ k (.dct (mergeD [] ps))) : dE K hs (tDisp trs) ρ k := fun H0 σ G H Q f R z p hp => by
  have s0 := Step.fresh (o := .dK []) f.sub f.st hp
  refine pairs_run h H0 σ G _ _ s0.fr (R.step s0) fun kvs G1 H1 ps s1 r1 ⟨hl, q⟩ => ?_
  have oD := f.outs hp
  have hk : H1 p = some (.dK []) := s1.frm p _ oD upd_same
  have gp : G1 p = none := by
    cases e : G1 p with
    | none => rfl
    | some o =>
      have := s1.new p o e (Same.free f.sub hp)
      rw [upd_same] at this; cases this
  refine ⟨hk, kvs, rfl, by rw [r1.len]; exact hl, ?_⟩
  have s2 := (s0.trans s1).mut (o := .dK (mergeK [] kvs)) hp oD gp
  have s3 := s2.freeze hp oD gp upd_same
  refine z (.ref p) _ _ (.dct (mergeD [] ps)) s3 (.dct upd_same ((rel_merge r1 .nil).mono' ?_)) q
  intro a o e
  rw [upd_ne (ne_of_none e gp)]; exact e
end
end PD
set_option Elab.async false
set_option linter.all false
set_option maxRecDepth 100000
set_option maxHeartbeats 1000000
namespace PD
open PySem L2
section
variable {K : PySem.W.Frag} {hs : Option (Addr × Addr)} {ρ : List Sl} {k : D → Prop}
theorem r_neL {ss ts : List Str} (h1 : ∀ s ∈ ss, PyData.strOk s = true) (h2 : ∀ s ∈ ts, PyData.strOk s = true) (q : k (.bl (!decide (ss = ts)))) : dR K hs (rNeD K) (.lst (strsOf ss)) (.lst (strsOf ts)) k := fun G H v u Q f r1 r2 z => by
  obtain ⟨a, vs, rfl, hh, r⟩ := rel_lst r1
  obtain ⟨b, us, rfl, hh', r'⟩ := rel_lst r2
  have e := rel_strs r
  have e' := rel_strs r'
  subst e e'
  refine ⟨_, _, .lst (SqL.of (f.sub _ _ hh)) dpAll_strs, .lst (SqL.of (f.sub _ _ hh')) dpAll_strs, shaped_lst h1, shaped_lst h2, ?_⟩
  rw [PyData.eqv, eqvAll_strs]
  exact z _ G H _ f.refl .bl q
theorem filter_strs (p : D → Bool) (ss : List Str) : ((strsOf ss).filter p).map (fun d => d) = strsOf (ss.filter fun s => p (.str s)) := by
  unfold strsOf
  rw [List.map_id', List.filter_map]
  rfl
end
end PD
set_option Elab.async false
set_option linter.all false
set_option maxRecDepth 100000
set_option maxHeartbeats 1000000
namespace PD
open PySem L2
section
variable {K : PySem.W.Frag} {hs : Option (Addr × Addr)} {ρ : List Sl} {k : D → Prop} {kb : Bool → Prop} {kl : List D → Prop} {ta tb tc te : TE} {tt : TT} {g : TG} {E : DEnds}
/-- a new list by one of two arms -/
theorem l_ifE (h : dT K hs tt ρ fun b => (b = true → dL K hs ta ρ kl) ∧ (b = false → dL K hs tb ρ kl)) : dL K hs (tIf tt ta tb) ρ kl := fun H0 σ G H Q f R z =>
  h H0 σ G H _ f R fun b G1 H1 s1 ⟨q1, q2⟩ => by
    cases b with
    | true => rw [if_pos rfl]; exact q1 rfl H0 σ G1 H1 _ s1.fr (R.step s1) fun p vs G2 H2 ds s2 h0 g0 hp r q => z p vs G2 H2 ds (s1.trans s2) (s1.back h0) g0 hp r q
    | false => rw [if_neg Bool.false_ne_true]; exact q2 rfl H0 σ G1 H1 _ s1.fr (R.step s1) fun p vs G2 H2 ds s2 h0 g0 hp r q => z p vs G2 H2 ds (s1.trans s2) (s1.back h0) g0 hp r q
/-- a text sought in a list of one's own -/
theorem d_inOwn {neg : Bool} {i : Nat} {ss : List Str} (e : ρ[i]? = some (.own (strsOf ss))) (h : dE K hs te ρ fun x => ∃ s, x = .str s ∧ k (.bl (if neg then !decide (s ∈ ss) else decide (s ∈ ss)))) : dE K hs (tOp (rIn K neg) te (tVar i)) ρ k := fun H0 σ G H Q f R z =>
  h H0 σ G H _ f R fun v G1 H1 x s1 r1 ⟨s, ed, q⟩ => by
    subst ed
    obtain ⟨v', e1, p, vs, rfl, h0, ho, hg, hp, r⟩ := (R.step s1).at_ i _ e
    have ev := rel_strs r
    subst ev
    rw [rel_str r1]
    refine ⟨_, e1, p, _, rfl, .inl (SqL.of hp), rfl, flat_strs, ?_⟩
    rw [inV_str]
    exact z _ G1 H1 _ s1 .bl q
theorem d_nin1 {i : Nat} {ss : List Str} (e : ρ[i]? = some (.own (strsOf ss))) (h : dE K hs te ρ fun x => ∃ s, x = .str s ∧ k (.bl (!decide (s ∈ ss)))) : dE K hs (tOp (rIn K true) te (tVar i)) ρ k := d_inOwn (neg := true) e h
theorem s_ownS {i : Nat} (ss : List Str) (h : dL K hs te ρ fun ds => ds = strsOf ss ∧ E.nx (ρ.set i (.own (strsOf ss)))) : dS K hs (tAsg te (gName i)) ρ E := s_own fun H0 σ G H Q f R z => h H0 σ G H Q f R fun p vs G' H' ds s h0 g0 hp r q => z p vs G' H' ds s h0 g0 hp r (by rw [q.1]; exact q.2)
theorem s_extS {i : Nat} {ss : List Str} (e : ρ[i]? = some (.own (strsOf ss))) (h : dL K hs te ρ fun es => ∃ us : List Str, es = strsOf us ∧ ss.length + us.length ≤ 100000 ∧ E.nx (ρ.set i (.own (strsOf (ss ++ us))))) : dS K hs (tDrop (tBM K "list" rExtend (tVar i) (tCons te tNil))) ρ E := s_ext e fun H0 σ G H Q f R z => h H0 σ G H Q f R fun p vs G' H' ds s h0 g0 hp r ⟨us, eu, l, q⟩ => z p vs G' H' ds s h0 g0 hp r (by
  rw [eu]
  refine ⟨by simpa [strsOf] using l, ?_⟩
  rw [show strsOf ss ++ strsOf us = strsOf (ss ++ us) by simp [strsOf]]
  exact q)
theorem s_extDS {i : Nat} {ss : List Str} (e : ρ[i]? = some (.own (strsOf ss))) (h : dE K hs te ρ fun x => ∃ us : List Str, x = .lst (strsOf us) ∧ ss.length + us.length ≤ 100000 ∧ E.nx (ρ.set i (.own (strsOf (ss ++ us))))) : dS K hs (tDrop (tBM K "list" rExtend (tVar i) (tCons te tNil))) ρ E := s_extD e fun H0 σ G H Q f R z => h H0 σ G H Q f R fun v G' H' d s r ⟨us, eu, l, q⟩ => z v G' H' d s r (by
  refine ⟨_, eu, by simpa [strsOf] using l, ?_⟩
  rw [show strsOf ss ++ strsOf us = strsOf (ss ++ us) by simp [strsOf]]
  exact q)
theorem lcW_txt {js : List Nat} (p : Str → Bool) (h : ∀ s, ∀ kk : List Sl → Prop, (∀ ρ', (∀ kb : Bool → Prop, kb (p s) → dT K hs tt ρ' kb) → (p s = true → ∀ k : D → Prop, k (.str s) → dE K hs te ρ' k) → kk ρ') → dG K hs g (some js) (.str s) ρ kk) :
    ∀ (ss acc : List Str), kl (strsOf (acc ++ ss.filter p)) → lcW K hs g js tt te ρ kl (strsOf ss) (strsOf acc)
  | [], acc, q => by
    show kl _
    simpa using q
  | s :: r, acc, q => by
    refine h s _ fun ρ' h1 h2 => h1 _ ⟨fun e => h2 e _ ?_, fun e => ?_⟩
    · have := lcW_txt p h r (acc ++ [s]) (by rw [List.filter_cons, if_pos e] at q; simpa using q)
      rw [show strsOf acc ++ [.str s] = strsOf (acc ++ [s]) by simp [strsOf]]
      exact this
    · exact lcW_txt p h r acc (by rw [List.filter_cons, e] at q; simpa using q)
end
end PD
set_option Elab.async false
set_option linter.all false
set_option maxRecDepth 100000
set_option maxHeartbeats 1000000
namespace PD
open PySem L2
/-- the greatest, or what stands for none -/
def bigOf (d : Int) : List Int → Int
  | [] => d
  | y :: ys => ys.foldl max y
def rMaxDf (K : PySem.W.Frag) : List V → List V → Hp → VK → Prop := fun xs zs H Q => ∃ (a : Addr) (ns : List Int) (d : Int), xs = [.ref a] ∧ zs = [.int d] ∧ SqL K H a (ns.map V.int) ∧ Q (.int (bigOf d ns)) H
theorem depth_ints : ∀ ns : List Int, PyData.depthAll (ns.map .int) ≤ 1
  | [] => by simp [PyData.depthAll]
  | n :: r => by
    have := depth_ints r
    simp only [List.map_cons, PyData.depthAll, PyData.depth]
    omega
theorem alike_ints (ns : List Int) : PySem.W.AlikeAll (ns.map .int) := by
  refine ⟨fun x hx y hy => ?_, fun x hx => ?_⟩
  · obtain ⟨_, _, rfl⟩ := List.mem_map.mp hx
    obtain ⟨_, _, rfl⟩ := List.mem_map.mp hy
    rfl
  · obtain ⟨_, _, rfl⟩ := List.mem_map.mp hx
    exact fun e => by cases e
theorem cr_maxDf {X : Cx} (hc : X.calm = true) (hu : X.A.units + 64 < cLine) : CallRK X (.builtin "max") [Str.ofString "default"] (rMaxDf X.K) := by
  intro pins s σ H vs zs us ws Q I r rz h
  obtain ⟨a, ns, d, rfl, rfl, hs, q⟩ := h
  obtain rfl := Vals.ref1 r
  obtain ⟨w1, rfl, t, rfl⟩ := vals1 rz
  obtain ⟨its, rv, hl, _⟩ := I.list hs
  have dl := depth_ints ns
  refine PySem.W.max_list_default (I.ok.hd hc) hl.isList (xs := ns.map .int) (as := []) ?_ (alike_ints ns) (by omega) (fun e h' tk k => ?_) fun y ys i v h' tk bs e hv hr k => ?_
  · exact rv.ints.reads s.heap
  · have e' : ns = [] := by simpa using e
    subst e'
    exact ⟨.int d, H, I.kept k, ⟨_, rfl⟩, q⟩
  · cases ns with
    | nil => cases e
    | cons n r =>
      simp only [List.map_cons, List.cons.injEq] at e
      obtain ⟨e1, e2⟩ := e
      subst e1
      subst e2
      rw [PySem.W.maxD_ints] at hr
      cases hr
      exact ⟨.int _, H, I.kept k, ⟨_, rfl⟩, q⟩
section
variable {K : PySem.W.Frag} {hs : Option (Addr × Addr)} {ρ : List Sl} {k : D → Prop} {tx tk : TA}
theorem d_maxDf (h : dA K hs tx ρ fun xs => dA K hs tk ρ fun zs => ∃ (ns : List Int) (d : Int), xs = [.lst (ns.map D.int)] ∧ zs = [.int d] ∧ k (.int (bigOf d ns))) : dE K hs (tCKw (rMaxDf K) tx tk) ρ k := fun H0 σ G H Q f R z =>
  h H0 σ G H _ f R fun vs G1 H1 xs s1 r1 h1 => h1 H0 σ G1 H1 _ s1.fr (R.step s1) fun ws G2 H2 zs s2 r2 ⟨ns, d, e1, e2, q⟩ => by
    subst e1
    subst e2
    cases r1 with
    | cons r1 r1' =>
    cases r1'
    cases r2 with
    | cons r2 r2' =>
    cases r2'
    obtain ⟨a, vs, rfl, h, r⟩ := rel_lst r1
    have e := rel_ints r
    subst e
    rw [rel_int r2]
    exact ⟨a, _, _, rfl, rfl, SqL.of (s2.sub _ _ (s2.exg _ _ h)), z _ G2 H2 _ (s1.trans s2) .int q⟩
end
end PD
set_option Elab.async false
set_option linter.all false
set_option maxRecDepth 100000
set_option maxHeartbeats 1000000
namespace PD
open PySem L2
section
variable {K : PySem.W.Frag} {hs : Option (Addr × Addr)} {ρ : List Sl} {k : D → Prop} {kl : List D → Prop}
theorem dpAll_ints {H : Hp} : ∀ ns : List Int, DpAll K H (ns.map V.int) (ns.map .int)
  | [] => .nil
  | n :: r => .cons (.int n) (dpAll_ints r)
theorem r_neNil {ns : List Int} (sh : SeqAt.shaped (.list (ns.map .int)) = true) (q : k (.bl (!ns.isEmpty))) : dR K hs (rNeD K) (.lst (ns.map D.int)) (.lst []) k := fun G H v u Q f r1 r2 z => by
  obtain ⟨a, vs, rfl, hh, r⟩ := rel_lst r1
  obtain ⟨b, us, rfl, hh', r'⟩ := rel_lst r2
  have e := rel_ints r
  cases r'
  subst e
  refine ⟨_, .list [], .lst (SqL.of (f.sub _ _ hh)) (dpAll_ints ns), .lst (SqL.of (f.sub _ _ hh')) .nil, sh, rfl, ?_⟩
  have e2 : PyData.eqv (.list (ns.map .int)) (.list []) = ns.isEmpty := by cases ns <;> rfl
  rw [e2]
  exact z _ G H _ f.refl .bl q
theorem i_range2 {tx : TA} (h : dA K hs tx ρ fun xs => ∃ i j : Int, xs = [.int i, .int j] ∧ (-(2 ^ 62) ≤ i ∧ i < 2 ^ 62 ∧ -(2 ^ 62) ≤ j ∧ j < 2 ^ 62) ∧ kl (intsUp i (j - i).toNat)) : dI K hs (iRng2 tx) ρ kl := fun H0 σ G H Q f R z =>
  h H0 σ G H _ f R fun vs G1 H1 xs s1 r1 ⟨i, j, e, h1, q⟩ => by
    subst e
    cases r1 with
    | cons r r2 =>
    cases r2 with
    | cons r' r2 =>
      cases r2
      exact ⟨i, j, by rw [rel_int r, rel_int r'], h1, z _ G1 H1 _ s1 y_range q⟩
/-- a sign of a text, drawn -/
theorem r_pickS {x : Str} {r : Int} (hx : x.length ≤ 1000) (h0 : 0 ≤ r) (h1 : r < (x.cps.toList.length : Int)) (q : ∀ c ∈ x.cps.toList, k (.str ⟨#[c]⟩)) : dR K hs rIxS (.str x) (.int r) k := fun G H v u Q f r1 r2 z => by
  have hq : r.toNat < x.cps.toList.length := by omega
  rw [rel_str r1, rel_int r2]
  exact ⟨x, r, x.cps.toList[r.toNat], rfl, rfl, sz (by omega), atI_get (j := r.toNat) (by omega) (List.getElem?_eq_getElem hq), z _ G H _ f.refl .str (q _ (List.getElem_mem hq))⟩
end
end PD
set_option Elab.async false
set_option linter.all false
set_option maxRecDepth 100000
set_option maxHeartbeats 1000000
namespace PD
open PySem L2
section
variable {K : PySem.W.Frag} {hs : Option (Addr × Addr)} {ρ : List Sl} {k : D → Prop} {te : TE}
theorem isi_two {x : D} {g : Tg} {a b : Tg} {G H : Hp} {v : V} {Q : VK} {p : Addr} (e : tgD x = some g) (s : Same G H) (r : Rel K G v x) (hp : H p = some (.tup [.ty a.nm, .ty b.nm])) (q : Q (.bl (g.is a || g.is b)) H) : rIsiT K [v, .ref p] H Q := by
  have e1 : tyD x = g.nm := by
    cases x <;> simp only [tgD, Option.some.injEq, reduceCtorEq] at e <;> subst e <;> rfl
  have ne : tyD x ≠ "" := by
    rw [e1]
    cases g <;> decide
  refine ⟨v, p, _, _, _, _, rfl, hp, .cons (.ty _) (.cons (.ty _) .nil), rel_ty s r ne, ?_, q⟩
  have k1 := kit_ty (K := K) (show kitB (tyD x) a.nm = some (g.is a) by rw [e1]; exact kit_tg g a)
  have k2 := kit_ty (K := K) (show kitB (tyD x) b.nm = some (g.is b) by rw [e1]; exact kit_tg g b)
  simp [PySem.W.kitAny, k1, k2]
  cases g.is a <;> cases g.is b <;> rfl
/-- isinstance(x, (tuple, list)) -/
theorem d_isiTL (h : dE K hs te ρ fun x => ∃ g, tgD x = some g ∧ k (.bl (g.is .tup || g.is .lst))) : dE K hs (tCB (rIsiT K) (tCons te (tCons (tTup (tCons (tC (.ty "tuple")) (tCons (tC (.ty "list")) tNil))) tNil))) ρ k := fun H0 σ G H Q f R z =>
  h H0 σ G H _ f R fun v G1 H1 x s1 r ⟨g, e, q⟩ => ⟨by decide, fun p hp =>
    have s2 : Step hs G1 H1 _ _ := Step.alloc s1.sub s1.st hp
    isi_two (a := .tup) (b := .lst) e s2.sub (r.mono s2.exg) upd_same (z _ _ _ _ (s1.trans s2) .bl q)⟩
end
end PD
set_option Elab.async false
set_option linter.all false
set_option maxRecDepth 100000
set_option maxHeartbeats 1000000
namespace PD
open PySem L2 PyProof.Rows
theorem vals_at : ∀ {vs : List V} {us : List Value}, vs.length = us.length → (∀ (j : Nat) v u, vs[j]? = some v → us[j]? = some u → RelV v u) → Vals vs us
  | [], [], _, _ => .nil
  | [], _ :: _, e, _ => by cases e
  | _ :: _, [], e, _ => by cases e
  | v :: vs, u :: us, e, h => .cons (h 0 v u rfl rfl) (vals_at (by simpa using e) fun j x y a b => h (j + 1) x y (by simpa using a) (by simpa using b))
/-! ### list(a text) -/
def rListStr : List V → Hp → VK → Prop := fun xs H Q => ∃ x : Str, xs = [.str x] ∧ x.cps.size ≤ sizeLine ∧ ∀ l, H l = none → Q (.ref l) (upd H l (.lst (x.cps.toList.map fun c => V.str ⟨#[c]⟩)))
theorem cr_listStr {X : Cx} (hc : X.calm = true) : CallR X (.type "list") rListStr := by
  intro pins s σ H xs us Q I r h
  obtain ⟨x, rfl, hz, q⟩ := h
  obtain ⟨u, rfl, rx⟩ := vals1 r
  obtain ⟨t, rfl⟩ := rx
  refine PySem.call_list_str (I.ok.hd hc) x t (hn := hz) fun h' tk acc c' hk hS hacc => ?_
  refine ⟨.ref s.heap.objs.size, _, I.laid (t' := tk) hk (Nat.le_refl _) (show ObjOk X.prog X.w _ _ _ (.lst (x.cps.toList.map fun c => V.str ⟨#[c]⟩)) from ⟨by simpa using hz, acc.toList, c', vals_at (by simp [hacc.1]) fun j v u e1 e2 => ?_, by simpa using hS⟩), rfl, q _ (I.hok.fresh (Nat.le_refl _))⟩
  obtain ⟨c, t', h1, h2⟩ := hacc.2 j u (by simpa using e2)
  subst h2
  have : v = V.str ⟨#[c]⟩ := by
    have h3 : x.cps.toList[j]? = some c := by simpa using h1
    rw [List.getElem?_map, h3] at e1
    exact (Option.some.inj e1).symm
  subst this
  exact ⟨_, rfl⟩
/-! ### tuples whose object is known to have no attributes: tuple(a list), a slice -/
def rTupF (K : PySem.W.Frag) : List V → Hp → VK → Prop := fun xs H Q => ∃ p ys, xs = [.ref p] ∧ SqL K H p ys ∧ ∀ l o, H l = none → o.dict = none → Q (.ref l) (upd H l (.frz o (.tup ys)))
theorem cr_tupF {X : Cx} : CallR X (.type "tuple") (rTupF X.K) := by
  intro pins s σ H xs us Q I r h
  obtain ⟨p, ys, rfl, hq, q⟩ := h
  obtain ⟨u, rfl, rx⟩ := vals1 r
  cases rx
  obtain ⟨its, r', pl, hz⟩ := I.list hq
  have hlen := r'.length
  refine call_tuple_list pl.isList (fun h' kp => ?_) (by simp only [List.size_toArray] <;> omega)
  have I1 : Inv X pins σ H { s with heap := h' } := I.kept (t' := s.toks) kp
  have hg : (h'.push { cls := .type "tuple", data := .seq its.toArray }).get? h'.objs.size = some { cls := .type "tuple", data := .seq its.toArray } := Heap.get?_push_size _ rfl
  have I2 : Inv X pins σ (upd H h'.objs.size (.frz { cls := .type "tuple", data := .seq its.toArray } (.tup ys))) { s with heap := h'.push { cls := .type "tuple", data := .seq its.toArray } } :=
    I1.laid (t' := s.toks) (fun b o e => Heap.get?_push_of_some _ e) (Nat.le_refl _) (show ObjOk X.prog X.w _ _ _ (.frz _ (.tup ys)) from ⟨hg, hz, its, r', _, hg, rfl, _, rfl⟩)
  exact ⟨.ref h'.objs.size, _, I2, rfl, q _ _ (I1.hok.fresh (Nat.le_refl _)) rfl⟩
def rSlF (K : PySem.W.Frag) : V → Option Int → Option Int → Hp → VK → Prop := fun x lo hi H Q => ∃ a xs, x = .ref a ∧ SqT K H a xs ∧
  (HT.sIx xs.length 0 lo = 0 ∧ HT.sIx xs.length xs.length hi = xs.length → Q (.ref a) H) ∧ (¬ (HT.sIx xs.length 0 lo = 0 ∧ HT.sIx xs.length xs.length hi = xs.length) → ∀ p o, H p = none → o.dict = none → Q (.ref p) (upd H p (.frz o (.tup (cutV xs lo hi)))))
theorem sl_tupF {X : Cx} : L2.SlR X (rSlF X.K) := by
  intro pins s σ H x v vl vu lo hi sl Q I rx hs pl pu h
  obtain ⟨a, xs, rfl, hx, q1, q2⟩ := h
  cases rx
  obtain ⟨its, r, ht, hz⟩ := I.tuple hx
  have hlen : its.toArray.size = xs.length := by rw [List.size_toArray]; exact r.length.symm
  refine ⟨"tuple", _, PyProof.Rows.slot_tuple_getitem.lookup, ht.typeIs, ?_⟩
  by_cases hw : HT.sIx xs.length 0 lo = 0 ∧ HT.sIx xs.length xs.length hi = xs.length
  · exact getItem_tuple_whole ht hs pl pu (by rw [hlen]; exact hw) ⟨.ref a, H, I, rfl, q1 hw⟩
  · refine HT.getItem_tuple_cut ht hs pl pu (by rw [hlen]; exact hw) ?_ (by rw [hlen]; exact hz)
    rw [hlen]
    have hv := (r.drop (HT.sIx xs.length 0 lo)).take (HT.sIx xs.length xs.length hi - HT.sIx xs.length 0 lo)
    let ob : Obj := { cls := .type "tuple", data := .seq ((its.drop (HT.sIx xs.length 0 lo)).take (HT.sIx xs.length xs.length hi - HT.sIx xs.length 0 lo)).toArray }
    refine ⟨.ref s.heap.objs.size, _, I.laid (t' := s.toks) (o := .frz ob (.tup (cutV xs lo hi))) (fun b ob q => Heap.get?_push_of_some _ q) (Nat.le_refl _) ?_, rfl, q2 hw _ ob (I.hok.fresh (Nat.le_refl _)) rfl⟩
    exact ⟨Heap.get?_push_size s.heap (o := ob) rfl, Nat.le_trans (cutV_length xs lo hi) hz, _, hv, PyProof.Rows.IsTup.new _ _⟩
/-! ### dict(a tuple of pairs) -/
def rDictT (K : PySem.W.Frag) : List V → Hp → VK → Prop := fun xs H Q => ∃ (a : Addr) (o : Obj) (ps : List Addr) (kvs : List (Key × V)), xs = [.ref a] ∧ H a = some (.frz o (.tup (ps.map V.ref))) ∧ o.dict = none ∧ Paired (fun p kv => SqT K H p [kV kv.1, kv.2]) ps kvs ∧
  ∀ p, H p = none → Q (.ref p) (upd H p (.dK (mergeK [] kvs)))
theorem cr_dictT {X : Cx} (hc : X.calm = true) : CallR X (.type "dict") (rDictT X.K) := by
  intro pins s σ H xs us Q I r h
  obtain ⟨a, o, ps, kvs, rfl, ha, hd, hp, q⟩ := h
  obtain ⟨u, rfl, rx⟩ := vals1 r
  cases rx
  obtain ⟨hg, hz, its, rv, o', ho', hcls, n, hdat⟩ := I.hok a _ ha
  rw [hg] at ho'
  cases ho'
  have ei := refs_at rv
  subst ei
  rw [List.length_map] at hz
  obtain ⟨prs, rel, hl, hpr⟩ := pairs_of I hp
  have key : ∀ (j : Nat) (q' : Key × Value), prs[j]? = some q' → ∃ (b : Addr) (u : Value), ps[j]? = some b ∧ IsTup s.heap b #[u, q'.2] ∧ keyIs q'.1 u = true := hpr
  -- the keys as they stand
  have fk : ∃ pv : List (Value × Value), pv.length = ps.length ∧ ∀ (j : Nat) (k v : Value), pv[j]? = some (k, v) → (∃ b, ps[j]? = some b ∧ IsTup s.heap b #[k, v]) ∧ ∃ q', prs[j]? = some (q', v) ∧ keyIs q' k = true := by
    clear rel hz ha hg hdat hcls hp rv
    induction ps generalizing prs with
    | nil => exact ⟨[], rfl, fun j k v e => by simp at e⟩
    | cons b ps ih =>
      cases prs with
      | nil => cases hl
      | cons q0 prs =>
        obtain ⟨b0, u0, e1, e2, e3⟩ := key 0 q0 rfl
        obtain ⟨pv, l1, h1⟩ := ih prs (by simpa using hl) (fun j q' e => by simpa using hpr (j + 1) q' (by simpa using e)) (fun j q' e => by simpa using key (j + 1) q' (by simpa using e))
        refine ⟨(u0, q0.2) :: pv, by simpa using l1, fun j k v e => ?_⟩
        cases j with
        | zero =>
          simp only [List.getElem?_cons_zero, Option.some.injEq, Prod.mk.injEq] at e
          obtain ⟨rfl, rfl⟩ := e
          exact ⟨⟨b0, e1, e2⟩, q0.1, rfl, e3⟩
        | succ j =>
          obtain ⟨a1, a2⟩ := h1 j k v (by simpa using e)
          exact ⟨by simpa using a1, by simpa using a2⟩
  obtain ⟨pv, hpl, hpv⟩ := fk
  let Ts : Nat → Addr := fun j => ps.getD j 0
  have hm : (s.heap.objs.size == sysModules) = false := beq_eq_false_iff_ne.mpr (Nat.ne_of_gt I.big)
  have hlen : (mergeK [] kvs).length ≤ sizeLine := by
    refine Nat.le_trans (length_mergeK kvs []) ?_
    rw [List.length_nil, Nat.zero_add, rel.length, hl]
    exact hz
  refine PySem.call_dict_pairs (knd := mixKind X.prog X.w) (kvs := prs) (PySem.PairArg.tuple a (ps.map Value.ref).toArray Ts pv) (I.ok.hd hc) ⟨⟨o, n, hg, hcls, hd, hdat⟩, by simp [hpl], fun j k v e => ?_⟩ ⟨by rw [hl, hpl], fun i k v e => ?_⟩ (by rw [hpl]; exact hz) fun h' tk hd' hk => ?_
  · obtain ⟨⟨b, e1, e2⟩, _⟩ := hpv j k v e
    refine ⟨by simp [Ts, List.getD, e1], .inl ?_⟩
    have eb : Ts j = b := by simp [Ts, List.getD, e1]
    rw [eb]
    exact e2
  · obtain ⟨_, q', e1, e2⟩ := hpv i k v e
    exact ⟨q', e1, e2⟩
  · exact ⟨.ref s.heap.objs.size, upd H s.heap.objs.size (.dK (mergeK [] kvs)), I.laid (t' := tk) (fun b o e => hk b o (by simp) e) (Nat.le_refl _) (show ObjOk X.prog X.w _ _ _ (.dK (mergeK [] kvs)) from ⟨hlen, hm, merged [] prs, KV.merge rel .nil, hd'⟩), rfl, q _ (I.hok.fresh (Nat.le_refl _))⟩
/-! ### d.update(another dict) -/
def rDUpd : V → List V → Hp → VK → Prop := fun x vs H Q => ∃ d o kvs more, x = .ref d ∧ vs = [.ref o] ∧ d ≠ o ∧ H d = some (.dK kvs) ∧ H o = some (.dK more) ∧ kvs.length + more.length ≤ sizeLine ∧ Q .non (upd H d (.dK (mergeK kvs more)))
theorem mt_dupd {X : Cx} : MtM X "dict.update" rDUpd := by
  intro pins s σ H x vs v us Q I rx rv h
  obtain ⟨d, o, kvs, more, rfl, rfl, hne, hd, ho, hz, q⟩ := h
  cases rx
  obtain ⟨u, rfl, ru⟩ := rv.one
  cases ru
  obtain ⟨z1, m1, vs1, k1, D1⟩ := dk_of I.hok hd
  obtain ⟨z2, m2, vs2, k2, D2⟩ := dk_of I.hok ho
  refine call_meetsIn PySem.F.slot_dict_update D1.typeIs PySem.F.entry_dict_update (PySem.F.args_dict_update_2 _ _) (PySem.meets_dict_update (mixKind X.prog X.w) d o hne m2) ⟨vs1, vs2, D1, D2, by rw [← k1.length, ← k2.length]; exact hz, fun h' dd _ hs => ?_⟩
  have he : ∃ q, h'.get? d = some q := let ⟨q, _, _, hq, _⟩ := dd; ⟨q, hq⟩
  have hl : (mergeK kvs more).length ≤ sizeLine := Nat.le_trans (length_mergeK more kvs) hz
  exact ⟨.non, _, d_write I (by rw [hd]; exact True.intro) hs he (dk_new hl m1 (k2.merge k1) dd), rfl, q⟩
end PD
set_option Elab.async false
set_option linter.all false
set_option maxRecDepth 100000
set_option maxHeartbeats 1000000
namespace PD
open PySem L2
section
variable {K : PySem.W.Frag} {hs : Option (Addr × Addr)} {ρ : List Sl} {k : D → Prop} {kl : List D → Prop} {te te2 tv ty : TE} {t u : TS} {E : DEnds}
/-- list(a text) -/
theorem l_listStr (h : dE K hs te ρ fun y => ∃ x : Str, y = .str x ∧ x.cps.size ≤ 100000 ∧ kl (x.cps.toList.map sgn)) : dL K hs (tCB rListStr (tCons te tNil)) ρ kl := fun H0 σ G H Q f R z =>
  h H0 σ G H _ f R fun v G1 H1 y s1 r1 ⟨x, e, hl, q⟩ => by
    subst e
    rw [rel_str r1]
    refine ⟨x, rfl, sz hl, fun l hp => ?_⟩
    have rl : ∀ cs : List Nat, RelL K G1 (cs.map fun c => V.str ⟨#[c]⟩) (cs.map sgn) := fun cs => by
      induction cs with
      | nil => exact .nil
      | cons c cs ih => exact .cons .str ih
    exact z l _ G1 _ _ (s1.trans (Step.fresh s1.sub s1.st hp)) (s1.back hp) (Same.free s1.sub hp) upd_same (rl _) q
/-- a tuple without attributes is a tuple -/
theorem Rel.weak {G : Hp} {v : V} {ds : List D} (r : Rel K G v (.tpf ds)) : Rel K G v (.tup ds) := by
  cases r with
  | tpf h n r => exact .tup (.inl (.inr ⟨_, h⟩)) r
theorem rel_tpf {G : Hp} {v : V} {ds : List D} (r : Rel K G v (.tpf ds)) : ∃ a o vs, v = .ref a ∧ G a = some (.frz o (.tup vs)) ∧ o.dict = none ∧ RelL K G vs ds := by cases r with | tpf h n r => exact ⟨_, _, _, rfl, h, n, r⟩
theorem d_tupF (h : dE K hs te ρ fun x => ∃ ds, x = .lst ds ∧ k (.tpf ds)) : dE K hs (tCB (rTupF K) (tCons te tNil)) ρ k := fun H0 σ G H Q f R z =>
  h H0 σ G H _ f R fun v G1 H1 x s1 r1 ⟨ds, e, q⟩ => by
    subst e
    obtain ⟨a, vs, rfl, hh, r⟩ := rel_lst r1
    refine ⟨a, vs, rfl, SqL.of (s1.sub _ _ hh), fun l o hp ho => ?_⟩
    have s2 : Step hs G1 H1 _ _ := Step.alloc (o := .frz o (.tup vs)) s1.sub s1.st hp
    exact z _ _ _ _ (s1.trans s2) (.tpf upd_same ho (r.mono s2.exg)) q
theorem d_slF {tl th : TO} (h : dE K hs te ρ fun x => dO K hs tl ρ fun l => dO K hs th ρ fun u => ∃ ds, x = .tpf ds ∧ k (.tpf (cutD ds l u))) : dE K hs (tSl (rSlF K) te tl th) ρ k := fun H0 σ G H Q f R z =>
  h H0 σ G H _ f R fun v G1 H1 x s1 r1 h1 => h1 H0 σ G1 H1 _ s1.fr (R.step s1) fun l G2 H2 s2 h2 => h2 H0 σ G2 H2 _ s2.fr (R.step (s1.trans s2)) fun hi G3 H3 s3 ⟨ds, e, q⟩ => by
    subst e
    have r3 := r1.mono (s2.trans s3).exg
    obtain ⟨a, o, vs, rfl, hh, ho, r⟩ := rel_tpf r3
    refine ⟨a, vs, rfl, .inl (.inr ⟨o, s3.sub _ _ hh⟩), fun e => ?_, fun _ p o' hp ho' => ?_⟩
    · refine z _ G3 H3 _ ((s1.trans s2).trans s3) r3 ?_
      have : cutD ds l hi = ds := by
        unfold cutD
        rw [r.length] at e
        rw [e.1, e.2]
        simp
      rw [this] at q
      exact q
    · have s4 := Step.alloc (o := .frz o' (.tup (cutV vs l hi))) s3.sub s3.st hp
      exact z _ _ _ _ (((s1.trans s2).trans s3).trans s4) (.tpf upd_same ho' ((rel_cut r l hi).mono s4.exg)) q
/-! ### dict(pairs) -/
def prD (p : Str × D) : D := .tup [.str p.1, p.2]
theorem rel_prs {G H : Hp} (s : Same G H) : ∀ {ks : List (Str × D)} {vs : List V}, RelL K G vs (ks.map prD) → ∃ (ps : List Addr) (kvs : List (Key × V)), vs = ps.map V.ref ∧ Paired (fun p kv => SqT K H p [kV kv.1, kv.2]) ps kvs ∧ RelK K G kvs ks
  | [], _, .nil => ⟨[], [], rfl, .nil, .nil⟩
  | p :: ks, _, .cons r t => by
    obtain ⟨ps, kvs, e, h1, h2⟩ := rel_prs s t
    subst e
    obtain ⟨a, vs, rfl, h, r⟩ := rel_tup r
    cases r with
    | cons r1 r2 =>
    cases r2 with
    | cons r2 r3 =>
    cases r3
    rw [rel_str r1] at h
    exact ⟨a :: ps, (Sum.inr p.1, _) :: kvs, rfl, .cons (Same.tseq s h) h1, .cons r2 h2⟩
abbrev rDictL (K : PySem.W.Frag) : List V → Hp → VK → Prop := fun xs H Q => ∃ (a : Addr) (ps : List Addr) (kvs : List (Key × V)), xs = [.ref a] ∧ SqL K H a (ps.map V.ref) ∧ Paired (fun p kv => SqT K H p [kV kv.1, kv.2]) ps kvs ∧
    ∀ p, H p = none → Q (.ref p) (upd H p (.dK (mergeK [] kvs)))
theorem d_dictL (h : dE K hs te ρ fun x => ∃ ks : List (Str × D), x = .lst (ks.map prD) ∧ k (.dct (mergeD [] ks))) : dE K hs (tCB (rDictL K) (tCons te tNil)) ρ k := fun H0 σ G H Q f R z =>
  h H0 σ G H _ f R fun v G1 H1 x s1 r1 ⟨ks, e, q⟩ => by
    subst e
    obtain ⟨a, vs, rfl, hh, r⟩ := rel_lst r1
    obtain ⟨ps, kvs, e, h1, h2⟩ := rel_prs s1.sub r
    subst e
    refine ⟨a, ps, kvs, rfl, SqL.of (s1.sub _ _ hh), h1, fun p hp => ?_⟩
    have s2 := Step.alloc (o := .dK (mergeK [] kvs)) s1.sub s1.st hp
    exact z _ _ _ _ (s1.trans s2) (.dct upd_same ((rel_merge h2 .nil).mono' s2.exg)) q
theorem d_dictT (h : dE K hs te ρ fun x => ∃ ks : List (Str × D), x = .tpf (ks.map prD) ∧ k (.dct (mergeD [] ks))) : dE K hs (tCB (rDictT K) (tCons te tNil)) ρ k := fun H0 σ G H Q f R z =>
  h H0 σ G H _ f R fun v G1 H1 x s1 r1 ⟨ks, e, q⟩ => by
    subst e
    obtain ⟨a, o, vs, rfl, hh, ho, r⟩ := rel_tpf r1
    obtain ⟨ps, kvs, e, h1, h2⟩ := rel_prs s1.sub r
    subst e
    refine ⟨a, o, ps, kvs, rfl, s1.sub _ _ hh, ho, h1, fun p hp => ?_⟩
    have s2 := Step.alloc (o := .dK (mergeK [] kvs)) s1.sub s1.st hp
    exact z _ _ _ _ (s1.trans s2) (.dct upd_same ((rel_merge h2 .nil).mono' s2.exg)) q
theorem mergeD_new : ∀ {more ks : List (Str × D)}, ((ks ++ more).map (·.1)).Nodup → mergeD ks more = ks ++ more
  | [], ks, _ => by simp [mergeD]
  | p :: more, ks, h => by
    have hn : p.1 ∉ ks.map (·.1) := by
      rw [List.map_append, List.nodup_append] at h
      exact fun e => h.2.2 _ e _ (by simp) rfl
    have e : mergeD ks (p :: more) = mergeD (ks ++ [p]) more := by
      show mergeD (putD ks p.1 p.2) more = _
      rw [putD_new hn]
    rw [e, mergeD_new (by simpa using h)]
    simp
/-! ### a dict of one's own that changes once -/
def dM (K : PySem.W.Frag) (hs : Option (Addr × Addr)) (t : TE) (ρ : List Sl) (k : List (Str × D) → Prop) : Prop := ∀ (H0 : Hp) (σ : L2.St) (G H : Hp) (Q : VK), Fr hs G H → EnvR K hs H0 G H σ ρ →
  (∀ p kvs G' H' ks, Step hs G H G' H' → H p = none → G' p = none → H' p = some (.dK kvs) → RelK K G' kvs ks → k ks → Q (.ref p) H') → t σ H Q
theorem m_disp {trs : List (TE × TE)} {kd : List (Str × D) → Prop} (h : dP K hs trs ρ fun ps => ps.length ≤ 15 ∧ kd (mergeD [] ps)) : dM K hs (tDisp trs) ρ kd := fun H0 σ G H Q f R z p hp => by
  have s0 := Step.fresh (o := .dK []) f.sub f.st hp
  refine pairs_run h H0 σ G _ _ s0.fr (R.step s0) fun kvs G1 H1 ps s1 r1 ⟨hl, q⟩ => ?_
  have oD := f.outs hp
  have hk : H1 p = some (.dK []) := s1.frm p _ oD upd_same
  have gp : G1 p = none := by
    cases e : G1 p with
    | none => rfl
    | some o =>
      have := s1.new p o e (Same.free f.sub hp)
      rw [upd_same] at this; cases this
  refine ⟨hk, kvs, rfl, by rw [r1.len]; exact hl, ?_⟩
  have s2 := (s0.trans s1).mut (o := .dK (mergeK [] kvs)) hp oD gp
  exact z p _ _ _ _ s2 hp gp upd_same (rel_merge r1 .nil) q
theorem stay {G H G' H' : Hp} {p : Addr} {o : HO} (s : Step hs G H G' H') (ho : Outs hs p) (g : G p = none) (h : H p = some o) : G' p = none ∧ H' p = some o := by
  refine ⟨?_, s.frm _ _ ho h⟩
  cases e : G' p with
  | none => rfl
  | some q =>
    have := s.new p q e g
    rw [h] at this; cases this
theorem get_set {α : Type} {l : List α} {i : Nat} {x : α} (h : i < l.length) : (l.set i x)[i]? = some x := List.getElem?_set_self h
/-- x = {..}; x.update(..) -/
theorem s_updD {i : Nat} (hi : i < ρ.length) (h : dM K hs te ρ fun ks => dE K hs te2 (ρ.set i .un) fun x => ∃ ms, x = .dct ms ∧ ks.length + ms.length ≤ 100000 ∧ dS K hs u (ρ.set i (.d (.dct (mergeD ks ms)))) E) :
    dS K hs (tSeq (tAsg te (gName i)) (tSeq (tDrop (tBM K "dict" rDUpd (tVar i) (tCons te2 tNil))) u)) ρ E := fun G0 H0 Gb σ G H D s b R z =>
  h H0 σ G H _ s.fr R fun p kvs G1 H1 ks s1 h0 g1 hp r q => by
    have ho := s.fr.outs h0
    have R1 : EnvR K hs H0 G1 H1 (σ.set i (some (.ref p))) (ρ.set i .un) := (R.step s1).set trivial (fun _ e => by cases e)
    have hσ : i < σ.length := by rw [R.len]; exact hi
    refine ⟨_, get_set hσ, .inr (.inr (.inl ⟨rfl, .inl ⟨kvs, hp⟩⟩)), q H0 _ G1 H1 _ s1.fr R1 fun w G2 H2 x s2 r2 ⟨ms, e, hl, q2⟩ => ?_⟩
    subst e
    obtain ⟨o, more, rfl, hmo, rm⟩ := rel_dct r2
    obtain ⟨g2, hp2⟩ := stay s2 ho g1 hp
    have ne : p ≠ o := fun e => by
      rw [e] at g2
      rw [g2] at hmo; cases hmo
    refine ⟨p, o, kvs, more, rfl, rfl, ne, hp2, s2.sub _ _ hmo, sz (by rw [r.len, rm.len]; exact hl), ?_⟩
    have s3 := ((s1.trans s2).mut (o := .dK (mergeK kvs more)) h0 ho g2).freeze h0 ho g2 upd_same
    have e3 : Same G2 (upd G2 p (.dK (mergeK kvs more))) := fun a o e => by
      rw [upd_ne (ne_of_none e g2)]; exact e
    refine q2 G0 H0 Gb _ _ _ D (s.trans s3) (b.trans s3.exg) ((R.step s3).set ⟨_, rfl, .dct upd_same ((rel_merge rm (RelK.mono' s2.exg r)).mono' e3)⟩ (fun _ e => by cases e)) z
/-- x = {..}; x[k] = v -/
theorem s_putD {i : Nat} (hi : i < ρ.length) (h : dM K hs te ρ fun ks => ks.length ≤ 100000 ∧ dE K hs tv (ρ.set i .un) fun dv => dE K hs ty (ρ.set i .un) fun y => ∃ s, y = .str s ∧ dS K hs u (ρ.set i (.d (.dct (putD ks s dv)))) E) :
    dS K hs (tSeq (tAsg te (gName i)) (tSeq (sDPut (tVar i) ty tv) u)) ρ E := fun G0 H0 Gb σ G H D s b R z =>
  h H0 σ G H _ s.fr R fun p kvs G1 H1 ks s1 h0 g1 hp r ⟨hl, q⟩ => by
    have ho := s.fr.outs h0
    have R1 : EnvR K hs H0 G1 H1 (σ.set i (some (.ref p))) (ρ.set i .un) := (R.step s1).set trivial (fun _ e => by cases e)
    have hσ : i < σ.length := by rw [R.len]; exact hi
    refine q H0 _ G1 H1 _ s1.fr R1 fun w G2 H2 dv s2 r2 q2 => ⟨_, get_set hσ, q2 H0 _ G2 H2 _ s2.fr (R1.step s2) fun y G3 H3 dy s3 r3 ⟨x, e, q3⟩ => ?_⟩
    subst e
    rw [rel_str r3]
    obtain ⟨g3, hp3⟩ := stay (s2.trans s3) ho g1 hp
    refine ⟨p, _, rfl, DPut.k (k := Sum.inr x) hp3 (by rw [r.len]; exact Nat.lt_of_le_of_lt hl (by decide)), ?_⟩
    have s4 := ((s1.trans (s2.trans s3)).mut (o := .dK (putK kvs (Sum.inr x) w)) h0 ho g3).freeze h0 ho g3 upd_same
    have e4 : Same G3 (upd G3 p (.dK (putK kvs (Sum.inr x) w))) := fun a o e => by
      rw [upd_ne (ne_of_none e g3)]; exact e
    exact q3 G0 H0 Gb _ _ _ D (s.trans s4) (b.trans s4.exg) ((R.step s4).set ⟨_, rfl, .dct upd_same ((rel_put (RelK.mono' (s2.trans s3).exg r) (r2.mono s3.exg)).mono' e4)⟩ (fun _ e => by cases e)) z
end
/-- arguments seen as less -/
def Weak (K : PySem.W.Frag) (d d' : D) : Prop := ∀ G v, Rel K G v d → Rel K G v d'
section
variable {K : PySem.W.Frag} {hs : Option (Addr × Addr)} {ρ : List Sl} {k : D → Prop} {tx : TA} {M : List D → (D → Prop) → Prop} {X : XK} {te : TE}
theorem d_weak (h : dE K hs te ρ fun d => ∃ d', Weak K d d' ∧ k d') : dE K hs te ρ k := fun H0 σ G H Q f R z =>
  h H0 σ G H Q f R fun v G1 H1 d s r ⟨d', w, q⟩ => z v G1 H1 d' s (w _ _ r) q
end
end PD
set_option Elab.async false
set_option linter.all false
set_option maxRecDepth 100000
set_option maxHeartbeats 1000000
namespace PD
open PySem L2
/-! a list of lists of texts, all of one's own: at p the outer one -/
structure Inner (hs : Option (Addr × Addr)) (H0 G H : Hp) (q : Addr) (os : List Str) : Prop where
  h0 : H0 q = none
  out : Outs hs q
  g : G q = none
  at_ : H q = some (.lst (os.map V.str))
structure Own2 (hs : Option (Addr × Addr)) (H0 G H : Hp) (p : Addr) (oss : List (List Str)) : Prop where
  h0 : H0 p = none
  out : Outs hs p
  g : G p = none
  ex : ∃ qs : List Addr, H p = some (.lst (qs.map V.ref)) ∧ qs.Nodup ∧ p ∉ qs ∧ qs.length = oss.length ∧ ∀ (j : Nat) q os, qs[j]? = some q → oss[j]? = some os → Inner hs H0 G H q os
section
variable {hs : Option (Addr × Addr)} {H0 G H G' H' : Hp} {p q : Addr} {os : List Str} {oss : List (List Str)}
theorem Inner.step (s : Step hs G H G' H') (h : Inner hs H0 G H q os) : Inner hs H0 G' H' q os :=
  let ⟨a, b⟩ := stay s h.out h.g h.at_
  ⟨h.h0, h.out, a, b⟩
theorem Own2.step (s : Step hs G H G' H') (h : Own2 hs H0 G H p oss) : Own2 hs H0 G' H' p oss := by
  obtain ⟨qs, h1, h2, h3, h4, h5⟩ := h.ex
  obtain ⟨a, b⟩ := stay s h.out h.g h1
  exact ⟨h.h0, h.out, a, qs, b, h2, h3, h4, fun j q os e1 e2 => (h5 j q os e1 e2).step s⟩
end
def Flat (ρ : List Sl) : Prop := ∀ (i : Nat) (ds : List D), ρ[i]? ≠ some (.own ds)
theorem EnvR.flat {K : PySem.W.Frag} {hs : Option (Addr × Addr)} {H0 G H H0' H' : Hp} {σ : L2.St} {ρ : List Sl} (h : EnvR K hs H0 G H σ ρ) (f : Flat ρ) : EnvR K hs H0' G H' σ ρ :=
  ⟨h.len, fun i s e => by
    obtain ⟨v, a, b⟩ := h.at_ i s e
    refine ⟨v, a, ?_⟩
    cases s with
    | un => trivial
    | d x => exact b
    | own ds => exact absurd e (f i ds), fun i j ds es p e => absurd e (f i ds)⟩
theorem Flat.set {ρ : List Sl} (f : Flat ρ) {i : Nat} {d : D} : Flat (ρ.set i (.d d)) := fun j ds e => by
  by_cases q : i = j
  · subst q
    rw [List.getElem?_set] at e
    simp only [if_true] at e
    split at e <;> cases e
  · rw [List.getElem?_set_ne q] at e
    exact f j ds e
section
variable {K : PySem.W.Frag} {hs : Option (Addr × Addr)} {ρ : List Sl} {p : Addr} {oss : List (List Str)} {t u : TS} {te : TE} {E : DEnds} {nx : List Sl → List (List Str) → Prop}
/-- a statement while the lists at p are one's own: it only goes on -/
def dS2 (K : PySem.W.Frag) (hs : Option (Addr × Addr)) (p : Addr) (t : TS) (ρ : List Sl) (oss : List (List Str)) (nx : List Sl → List (List Str) → Prop) : Prop := ∀ (G0 H0 Gb : Hp) (σ : L2.St) (G H : Hp) (D : Ends), Step hs G0 H0 G H → Same Gb G → EnvR K hs H0 G H σ ρ → Own2 hs H0 G H p oss →
  (∀ σ' G' H' ρ' oss', Step hs G0 H0 G' H' → Same Gb G' → EnvR K hs H0 G' H' σ' ρ' → Own2 hs H0 G' H' p oss' → nx ρ' oss' → D.nx σ' H') → t D σ H
theorem o_seq (h : dS2 K hs p t ρ oss fun ρ' oss' => dS2 K hs p u ρ' oss' nx) : dS2 K hs p (tSeq t u) ρ oss nx := fun G0 H0 Gb σ G H D s b R O z =>
  h G0 H0 Gb σ G H { D with nx := u D } s b R O fun σ' G' H' ρ' oss' s' b' R' O' q => q G0 H0 Gb σ' G' H' D s' b' R' O' z
theorem o_set {i : Nat} (h : dE K hs te ρ fun d => nx (ρ.set i (.d d)) oss) : dS2 K hs p (tAsg te (gName i)) ρ oss nx := fun G0 H0 Gb σ G H D s b R O z =>
  h H0 σ G H _ s.fr R fun v G1 H1 d s1 r1 q => z _ _ _ _ _ (s.trans s1) (b.trans s1.exg) ((R.step s1).set (s := .d d) ⟨v, rfl, r1⟩ fun _ e => by cases e) (O.step s1) q
theorem o_for {ti : TI} {g : TG} {Q : D → Prop} (h : dI K hs ti ρ fun ds => ∀ d ∈ ds, Q d) (h0 : nx ρ oss) (h1 : ∀ d ρ oss, Q d → nx ρ oss → dG K hs g none d ρ fun ρ' => dS2 K hs p t ρ' oss nx) : dS2 K hs p (tFor ti g t) ρ oss nx := fun G0 H0 Gb σ G H D s b R O z =>
  h H0 σ G H _ s.fr R fun J G1 H1 ds s1 y q => by
    refine ⟨fun i m σ' H' => i ≤ ds.length ∧ m = ds.length - i ∧ ∃ G' ρ' oss', Step hs G0 H0 G' H' ∧ Same G1 G' ∧ EnvR K hs H0 G' H' σ' ρ' ∧ Own2 hs H0 G' H' p oss' ∧ nx ρ' oss', ⟨_, Nat.zero_le _, rfl, G1, ρ, oss, s.trans s1, Same.refl G1, R.step s1, O.step s1, h0⟩, ?_⟩
    rintro i m σ' H' ⟨hi, hm, G', ρ', oss', s', e', R', O', q'⟩
    obtain ⟨y1, y2⟩ := y G' H' e' s'.fr i
    by_cases hl : i < ds.length
    · refine .inr ⟨(y1 hl).1, fun σ'' H'' => ∃ m', m' < m ∧ i + 1 ≤ ds.length ∧ m' = ds.length - (i + 1) ∧ ∃ G' ρ' oss', Step hs G0 H0 G' H'' ∧ Same G1 G' ∧ EnvR K hs H0 G' H'' σ'' ρ' ∧ Own2 hs H0 G' H'' p oss' ∧ nx ρ' oss', fun σ'' H'' h => h, fun x H2 hy => ?_⟩
      obtain ⟨G2, s2, hd⟩ := (y1 hl).2 x H2 hy
      have rx := hd _ (List.getElem?_eq_getElem hl)
      refine h1 _ ρ' oss' (q _ (List.getElem_mem hl)) q' H0 σ' G2 H2 x _ s2.fr (R'.step s2) rx fun σ3 ρ3 R3 _ q3 => ?_
      exact q3 G0 H0 G1 σ3 G2 H2 _ (s'.trans s2) (e'.trans s2.exg) R3 (O'.step s2) fun σ4 G4 H4 ρ4 oss4 a b c d e => ⟨_, by omega, hl, rfl, G4, ρ4, oss4, a, b, c, d, e⟩
    · exact .inl ⟨y2 (by omega), z _ _ _ _ _ s' ((b.trans s1.exg).trans e') R' O' q'⟩
/-- if x not in o[k] and len(o[k]) < n: o[k].append(x) -/
theorem o_put {ix io ik : Nat} {s : Str} {k n : Int} (f : Flat ρ) (ex : ρ[ix]? = some (.d (.str s))) (eo : ρ[io]? = some (.d (.adr p))) (ek : ρ[ik]? = some (.d (.int k))) (k0 : 0 ≤ k) (k1 : k < (oss.length : Int)) (hn : n ≤ 1000)
    (h : ∀ os, oss[k.toNat]? = some os → (s ∉ os → (os.length : Int) < n → nx ρ (oss.set k.toNat (os ++ [s]))) ∧ nx ρ oss) :
    dS2 K hs p (tIfS (tAnd (tTest (tOp (rIn K true) (tVar ix) (tOp (rIx K) (tVar io) (tVar ik)))) (tTest (tOp (rI0 fun i j => .bl (decide (i < j))) (tCB (rLenQ K) (tCons (tOp (rIx K) (tVar io) (tVar ik)) tNil)) (tC (.int n)))))
      (tDrop (tBM K "list" rAppend (tOp (rIx K) (tVar io) (tVar ik)) (tCons (tVar ix) tNil))) tNext) ρ oss nx := fun G0 H0 Gb σ G H D st b R O z => by
  obtain ⟨v1, a1, b1⟩ := R.var ex
  obtain ⟨v2, a2, b2⟩ := R.var eo
  obtain ⟨v3, a3, b3⟩ := R.var ek
  cases rel_str b1
  cases rel_adr b2
  cases rel_int b3
  obtain ⟨qs, h1, h2, h3, h4, h5⟩ := O.ex
  have hk : k.toNat < oss.length := by omega
  have hk' : k.toNat < qs.length := by omega
  have eq1 := List.getElem?_eq_getElem hk'
  have eo1 := List.getElem?_eq_getElem hk
  have I := h5 _ _ _ eq1 eo1
  obtain ⟨hA, hB⟩ := h _ eo1
  have ia : atI (qs.map V.ref) k = some (.ref qs[k.toNat]) := atI_get (j := k.toNat) (by omega) (by rw [List.getElem?_map, eq1]; rfl)
  have get : ∀ (T : VK), T (.ref qs[k.toNat]) H → tOp (rIx K) (tVar io) (tVar ik) σ H T := fun T hT => ⟨_, a2, _, a3, .inl ⟨_, _, _, _, rfl, rfl, SqL.of h1, ia, hT⟩⟩
  refine ⟨_, a1, get _ ⟨_, _, rfl, .inl (SqL.of I.at_), rfl, flat_strs, ?_⟩⟩
  rw [inV_str]
  refine ⟨_, rfl, ?_⟩
  have no : D.nx σ H := z σ G H ρ oss st b R O hB
  by_cases hin : s ∈ oss[k.toNat]
  · simp only [hin, decide_true, if_true, Bool.not_true, Bool.false_eq_true, if_false]
    exact no
  · simp only [hin, decide_false, if_true, Bool.not_false]
    refine get _ ⟨_, _, rfl, .inl (SqL.of I.at_), _, _, rfl, rfl, _, rfl, ?_⟩
    rw [List.length_map]
    by_cases hl : (oss[k.toNat].length : Int) < n
    · simp only [hl, decide_true, if_true]
      refine get _ ⟨.inl ⟨rfl, _, SqL.of I.at_⟩, _, a1, _, _, _, rfl, rfl, I.at_, ?_, ?_⟩
      · rw [List.length_map]
        exact Nat.lt_of_lt_of_le (by omega : oss[k.toNat].length < 1000) (by decide)
      · have s2 := st.mut (o := .lst (oss[k.toNat].map V.str ++ [.str s])) I.h0 I.out I.g
        have np : p ≠ qs[k.toNat] := fun e => h3 (by rw [e]; exact List.getElem_mem hk')
        refine z σ G _ ρ _ s2 b (R.flat f) ⟨O.h0, O.out, O.g, qs, ?_, h2, h3, ?_, fun j q os e1 e2 => ?_⟩ (hA hin hl)
        · rw [upd_ne np]; exact h1
        · rw [List.length_set]; exact h4
        · by_cases ej : j = k.toNat
          · subst ej
            rw [eq1] at e1
            cases e1
            rw [List.getElem?_set_self hk] at e2
            cases e2
            exact ⟨I.h0, I.out, I.g, by rw [upd_same, List.map_append]; rfl⟩
          · rw [List.getElem?_set_ne (Ne.symm ej)] at e2
            have J := h5 j q os e1 e2
            refine ⟨J.h0, J.out, J.g, ?_⟩
            rw [upd_ne]
            · exact J.at_
            · intro e
              have hj : j < qs.length := (List.getElem?_eq_some_iff.mp e1).1
              have e3 : qs[j] = qs[k.toNat] := by
                rw [List.getElem?_eq_getElem hj] at e1
                cases e1
                exact e
              have pw := List.pairwise_iff_getElem.mp h2
              rcases Nat.lt_trichotomy j k.toNat with z | z | z
              · exact pw j k.toNat hj hk' z e3
              · exact ej z
              · exact pw k.toNat j hk' hj z e3.symm
    · simp only [hl, decide_false, Bool.false_eq_true, if_false]
      exact no
/-- all of them stay from here on -/
theorem freeze_all {G0 H0 H : Hp} : ∀ {qs : List Addr} {oss : List (List Str)} {G : Hp}, qs.Nodup → qs.length = oss.length → Step hs G0 H0 G H → (∀ (j : Nat) q os, qs[j]? = some q → oss[j]? = some os → Inner hs H0 G H q os) →
    ∃ G', Step hs G0 H0 G' H ∧ Same G G' ∧ (∀ a, a ∉ qs → G' a = G a) ∧ RelL K G' (qs.map V.ref) (oss.map fun os => .lst (strsOf os))
  | [], [], G, _, _, s, _ => ⟨G, s, Same.refl G, fun _ _ => rfl, .nil⟩
  | [], _ :: _, _, _, e, _, _ => by cases e
  | _ :: _, [], _, _, e, _, _ => by cases e
  | q :: qs, os :: oss, G, nd, e, s, h => by
    rw [List.nodup_cons] at nd
    have I := h 0 q os rfl rfl
    have s1 := s.freeze I.h0 I.out I.g I.at_
    obtain ⟨G', h1, h2, h3, h4⟩ := freeze_all (G := upd G q (.lst (os.map V.str))) nd.2 (by simpa using e) s1 fun j q' os' e1 e2 => by
      have J := h (j + 1) q' os' (by simpa using e1) (by simpa using e2)
      refine ⟨J.h0, J.out, ?_, J.at_⟩
      have : q' ≠ q := fun z => nd.1 (by rw [← z]; exact List.mem_of_getElem? e1)
      rw [upd_ne this]
      exact J.g
    have g' : G' q = some (.lst (os.map V.str)) := h2 _ _ upd_same
    refine ⟨G', h1, fun a o z => h2 a o (by rw [upd_ne (ne_of_none z I.g)]; exact z), fun a ha => ?_, ?_⟩
    · rw [h3 a (fun z => ha (List.mem_cons_of_mem _ z)), upd_ne (fun z => ha (by rw [z]; exact List.mem_cons_self))]
    · exact .cons (.lst g' rel_of_strs) h4
/-- x = [[] for k in range(m)]; a statement that may change them; from there on they stay -/
theorem s_own2 {i j jk : Nat} {m : Int} (f : Flat ρ) (hi : i < ρ.length) (em : ρ[j]? = some (.d (.int m))) (m0 : 0 ≤ m) (m1 : m ≤ 1000)
    (h : ∀ p, dS2 K hs p t ((wipeR ρ [jk]).set i (.d (.adr p))) (List.replicate m.toNat []) fun ρ' oss => Flat ρ' ∧ ρ'[i]? = some (.d (.adr p)) ∧ dS K hs u (ρ'.set i (.d (.lst (oss.map fun os => .lst (strsOf os))))) E)
    (hw : wipeR ρ [jk] = ρ) : dS K hs (tSeq (tAsg (tLc (iRng1 (tCons (tVar j) tNil)) (gName jk) tYes (tLst tNil) [jk]) (gName i)) (tSeq t u)) ρ E := fun G0 H0 Gb σ G H D s b R z => by
  rw [hw] at h
  obtain ⟨v, a1, b1⟩ := R.var em
  cases rel_int b1
  refine ⟨_, a1, m, rfl, by omega, by omega, fun p hp => ?_⟩
  have oD := s.fr.outs hp
  have gD := Same.free s.sub hp
  refine ⟨fun n k H' => n ≤ m.toNat ∧ k = m.toNat - n ∧ ∃ qs : List Addr, Step hs G H G H' ∧ H' p = some (.lst (qs.map V.ref)) ∧ qs.Nodup ∧ p ∉ qs ∧ qs.length = n ∧ ∀ q ∈ qs, H q = none ∧ H' q = some (.lst []),
    ⟨_, Nat.zero_le _, rfl, [], Step.fresh s.sub s.st hp, upd_same, List.nodup_nil, by simp, rfl, fun q e => by cases e⟩, ?_⟩
  rintro n k H' ⟨hn, hk, qs, s1, h1, h2, h3, h4, h5⟩
  by_cases hl : n < m.toNat
  · refine .inr ⟨hl, fun H'' => ∃ k', k' < k ∧ n + 1 ≤ m.toNat ∧ k' = m.toNat - (n + 1) ∧ ∃ qs : List Addr, Step hs G H G H'' ∧ H'' p = some (.lst (qs.map V.ref)) ∧ qs.Nodup ∧ p ∉ qs ∧ qs.length = n + 1 ∧ ∀ q ∈ qs, H q = none ∧ H'' q = some (.lst []), fun H'' x => x, ?_⟩
    rintro x H2 ⟨rfl, rfl⟩
    refine ⟨?_, ?_⟩
    · exact (wipe_set (σ := wipe σ [jk]) (j := jk) (v := some _) (vs := [jk]) (List.mem_singleton.mpr rfl)).trans (wipe_wipe fun j h => h)
    · simp only [tYes, if_true]
      refine ⟨by decide, fun q hq => ?_⟩
      have hq0 : H q = none := s1.back hq
      have s2 := s1.trans (Step.fresh (o := .lst []) s1.sub s1.st hq)
      have npq : p ≠ q := ne_of_none h1 hq
      refine ⟨qs.map V.ref, by rw [upd_ne npq]; exact h1, Nat.lt_of_lt_of_le (by rw [List.length_map]; omega : (qs.map V.ref).length < 1000) (by decide), _, by omega, hl, rfl, qs ++ [q], s2.mut hp oD gD, by rw [upd_same, List.map_append]; rfl, ?_, ?_, by simp [h4], ?_⟩
      · have hnq : q ∉ qs := fun e => by
          have := (h5 q e).2
          rw [hq] at this; cases this
        exact List.nodup_append.mpr ⟨h2, by simp, fun a ha b hb e => by
          simp only [List.mem_singleton] at hb
          subst hb
          subst e
          exact hnq ha⟩
      · simp only [List.mem_append, List.mem_singleton, not_or]
        exact ⟨h3, npq⟩
      · intro q' hq'
        rcases List.mem_append.mp hq' with e | e
        · obtain ⟨a, b⟩ := h5 q' e
          refine ⟨a, ?_⟩
          have n1 : q' ≠ p := fun z => h3 (by rw [← z]; exact e)
          rw [upd_ne n1, upd_ne (ne_of_none b hq)]
          exact b
        · rw [List.mem_singleton.mp e]
          exact ⟨hq0, by rw [upd_ne npq.symm, upd_same]⟩
  · refine .inl ⟨by show m.toNat ≤ n; omega, ?_⟩
    have s2 := s.trans s1
    have R2 : EnvR K hs H0 G H' (σ.set i (some (.ref p))) (ρ.set i (.d (.adr p))) := (R.step s1).set (s := .d (.adr p)) ⟨_, rfl, .adr⟩ fun _ e => by cases e
    refine h p G0 H0 Gb _ G H' { D with nx := u D } s2 b R2 ⟨s.back hp, oD, gD, qs, h1, h2, h3, by simp; omega, fun j q os e1 e2 => ?_⟩ ?_
    · have hq := h5 q (List.mem_of_getElem? e1)
      have eo : os = [] := by
        have := List.mem_of_getElem? e2
        exact (List.mem_replicate.mp this).2
      subst eo
      exact ⟨s.back hq.1, s.fr.outs hq.1, Same.free s.sub hq.1, hq.2⟩
    · intro σ' G' H'' ρ' oss' s' b' R' O' ⟨f', hi', q⟩
      obtain ⟨qs', k1, k2, k3, k4, k5⟩ := O'.ex
      obtain ⟨G2, j1, j2, j3, j4⟩ := freeze_all (K := K) k2 k4 s' k5
      have gp : G2 p = none := (j3 p k3).trans O'.g
      have j5 := j1.freeze O'.h0 O'.out gp k1
      have e2 : Same G2 (upd G2 p (.lst (qs'.map V.ref))) := fun a o e => by
        rw [upd_ne (ne_of_none e gp)]; exact e
      have R3 : EnvR K hs H0 (upd G2 p (.lst (qs'.map V.ref))) H'' σ' ρ' := by
        refine ⟨R'.len, fun l sl e => ?_, fun l l' ds es q e => absurd e (f' l ds)⟩
        obtain ⟨v, x1, x2⟩ := R'.at_ l sl e
        refine ⟨v, x1, ?_⟩
        cases sl with
        | un => trivial
        | d y =>
          obtain ⟨u', y1, y2⟩ := x2
          exact ⟨u', y1, y2.mono (j2.trans e2)⟩
        | own ds => exact absurd e (f' l ds)
      obtain ⟨v, x1, x2⟩ := R3.var hi'
      cases rel_adr x2
      have eσ : σ'.set i (some (.ref p)) = σ' := List.ext_getElem? fun l => by
        by_cases el : i = l
        · subst el
          rw [x1]
          exact get_set (List.getElem?_eq_some_iff.mp x1).1
        · rw [List.getElem?_set_ne el]
      have R4 := R3.set (i := i) (v := some (.ref p)) (s := .d (.lst (oss'.map fun os => .lst (strsOf os)))) ⟨_, rfl, .lst upd_same (j4.mono e2)⟩ fun _ e => by cases e
      rw [eσ] at R4
      exact q G0 H0 Gb _ _ _ D j5 ((b'.trans j2).trans e2) R4 z
end
end PD
set_option Elab.async false
set_option linter.all false
set_option maxRecDepth 100000
set_option maxHeartbeats 1000000
namespace PD
open PySem L2
/-! a def that keeps a promise for each of a family of states -/
def CalU (P : Program) (w : World) (K : PySem.W.Frag) (mg : Str → Option Value) (base : Heap) (k : Nat) (x : Str) (ps : List Str) (sp : Sp) : Prop := ∃ f fd, mg x = some (.ref f) ∧ PySem.W.keepIn K (.ref f) = true ∧ Binds K fd ps [] ∧ FnOk P w K mg base CX0 k f fd ps sp
section
variable {P : Program} {w : World} {K : PySem.W.Frag} {mg : Str → Option Value} {base : Heap} {x : Str} {ps : List Str} {k j : Nat}
theorem Cal.all {ι : Type} (i0 : ι) {hs : ι → Option (Addr × Addr)} {M : ι → List D → (D → Prop) → Prop} (C : ∀ i, Cal P w K mg base k x ps (hs i) (M i)) : CalU P w K mg base k x ps fun vs H Q E => ∃ i, spD K (hs i) (M i) vs H Q E := by
  obtain ⟨f, fd, a, b, c, l, d⟩ := C i0
  refine ⟨f, fd, a, b, c, fun vs H Q E ⟨i, h⟩ => ?_, fun A outer s H args us vs Q E hr he hb hv ⟨i, h⟩ => ?_⟩
  · obtain ⟨f', fd', _, _, _, _, d'⟩ := C i
    exact d'.len vs H Q E h
  · obtain ⟨f', fd', a', _, _, l', d'⟩ := C i
    have ef : f = f' := by
      rw [a] at a'
      cases a'; rfl
    subst ef
    obtain ⟨oc, od, osl, l⟩ := l
    obtain ⟨oc', od', osl', l'⟩ := l'
    rw [l] at l'
    injection l' with l'
    injection l' with _ _ e _
    injection e with e
    subst e
    exact d'.run A outer s H args us vs Q E hr he hb hv h
theorem pe_calU {X : Cx} {sp : Sp} {e : Expr} {es : List Expr} {t : TA} {p pos : Pos} (hK : X.K = K) (C : CalU X.prog X.w X.K X.mg X.base k x ps sp) (hr : Room k X.A) (hg : Gl X x) (ha : PA X (e :: es) t) (hdb : (x == ("__debug__" : Str)) = false := by decide)
    (he : starEach (e :: es) X.env = (false, eval e X.env) :: starEach es X.env := by rfl) (hpl : (backTo pos (starEach es X.env)).any (·.1) = false := by rfl) : PE X (.Call (.Name x p) (e :: es) [] pos) (tCall sp [] E0 t) := by
  obtain ⟨f, fd, a, b, c, d⟩ := C
  exact pe_call d hr hg a b c .nil pass0 ha hdb he hpl
end
section
variable {K : PySem.W.Frag} {ρ : List Sl} {k : D → Prop} {tx : TA} {X : XK} {M : Addr × Addr → List D → (D → Prop) → Prop} {i : Addr × Addr}
/-- of a def that draws, whatever the state's addresses are -/
theorem d_callU (h : dA K (some i) tx ρ fun ds => M i ds k) : dE K (some i) (tCall (fun vs H Q E => ∃ i, spD K (some i) (M i) vs H Q E) [] X tx) ρ k := fun H0 σ G H Q f R z =>
  h H0 σ G H _ f R fun vs G1 H1 ds s1 r q => ⟨i, G1, ds, k, s1.fr, by rw [List.append_nil]; exact r, q, fun v G2 H2 d s2 r2 q2 => z v G2 H2 d (s1.trans s2) r2 q2⟩
end
end PD
set_option Elab.async false
set_option linter.all false
set_option maxRecDepth 100000
set_option maxHeartbeats 1000000
namespace PD
open PySem L2
/-! plain data, as the comparison reads them -/
mutual
def D.py : D → PyData
  | .bl b => .bool b
  | .int i => .int i
  | .str s => .str s
  | .tup ds => .tuple (D.pyL ds)
  | .lst ds => .list (D.pyL ds)
  | _ => .none
def D.pyL : List D → List PyData
  | [] => []
  | d :: r => d.py :: D.pyL r
end
mutual
def D.fit : Nat → D → Bool
  | _, .non => true
  | _, .bl _ => true
  | _, .int _ => true
  | _, .str s => PyData.strOk s
  | n + 1, .tup ds => D.fitL n ds
  | n + 1, .lst ds => D.fitL n ds
  | _, _ => false
def D.fitL : Nat → List D → Bool
  | _, [] => true
  | n, d :: r => D.fit n d && D.fitL n r
end
mutual
theorem fit_up {n m : Nat} (h : n ≤ m) : ∀ {d : D}, D.fit n d = true → D.fit m d = true
  | .non, _ => by simp [D.fit]
  | .bl _, _ => by simp [D.fit]
  | .int _, _ => by simp [D.fit]
  | .str s, e => by simpa [D.fit] using e
  | .adr _, e => by simp [D.fit] at e
  | .ty _, e => by simp [D.fit] at e
  | .dct _, e => by simp [D.fit] at e
  | .tpf _, e => by simp [D.fit] at e
  | .tup ds, e => by
    cases n with
    | zero => simp [D.fit] at e
    | succ n =>
      cases m with
      | zero => omega
      | succ m =>
        simp only [D.fit] at e ⊢
        exact fitL_up (by omega) e
  | .lst ds, e => by
    cases n with
    | zero => simp [D.fit] at e
    | succ n =>
      cases m with
      | zero => omega
      | succ m =>
        simp only [D.fit] at e ⊢
        exact fitL_up (by omega) e
theorem fitL_up {n m : Nat} (h : n ≤ m) : ∀ {ds : List D}, D.fitL n ds = true → D.fitL m ds = true
  | [], _ => by simp [D.fitL]
  | d :: r, e => by
    simp only [D.fitL, Bool.and_eq_true] at e ⊢
    exact ⟨fit_up h e.1, fitL_up h e.2⟩
end
mutual
theorem fit_lay : ∀ {n : Nat} {d : D}, D.fit n d = true → d.py.canLay0 = true ∧ d.py.depth ≤ n
  | _, .non, _ => by simp [D.py, PyData.canLay0, PyData.depth]
  | _, .bl _, _ => by simp [D.py, PyData.canLay0, PyData.depth]
  | _, .int _, _ => by simp [D.py, PyData.canLay0, PyData.depth]
  | _, .str s, e => by
    simp only [D.fit] at e
    simp [D.py, PyData.canLay0, PyData.depth, e]
  | _, .adr _, e => by simp [D.fit] at e
  | _, .ty _, e => by simp [D.fit] at e
  | _, .dct _, e => by simp [D.fit] at e
  | _, .tpf _, e => by simp [D.fit] at e
  | 0, .tup ds, e => by simp [D.fit] at e
  | 0, .lst ds, e => by simp [D.fit] at e
  | n + 1, .tup ds, e => by
    simp only [D.fit] at e
    obtain ⟨h1, h2⟩ := fitL_lay e
    simp only [D.py, PyData.canLay0, PyData.depth]
    exact ⟨h1, by omega⟩
  | n + 1, .lst ds, e => by
    simp only [D.fit] at e
    obtain ⟨h1, h2⟩ := fitL_lay e
    simp only [D.py, PyData.canLay0, PyData.depth]
    exact ⟨h1, by omega⟩
theorem fitL_lay : ∀ {n : Nat} {ds : List D}, D.fitL n ds = true → PyData.canLayAll0 (D.pyL ds) = true ∧ PyData.depthAll (D.pyL ds) ≤ n
  | _, [], _ => by simp [D.pyL, PyData.canLayAll0, PyData.depthAll]
  | n, d :: r, e => by
    simp only [D.fitL, Bool.and_eq_true] at e
    obtain ⟨h1, h2⟩ := fit_lay e.1
    obtain ⟨h3, h4⟩ := fitL_lay e.2
    simp only [D.pyL, PyData.canLayAll0, PyData.depthAll, h1, h3, Bool.and_self, true_and]
    omega
end
section
variable {K : PySem.W.Frag} {G H : Hp}
mutual
theorem rel_dp (s : Same G H) : ∀ {n : Nat} {d : D} {v : V}, Rel K G v d → D.fit n d = true → Dp K H v d.py
  | _, .non, _, .non, _ => .non
  | _, .bl _, _, .bl, _ => .bl _
  | _, .int _, _, .int, _ => .int _
  | _, .str _, _, .str, _ => .str _
  | _, .adr _, _, _, e => by simp [D.fit] at e
  | _, .ty _, _, _, e => by simp [D.fit] at e
  | _, .dct _, _, _, e => by simp [D.fit] at e
  | _, .tpf _, _, _, e => by simp [D.fit] at e
  | 0, .tup ds, _, _, e => by simp [D.fit] at e
  | 0, .lst ds, _, _, e => by simp [D.fit] at e
  | n + 1, .tup ds, _, .tup h r, e => .tup (Same.tseq s h) (rel_dpL s r (by simpa [D.fit] using e))
  | n + 1, .lst ds, _, .lst h r, e => .lst (SqL.of (s _ _ h)) (rel_dpL s r (by simpa [D.fit] using e))
theorem rel_dpL (s : Same G H) : ∀ {n : Nat} {ds : List D} {vs : List V}, RelL K G vs ds → D.fitL n ds = true → DpAll K H vs (D.pyL ds)
  | _, [], _, .nil, _ => .nil
  | n, d :: r, _, .cons h t, e => by
    simp only [D.fitL, Bool.and_eq_true] at e
    exact .cons (rel_dp s h e.1) (rel_dpL s t e.2)
end
end
theorem fit_shaped {n : Nat} {d : D} (hn : n ≤ 64) (h : D.fit n d = true) : SeqAt.shaped d.py = true := by
  obtain ⟨h1, h2⟩ := fit_lay h
  unfold SeqAt.shaped
  rw [h1, decide_eq_true (show d.py.depth ≤ 64 by omega)]
  rfl
/-- a tuple != () -/
theorem r_neTup0 {K : PySem.W.Frag} {hs : Option (Addr × Addr)} {k : D → Prop} {ds : List D} {n : Nat} (hn : n ≤ 64) (h : D.fit n (.tup ds) = true) (q : k (.bl (!ds.isEmpty))) : dR K hs (rNeD K) (.tup ds) (.tup []) k := fun G H v u Q f r1 r2 z => by
  have d1 := rel_dp f.sub r1 h
  have d2 : Dp K H u (D.tup []).py := rel_dp (n := 1) f.sub r2 (by simp [D.fit, D.fitL])
  refine ⟨_, _, d1, d2, fit_shaped hn h, rfl, ?_⟩
  have e : PyData.eqv (D.tup ds).py (D.tup []).py = ds.isEmpty := by
    cases ds with
    | nil => simp [D.py, D.pyL, PyData.eqv, PyData.eqvAll]
    | cons d r => simp [D.py, D.pyL, PyData.eqv, PyData.eqvAll]
  rw [e]
  exact z _ G H _ f.refl .bl q
end PD
set_option Elab.async false
set_option linter.all false
set_option maxRecDepth 100000
set_option maxHeartbeats 1000000
namespace PD
open PySem L2
/-! constants of the module, looked at by a Bool -/
mutual
def conOk (K : PySem.W.Frag) : D → Value → Bool
  | .str s, .str y _ => decide (s = y)
  | .int i, .int j _ => decide (i = j)
  | .tup ds, .ref a => (match K.lookup a with
    | some ⟨.type c, _, .seq its _, _⟩ => decide (c = "tuple") && (Nat.ble its.size 1000 && conL K ds its.toList)
    | _ => false)
  | _, _ => false
def conL (K : PySem.W.Frag) : List D → List Value → Bool
  | [], [] => true
  | d :: ds, u :: us => conOk K d u && conL K ds us
  | _, _ => false
end
mutual
theorem con_rel {K : PySem.W.Frag} : ∀ {d : D} {u : Value}, conOk K d u = true → ∃ v, RelV v u ∧ ∀ G, Rel K G v d
  | .str s, .str y t, h => by
    have e : s = y := by simpa [conOk] using h
    subst e
    exact ⟨.str s, ⟨t, rfl⟩, fun _ => .str⟩
  | .int i, .int j t, h => by
    have e : i = j := by simpa [conOk] using h
    subst e
    exact ⟨.int i, ⟨t, rfl⟩, fun _ => .int⟩
  | .tup ds, .ref a, h => by
    unfold conOk at h
    split at h
    · rename_i c od its n sl e
      obtain ⟨h1, h2⟩ := Bool.and_eq_true_iff.mp h
      obtain ⟨h2, h3⟩ := Bool.and_eq_true_iff.mp h2
      have e1 : c = "tuple" := of_decide_eq_true h1
      subst e1
      obtain ⟨vs, r, q⟩ := conL_rel h3
      exact ⟨.ref a, rfl, fun G => .tup (.inr ⟨_, its, n, e, rfl, rfl, Nat.le_trans (Nat.le_of_ble_eq_true h2) (by decide), r⟩) (q G)⟩
    · cases h
  | .non, _, h => by simp [conOk] at h
  | .bl _, _, h => by simp [conOk] at h
  | .adr _, _, h => by simp [conOk] at h
  | .ty _, _, h => by simp [conOk] at h
  | .lst _, _, h => by simp [conOk] at h
  | .dct _, _, h => by simp [conOk] at h
  | .tpf _, _, h => by simp [conOk] at h
  | .str _, .none, h => by simp [conOk] at h
  | .str _, .bool _, h => by simp [conOk] at h
  | .str _, .int _ _, h => by simp [conOk] at h
  | .str _, .ref _, h => by simp [conOk] at h
  | .int _, .none, h => by simp [conOk] at h
  | .int _, .bool _, h => by simp [conOk] at h
  | .int _, .str _ _, h => by simp [conOk] at h
  | .int _, .ref _, h => by simp [conOk] at h
  | .tup _, .none, h => by simp [conOk] at h
  | .tup _, .bool _, h => by simp [conOk] at h
  | .tup _, .int _ _, h => by simp [conOk] at h
  | .tup _, .str _ _, h => by simp [conOk] at h
theorem conL_rel {K : PySem.W.Frag} : ∀ {ds : List D} {us : List Value}, conL K ds us = true → ∃ vs, Vals vs us ∧ ∀ G, RelL K G vs ds
  | [], [], _ => ⟨[], .nil, fun _ => .nil⟩
  | d :: ds, u :: us, h => by
    simp only [conL, Bool.and_eq_true] at h
    obtain ⟨v, r1, q1⟩ := con_rel h.1
    obtain ⟨vs, r2, q2⟩ := conL_rel h.2
    exact ⟨v :: vs, .cons r1 r2, fun G => .cons (q1 G) (q2 G)⟩
  | [], _ :: _, h => by simp [conL] at h
  | _ :: _, [], h => by simp [conL] at h
end
/-- a name of the module stands for this -/
def gloB (K : PySem.W.Frag) (x : Str) (d : D) : Bool := conOk K d (.ref (He.ga K x))
/-- a dict of the module has these, and these not -/
def hasB (K : PySem.W.Frag) (x : Str) (tab : List (Str × D)) (no : List Str) : Bool := (tab.all fun p => match PySem.W.nsIn K (He.ga K x) p.1 with
  | some (some u) => conOk K p.2 u
  | _ => false) && no.all fun s => He.eqO (PySem.W.nsIn K (He.ga K x) s) (some none)
theorem has_ok {K : PySem.W.Frag} {x : Str} {tab : List (Str × D)} {no : List Str} (h : hasB K x tab no = true) : (∀ p ∈ tab, KHas K (He.ga K x) p.1 (some p.2)) ∧ ∀ s ∈ no, KHas K (He.ga K x) s none := by
  obtain ⟨h1, h2⟩ := Bool.and_eq_true_iff.mp h
  refine ⟨fun p hp => ?_, fun s hs => He.eqO_ok (List.all_eq_true.mp h2 s hs)⟩
  have h3 := List.all_eq_true.mp h1 p hp
  cases e : PySem.W.nsIn K (He.ga K x) p.1 with
  | none => rw [e] at h3; cases h3
  | some r =>
    rw [e] at h3
    cases r with
    | none => cases h3
    | some u =>
      obtain ⟨v, r, q⟩ := con_rel h3
      exact ⟨u, v, e, r, q⟩
end PD
set_option Elab.async false
set_option linter.all false
set_option maxRecDepth 100000
set_option maxHeartbeats 1000000
namespace Pr
open PySem L2 PD
def top (i : Nat) : Stmt := PySem.Challenge.pw_partdeeds_k02_right_parts.main.body.getD i (.Pass ⟨0, 0, 0, 0⟩)
abbrev s_size_of : Stmt := top 6
abbrev N_size_of : List Str := ["nest", "arms_of", "fits", "around", "sorts", "total", "sort", "arm", "inner"]
theorem sc_size_of : FnScope N_size_of ["nest", "arms_of", "fits", "around"] (defScope s_size_of) := ⟨rfl, rfl, rfl, by decide +kernel, rfl, by decide +kernel, by decide +kernel⟩

abbrev s_body_arms : Stmt := top 13
abbrev N_body_arms : List Str := ["word"]
theorem sc_body_arms : FnScope N_body_arms ["word"] (defScope s_body_arms) := ⟨rfl, rfl, rfl, by decide +kernel, rfl, by decide +kernel, by decide +kernel⟩

abbrev s_is_number : Stmt := top 8
abbrev N_is_number : List Str := ["worth", "greatest"]
theorem sc_is_number : FnScope N_is_number ["worth", "greatest"] (defScope s_is_number) := ⟨rfl, rfl, rfl, by decide +kernel, rfl, by decide +kernel, by decide +kernel⟩

abbrev s_fits_body : Stmt := top 14
abbrev N_fits_body : List Str := ["sort", "arm"]
theorem sc_fits_body : FnScope N_fits_body ["sort", "arm"] (defScope s_fits_body) := ⟨rfl, rfl, rfl, by decide +kernel, rfl, by decide +kernel, by decide +kernel⟩

abbrev s_is_body : Stmt := top 15
abbrev N_is_body : List Str := ["body"]
theorem sc_is_body : FnScope N_is_body ["body"] (defScope s_is_body) := ⟨rfl, rfl, rfl, by decide +kernel, rfl, by decide +kernel, by decide +kernel⟩

abbrev s_bodies_in : Stmt := top 16
abbrev N_bodies_in : List Str := ["body", "arm"]
theorem sc_bodies_in : FnScope N_bodies_in ["body"] (defScope s_bodies_in) := ⟨rfl, rfl, rfl, by decide +kernel, rfl, by decide +kernel, by decide +kernel⟩

abbrev s_kind_by_arms : Stmt := top 22
abbrev N_kind_by_arms : List Str := ["word", "kinds", "arms", "told"]
theorem sc_kind_by_arms : FnScope N_kind_by_arms ["word", "kinds"] (defScope s_kind_by_arms) := ⟨rfl, rfl, rfl, by decide +kernel, rfl, by decide +kernel, by decide +kernel⟩

abbrev s_kind_of : Stmt := top 23
abbrev N_kind_of : List Str := ["body", "takes", "calls", "cells", "kinds", "arm", "word", "asked", "told"]
theorem sc_kind_of : FnScope N_kind_of ["body", "takes", "calls", "cells"] (defScope s_kind_of) := ⟨rfl, rfl, rfl, by decide +kernel, rfl, by decide +kernel, by decide +kernel⟩

abbrev s_is_ask : Stmt := top 27
abbrev N_is_ask : List Str := ["row"]
theorem sc_is_ask : FnScope N_is_ask ["row"] (defScope s_is_ask) := ⟨rfl, rfl, rfl, by decide +kernel, rfl, by decide +kernel, by decide +kernel⟩

abbrev s_is_deed : Stmt := top 28
abbrev N_is_deed : List Str := ["row"]
theorem sc_is_deed : FnScope N_is_deed ["row"] (defScope s_is_deed) := ⟨rfl, rfl, rfl, by decide +kernel, rfl, by decide +kernel, by decide +kernel⟩

abbrev s_is_cell : Stmt := top 29
abbrev N_is_cell : List Str := ["row"]
theorem sc_is_cell : FnScope N_is_cell ["row"] (defScope s_is_cell) := ⟨rfl, rfl, rfl, by decide +kernel, rfl, by decide +kernel, by decide +kernel⟩

abbrev s_are_rows : Stmt := top 30
abbrev N_are_rows : List Str := ["rows", "most", "is_row", "row", "names"]
theorem sc_are_rows : FnScope N_are_rows ["rows", "most", "is_row"] (defScope s_are_rows) := ⟨rfl, rfl, rfl, by decide +kernel, rfl, by decide +kernel, by decide +kernel⟩

abbrev s_are_asks : Stmt := top 31
abbrev N_are_asks : List Str := ["rows", "deeds", "given", "deed", "row"]
theorem sc_are_asks : FnScope N_are_asks ["rows", "deeds"] (defScope s_are_asks) := ⟨rfl, rfl, rfl, by decide +kernel, rfl, by decide +kernel, by decide +kernel⟩

abbrev s_fault_of : Stmt := top 32
abbrev N_fault_of : List Str := ["part"]
theorem sc_fault_of : FnScope N_fault_of ["part"] (defScope s_fault_of) := ⟨rfl, rfl, rfl, by decide +kernel, rfl, by decide +kernel, by decide +kernel⟩

abbrev s_check_part : Stmt := top 33
abbrev N_check_part : List Str := ["part", "why"]
theorem sc_check_part : FnScope N_check_part ["part"] (defScope s_check_part) := ⟨rfl, rfl, rfl, by decide +kernel, rfl, by decide +kernel, by decide +kernel⟩

abbrev s_calls_of : Stmt := top 34
abbrev N_calls_of : List Str := ["part", "row"]
theorem sc_calls_of : FnScope N_calls_of ["part"] (defScope s_calls_of) := ⟨rfl, rfl, rfl, by decide +kernel, rfl, by decide +kernel, by decide +kernel⟩

abbrev s_right : Stmt := top 35
abbrev N_right : List Str := ["part", "calls", "cells", "cell", "kind", "deed", "takes", "tells", "body"]
theorem sc_right : FnScope N_right ["part"] (defScope s_right) := ⟨rfl, rfl, rfl, by decide +kernel, rfl, by decide +kernel, by decide +kernel⟩

def kindsS : List Str := ["number", "truth", "list"]
def deedsS : List Str := ["a", "b", "c", "d", "e", "f", "g", "h"]
def cellsS : List Str := ["p", "q", "r", "s"]
def partsS : List Str := ["A", "B", "C", "D", "E", "F"]
/-- what a body's words have for arms -/
def armsTab : List (Str × List Str) := [("number", ["number"]), ("truth", ["truth"]), ("empty", []), ("argument", []), ("cell", ["cell"]), ("plus", ["nest", "nest"]), ("less", ["nest", "nest"]), ("times", ["nest", "nest"]),
  ("below", ["nest", "nest"]), ("same", ["nest", "nest"]), ("not", ["nest"]), ("and", ["nest", "nest"]), ("if", ["nest", "nest", "nest"]), ("put", ["nest", "nest"]), ("first", ["nest"]), ("rest", ["nest"]), ("many", ["nest"]),
  ("set", ["cell", "nest"]), ("then", ["nest", "nest"]), ("call", ["deed", "nest"])]
def fixTab : List (Str × List Str × Str) := [("number", [], "number"), ("truth", [], "truth"), ("empty", [], "list"), ("plus", ["number", "number"], "number"), ("less", ["number", "number"], "number"), ("times", ["number", "number"], "number"),
  ("below", ["number", "number"], "truth"), ("not", ["truth"], "truth"), ("and", ["truth", "truth"], "truth"), ("put", ["number", "list"], "list"), ("first", ["list"], "number"), ("rest", ["list"], "list"), ("many", ["list"], "number")]
structure Con (K : PySem.W.Frag) (mg : Str → Option Value) (x : Str) (d : D) : Prop where
  ex : ∃ a, mg x = some (.ref a) ∧ ∀ G, Rel K G (.ref a) d
structure KTab (w : World) (K : PySem.W.Frag) (mg : Str → Option Value) (x : Str) (tab : List (Str × D)) : Prop where
  ex : ∃ a es n, mg x = some (.ref a) ∧ KDict K w a es n ∧ ∀ p ∈ tab, KHas K a p.1 (some p.2)
structure KNot (K : PySem.W.Frag) (mg : Str → Option Value) (x : Str) (ws : List Str) : Prop where
  no : ∀ a, mg x = some (.ref a) → ∀ p ∈ ws, KHas K a p none
/-- what the top has left: constants, built-ins, defs -/
structure Txt (w : World) (K : PySem.W.Frag) (mg : Str → Option Value) : Prop where
  KINDS : Con K mg "KINDS" (.tup (strsOf kindsS))
  DEEDS : Con K mg "DEED_NAMES" (.tup (strsOf deedsS))
  CELLS : Con K mg "CELL_NAMES" (.tup (strsOf cellsS))
  PARTS : Con K mg "PART_NAMES" (.tup (strsOf partsS))
  ARMS : KTab w K mg "BODY_ARMS" (armsTab.map fun p => (p.1, .tup (strsOf p.2)))
  FIXED : KTab w K mg "FIXED" (fixTab.map fun p => (p.1, .tup [.tup (strsOf p.2.1), .str p.2.2]))
  NOFIX : KNot K mg "FIXED" ["same", "if", "then"]
  GREAT : ∃ t, mg "GREATEST_IN_BODIES" = some (.int 99 t)
  WORDS : ∃ t, mg "MOST_WORDS" = some (.int 60 t)
  AROUND : ∃ t, mg "MOST_AROUND" = some (.int 9 t)
  MDEEDS : ∃ t, mg "MOST_DEEDS" = some (.int 8 t)
  MCELLS : ∃ t, mg "MOST_CELLS" = some (.int 4 t)
  z_len : mg "len" = none
  z_isinstance : mg "isinstance" = none
  z_tuple : mg "tuple" = none
  z_int : mg "int" = none
  z_bool : mg "bool" = none
  z_str : mg "str" = none
  z_zip : mg "zip" = none
  z_any : mg "any" = none
  z_set : mg "set" = none
  z_sorted : mg "sorted" = none
  f_size_of : DefV K mg "size_of" s_size_of [.int 0]
  f_body_arms : DefT K mg "body_arms" s_body_arms
  f_is_number : DefT K mg "is_number" s_is_number
  f_fits_body : DefT K mg "fits_body" s_fits_body
  f_is_body : DefT K mg "is_body" s_is_body
  f_bodies_in : DefT K mg "bodies_in" s_bodies_in
  f_kind_by_arms : DefT K mg "kind_by_arms" s_kind_by_arms
  f_kind_of : DefT K mg "kind_of" s_kind_of
  f_is_ask : DefT K mg "is_ask" s_is_ask
  f_is_deed : DefT K mg "is_deed" s_is_deed
  f_is_cell : DefT K mg "is_cell" s_is_cell
  f_are_rows : DefT K mg "are_rows" s_are_rows
  f_are_asks : DefT K mg "are_asks" s_are_asks
  f_fault_of : DefT K mg "fault_of" s_fault_of
  f_check_part : DefT K mg "check_part" s_check_part
  f_calls_of : DefT K mg "calls_of" s_calls_of
  f_right : DefT K mg "right" s_right
local macro_rules | `(tactic| walk_at "d1") => `(tactic| (first
  | with_reducible refine s_seq ?_ | with_reducible refine s_ret ?_ | with_reducible refine s_if ?_
  | with_reducible refine d_var (by with_unfolding_all rfl) ?_ | with_reducible refine d_cK (by assumption) ?_ | with_reducible refine d_c (by with_unfolding_all rfl) ?_
  | with_reducible refine d_op ?_ | with_reducible refine d_test ?_ | with_reducible refine d_cons ?_ | with_reducible refine d_nil ?_ | with_reducible refine d_cb ?_ | with_reducible refine d_call ?_ | with_reducible refine d_callP ?_ | with_reducible refine d_callV (fun _ => RelL.cons Rel.int RelL.nil) ?_
  | with_reducible refine br_t (by assumption) ?_ | with_reducible refine br_f (by assumption) ?_ | with_reducible refine br_t (by with_unfolding_all rfl) ?_ | with_reducible refine br_f (by with_unfolding_all rfl) ?_
  | with_reducible refine ⟨_, rfl, ?_⟩ | with_reducible refine ⟨_, _, rfl, ?_⟩ | with_reducible refine ⟨_, _, _, _, rfl, ?_⟩ | with_reducible refine ⟨_, rfl, ?_, ?_⟩
  | with_reducible refine r_I0 (by with_unfolding_all rfl) ?_ | with_reducible refine r_eqS ?_ | with_reducible refine r_eqI ?_ | with_reducible refine r_neI ?_ | with_reducible refine r_neS ?_ | with_reducible refine r_isN ?_ | with_reducible refine r_notN ?_ | with_reducible refine r_inT ?_ | with_reducible refine r_inL ?_
  | with_reducible refine r_ix (.inr (r_ixT (by with_unfolding_all rfl) ?_)) | with_reducible refine r_ix (.inl (r_ixL (by with_unfolding_all rfl) ?_)) | with_reducible refine c_lenS (.inr rfl) ?_ | with_reducible refine c_lenS (.inl rfl) ?_
  | with_reducible refine s_next ?_ | with_reducible refine d_andV ?_ | with_reducible refine d_orV ?_ | with_reducible refine d_notV ?_
  | with_reducible refine d_un ?_ | with_reducible refine d_tB ?_ | with_reducible refine d_and ?_ | with_reducible refine d_or ?_ | with_reducible refine d_not ?_
  | with_reducible refine d_yes ?_ | with_reducible refine d_ifE ?_
  | with_reducible refine d_tup ?_ | with_reducible refine d_lst ?_ | with_reducible refine d_slT1 ?_ | with_reducible refine d_slT3 ?_ | with_reducible refine d_slT13 ?_ | with_reducible refine d_slT ?_ | with_reducible refine o_no ?_ | with_reducible refine o_part ?_ | with_reducible refine d_chain ?_ | with_reducible refine d_truth ?_
  | with_reducible refine s_setL ?_ | with_reducible refine s_set ?_ | with_reducible refine s_for ?_ | with_reducible refine i_zipT ?_ | with_reducible refine i_tup ?_ | with_reducible refine i_list ?_
  | with_reducible refine g_name ?_ | with_reducible refine g_nameV (by decide) ?_ | with_reducible refine gs_cons ?_ | with_reducible refine gs_nil ?_ | ((with_reducible refine g_tid ?_); refine g_tup rfl ?_) | with_reducible refine s_aug (by with_unfolding_all rfl) ?_ | with_reducible refine s_asg ?_ | with_reducible refine s_drop ?_
  | with_reducible refine d_callLP (by with_unfolding_all rfl) ?_ | with_reducible refine d_lc ?_ | with_reducible refine forW_cons ?_ | with_reducible refine forW_nil ?_ | ((with_reducible refine forW_id ?_); refine forW_pair ?_) | ((with_reducible refine forW_id ?_); refine forW_pnil ?_) | with_reducible refine lcW_cons ?_ | with_reducible refine lcW_nil ?_
  | with_reducible refine d_dget ?_ | with_reducible refine d_dget1 ?_ | with_reducible refine d_dget2 ?_ | with_reducible refine d_kget ?_
  | with_reducible refine r_eq (by with_unfolding_all rfl) (by with_unfolding_all rfl) (by with_unfolding_all rfl) ?_ | with_reducible refine r_ne (by with_unfolding_all rfl) (by with_unfolding_all rfl) (by with_unfolding_all rfl) ?_
  | with_reducible refine u_I (by with_unfolding_all rfl) ?_
  | with_reducible refine c_bool (by with_unfolding_all rfl) ?_ | with_reducible refine c_int (by with_unfolding_all rfl) ?_ | with_reducible refine c_str (by with_unfolding_all rfl) ?_ | with_reducible refine c_tup (by with_unfolding_all rfl) ?_ | with_reducible refine c_lst (by with_unfolding_all rfl) ?_
  | with_reducible refine And.intro (show List.length _ ≤ 100000 by simp) ?_ | with_reducible refine truOk_tup ?_ | with_reducible refine truOk_lst ?_ | with_reducible assumption | with_reducible refine ⟨fun _ => ?_, fun _ => ?_⟩ | dsimp only | fail "stop"))
local macro_rules | `(tactic| walk_at "d") => `(tactic| repeat' walk_at "d1")

section
variable {P : Program} {w : World} {K : PySem.W.Frag} {mg : Str → Option Value} {base : Heap}
def M_is_ask : List D → (D → Prop) → Prop := fun ds k => ∃ x t u : Str, ds = [.tup [.str x, .str t, .str u]] ∧ k (.bl (decide (x ∈ deedsS) && (decide (t ∈ kindsS) && decide (u ∈ kindsS))))
theorem ok_is_ask (T : Txt w K mg) : Cal P w K mg base 1 "is_ask" ["row"] none M_is_ask := by
  refine okF T.f_is_ask sc_is_ask (fun _ _ _ _ _ _ us hl => match us, hl with | [_], _ => rfl) (fun ds k h => ?_) (fun f cdv A outer s H E ds kk hr h => ?_)
  · obtain ⟨_, _, _, rfl, _⟩ := h
    rfl
  obtain ⟨x, t, u, rfl, q⟩ := h
  obtain ⟨aK, gK, rK⟩ := T.KINDS.ex
  obtain ⟨aD, gD, rD⟩ := T.DEEDS.ex
  refine ⟨_, (pss_one (ps_ret (pe_and (pe_cmpR op_eq (pe_callB (r := rLenQ K) (id := "len")  call_len_seq (by rfl) T.z_len PySem.boot_len (pa_cons (pv 0) pa_nil)) pe_int (nomark _)) (pe_and (pe_cmpR (r := rIn K false) op_in_seq (pe_ix (r := rIx K) ix_seq (pv 0) pe_int (fun _ _ => rfl)) (pe_gref rfl gD) rfl) (pe_and (pe_cmpR (r := rIn K false) op_in_seq (pe_ix (r := rIx K) ix_seq (pv 0) pe_int (fun _ _ => rfl)) (pe_gref rfl gK) rfl) (pe_one (pe_cmpR (r := rIn K false) op_in_seq (pe_ix (r := rIx K) ix_seq (pv 0) pe_int (fun _ _ => rfl)) (pe_gref rfl gK) rfl))))))), ?_⟩
  try dsimp only [cxOf]
  walk_at "d"
  all_goals (show kk _; simp_all)
def M_is_cell : List D → (D → Prop) → Prop := fun ds k => ∃ x t : Str, ds = [.tup [.str x, .str t]] ∧ k (.bl (decide (x ∈ cellsS) && decide (t ∈ kindsS)))
theorem ok_is_cell (T : Txt w K mg) : Cal P w K mg base 1 "is_cell" ["row"] none M_is_cell := by
  refine okF T.f_is_cell sc_is_cell (fun _ _ _ _ _ _ us hl => match us, hl with | [_], _ => rfl) (fun ds k h => ?_) (fun f cdv A outer s H E ds kk hr h => ?_)
  · obtain ⟨_, _, rfl, _⟩ := h
    rfl
  obtain ⟨x, t, rfl, q⟩ := h
  obtain ⟨aK, gK, rK⟩ := T.KINDS.ex
  obtain ⟨aC, gC, rC⟩ := T.CELLS.ex
  refine ⟨_, (pss_one (ps_ret (pe_and (pe_cmpR op_eq (pe_callB (r := rLenQ K) (id := "len")  call_len_seq (by rfl) T.z_len PySem.boot_len (pa_cons (pv 0) pa_nil)) pe_int (nomark _)) (pe_and (pe_cmpR (r := rIn K false) op_in_seq (pe_ix (r := rIx K) ix_seq (pv 0) pe_int (fun _ _ => rfl)) (pe_gref rfl gC) rfl) (pe_one (pe_cmpR (r := rIn K false) op_in_seq (pe_ix (r := rIx K) ix_seq (pv 0) pe_int (fun _ _ => rfl)) (pe_gref rfl gK) rfl)))))), ?_⟩
  try dsimp only [cxOf]
  walk_at "d"
  all_goals (show kk _; simp_all)
def M_is_number : List D → (D → Prop) → Prop := fun ds k => ∃ n g : Int, ds = [.int n, .int g] ∧ k (.bl (decide (-g ≤ n) && decide (n ≤ g)))
theorem ok_is_number (T : Txt w K mg) : Cal P w K mg base 1 "is_number" ["worth", "greatest"] none M_is_number := by
  refine okF T.f_is_number sc_is_number (fun _ _ _ _ _ _ us hl => match us, hl with | [_, _], _ => rfl) (fun ds k h => ?_) (fun f cdv A outer s H E ds kk hr h => ?_)
  · obtain ⟨_, _, rfl, _⟩ := h
    rfl
  obtain ⟨n, g, rfl, q⟩ := h
  refine ⟨_, (pss_cons (ps_if (PW.pt (pw_or (pt_val (pe_callB (r := rIsi K) (id := "isinstance")  call_isi (by rfl) T.z_isinstance (by decide +kernel) (pa_cons (pv 0) (pa_cons (pe_bty (n := "bool") rfl T.z_bool (by decide +kernel)) pa_nil)))) (pw_or1 (pt_not (pt_val (pe_callB (r := rIsi K) (id := "isinstance")  call_isi (by rfl) T.z_isinstance (by decide +kernel) (pa_cons (pv 0) (pa_cons (pe_bty (n := "int") rfl T.z_int (by decide +kernel)) pa_nil)))))))) (pss_one (ps_ret pe_bl)) pss_nil)
      (pss_one (ps_ret (pe_chain op_le op_le (pe_un un_neg (pv 1)) (pv 0) (pv 1))))), ?_⟩
  try dsimp only [cxOf]
  walk_at "d"
  all_goals (show kk _; simp_all)
def M_body_arms : List D → (D → Prop) → Prop := fun ds k => ∃ x ss, ds = [.str x] ∧ (x, ss) ∈ armsTab ∧ k (.tup (strsOf ss))
theorem ok_body_arms (T : Txt w K mg) : Cal P w K mg base 1 "body_arms" ["word"] none M_body_arms := by
  refine okF T.f_body_arms sc_body_arms (fun _ _ _ _ _ _ us hl => match us, hl with | [_], _ => rfl) (fun ds k h => ?_) (fun f cdv A outer s H E ds kk hr h => ?_)
  · obtain ⟨_, _, rfl, _⟩ := h
    rfl
  obtain ⟨x, ss, rfl, hm, q⟩ := h
  obtain ⟨aA, es, n, gA, kdA, hA⟩ := T.ARMS.ex
  refine ⟨_, (pss_cons (ps_if (pt_not (pt_val (pe_callB (r := rIsi K) (id := "isinstance")  call_isi (by rfl) T.z_isinstance (by decide +kernel) (pa_cons (pv 0) (pa_cons (pe_bty (n := "str") rfl T.z_str (by decide +kernel)) pa_nil))))) (pss_one (ps_ret pe_non)) pss_nil)
      (pss_one (ps_ret (kd_get1 kdA rfl gA (pv 0) ⟨rfl, rfl, rfl, rfl⟩)))), ?_⟩
  try dsimp only [cxOf]
  walk_at "d"
  refine ⟨x, some (.tup (strsOf ss)), rfl, hA _ (List.mem_map.mpr ⟨_, hm, rfl⟩), q⟩
end
/-! ### bodies -/
inductive B where
  | num (n : Int) | tru (b : Bool) | emp | arg | cel (c : Str) | set (c : Str) (x : B) | call (d : Str) (x : B) | op1 (w : Str) (x : B) | op2 (w : Str) (x y : B) | ite (x y z : B)
def B.toD : B → D
  | .num n => .tup [.str "number", .int n]
  | .tru b => .tup [.str "truth", .bl b]
  | .emp => .tup [.str "empty"]
  | .arg => .tup [.str "argument"]
  | .cel c => .tup [.str "cell", .str c]
  | .set c x => .tup [.str "set", .str c, x.toD]
  | .call d x => .tup [.str "call", .str d, x.toD]
  | .op1 w x => .tup [.str w, x.toD]
  | .op2 w x y => .tup [.str w, x.toD, y.toD]
  | .ite x y z => .tup [.str "if", x.toD, y.toD, z.toD]
def B.size : B → Nat
  | .set _ x => x.size + 1
  | .call _ x => x.size + 1
  | .op1 _ x => x.size + 1
  | .op2 _ x y => x.size + y.size + 1
  | .ite x y z => x.size + y.size + z.size + 1
  | _ => 1
def B.depth : B → Nat
  | .set _ x => x.depth + 1
  | .call _ x => x.depth + 1
  | .op1 _ x => x.depth + 1
  | .op2 _ x y => max x.depth y.depth + 1
  | .ite x y z => max (max x.depth y.depth) z.depth + 1
  | _ => 1
def w1S : List Str := ["not", "first", "rest", "many"]
def w2S : List Str := ["plus", "less", "times", "below", "same", "and", "put", "then"]
def B.ok : B → Prop
  | .num n => -99 ≤ n ∧ n ≤ 99
  | .cel c => c ∈ cellsS
  | .set c x => c ∈ cellsS ∧ x.ok
  | .call d x => d ∈ deedsS ∧ x.ok
  | .op1 w x => w ∈ w1S ∧ x.ok
  | .op2 w x y => w ∈ w2S ∧ x.ok ∧ y.ok
  | .ite x y z => x.ok ∧ y.ok ∧ z.ok
  | _ => True
def B.arms : B → List B
  | .set _ x => [x]
  | .call _ x => [x]
  | .op1 _ x => [x]
  | .op2 _ x y => [x, y]
  | .ite x y z => [x, y, z]
  | _ => []
theorem B.isTup (b : B) : ∃ ds, b.toD = .tup ds := by cases b <;> exact ⟨_, rfl⟩
section
variable {P : Program} {w : World} {K : PySem.W.Frag} {mg : Str → Option Value} {base : Heap}
def M_fits : List D → (D → Prop) → Prop := fun ds k => (∃ n : Int, ds = [.str "number", .int n] ∧ k (.bl (decide (-99 ≤ n) && decide (n ≤ 99)))) ∨ (∃ b : Bool, ds = [.str "truth", .bl b] ∧ k (.bl true)) ∨
  (∃ c : Str, ds = [.str "cell", .str c] ∧ k (.bl (decide (c ∈ cellsS)))) ∨ (∃ c : Str, ds = [.str "deed", .str c] ∧ k (.bl (decide (c ∈ deedsS))))
theorem ok_fits_body (T : Txt w K mg) : Cal P w K mg base 2 "fits_body" ["sort", "arm"] none M_fits := by
  have C_is_number := ok_is_number (P := P) (base := base) T
  refine okF T.f_fits_body sc_fits_body (fun _ _ _ _ _ _ us hl => match us, hl with | [_, _], _ => rfl) (fun ds k h => ?_) (fun f cdv A outer s H E ds kk hr h => ?_)
  · rcases h with ⟨_, rfl, _⟩ | ⟨_, rfl, _⟩ | ⟨_, rfl, _⟩ | ⟨_, rfl, _⟩ <;> rfl
  obtain ⟨aC, gC, rC⟩ := T.CELLS.ex
  obtain ⟨aD, gD, rD⟩ := T.DEEDS.ex
  obtain ⟨tg, gG⟩ := T.GREAT
  refine ⟨_, (pss_cons (ps_if (pt_cmpR op_eq (pv 0) pe_str (nomark _)) (pss_one (ps_ret (pe_calK (K := K) rfl C_is_number (hr.mono (by first | decide | omega)) rfl (pa_cons (pv 1) (pa_cons (pe_gint rfl gG) pa_nil))))) pss_nil)
      (pss_cons (ps_if (pt_cmpR op_eq (pv 0) pe_str (nomark _)) (pss_one (ps_ret (pe_callB (r := rIsi K) (id := "isinstance")  call_isi (by rfl) T.z_isinstance (by decide +kernel) (pa_cons (pv 1) (pa_cons (pe_bty (n := "bool") rfl T.z_bool (by decide +kernel)) pa_nil))))) pss_nil)
      (pss_cons (ps_if (pt_cmpR op_eq (pv 0) pe_str (nomark _)) (pss_one (ps_ret (pe_cmpR (r := rIn K false) op_in_seq (pv 1) (pe_gref rfl gC) rfl))) pss_nil)
      (pss_one (ps_ret (pe_cmpR (r := rIn K false) op_in_seq (pv 1) (pe_gref rfl gD) rfl)))))), ?_⟩
  try dsimp only [cxOf]
  rcases h with ⟨n, rfl, q⟩ | ⟨n, rfl, q⟩ | ⟨n, rfl, q⟩ | ⟨n, rfl, q⟩
  · walk_at "d"
    exact ⟨n, 99, rfl, q⟩
  · walk_at "d"
    exact q
  · walk_at "d"
    exact q
  · walk_at "d"
    exact q
end
end Pr
set_option Elab.async false
set_option linter.all false
set_option maxRecDepth 100000
set_option maxHeartbeats 0
namespace Pr
open PySem PySem.Spec PyProof.Rows L2 PD
def d_size_of : He.DefD := ⟨("size_of", none), "size_of", "size_of", defArgs (top 6), defBody (top 6), defScope (top 6), [.int 0], []⟩
def d_is_number : He.DefD := ⟨("is_number", none), "is_number", "is_number", defArgs (top 8), defBody (top 8), defScope (top 8), [], []⟩
def d_body_arms : He.DefD := ⟨("body_arms", none), "body_arms", "body_arms", defArgs (top 13), defBody (top 13), defScope (top 13), [], []⟩
def d_fits_body : He.DefD := ⟨("fits_body", none), "fits_body", "fits_body", defArgs (top 14), defBody (top 14), defScope (top 14), [], []⟩
def d_is_body : He.DefD := ⟨("is_body", none), "is_body", "is_body", defArgs (top 15), defBody (top 15), defScope (top 15), [], []⟩
def d_bodies_in : He.DefD := ⟨("bodies_in", none), "bodies_in", "bodies_in", defArgs (top 16), defBody (top 16), defScope (top 16), [], []⟩
def d_kind_by_arms : He.DefD := ⟨("kind_by_arms", none), "kind_by_arms", "kind_by_arms", defArgs (top 22), defBody (top 22), defScope (top 22), [], []⟩
def d_kind_of : He.DefD := ⟨("kind_of", none), "kind_of", "kind_of", defArgs (top 23), defBody (top 23), defScope (top 23), [], []⟩
def d_is_ask : He.DefD := ⟨("is_ask", none), "is_ask", "is_ask", defArgs (top 27), defBody (top 27), defScope (top 27), [], []⟩
def d_is_deed : He.DefD := ⟨("is_deed", none), "is_deed", "is_deed", defArgs (top 28), defBody (top 28), defScope (top 28), [], []⟩
def d_is_cell : He.DefD := ⟨("is_cell", none), "is_cell", "is_cell", defArgs (top 29), defBody (top 29), defScope (top 29), [], []⟩
def d_are_rows : He.DefD := ⟨("are_rows", none), "are_rows", "are_rows", defArgs (top 30), defBody (top 30), defScope (top 30), [], []⟩
def d_are_asks : He.DefD := ⟨("are_asks", none), "are_asks", "are_asks", defArgs (top 31), defBody (top 31), defScope (top 31), [], []⟩
def d_fault_of : He.DefD := ⟨("fault_of", none), "fault_of", "fault_of", defArgs (top 32), defBody (top 32), defScope (top 32), [], []⟩
def d_check_part : He.DefD := ⟨("check_part", none), "check_part", "check_part", defArgs (top 33), defBody (top 33), defScope (top 33), [], []⟩
def d_calls_of : He.DefD := ⟨("calls_of", none), "calls_of", "calls_of", defArgs (top 34), defBody (top 34), defScope (top 34), [], []⟩
def d_right : He.DefD := ⟨("right", none), "right", "right", defArgs (top 35), defBody (top 35), defScope (top 35), [], []⟩
def d_law_mix : He.DefD := ⟨("_law_mix", none), "_law_mix", "_law_mix", defArgs (top 37), defBody (top 37), defScope (top 37), [], []⟩
def d_law_next : He.DefD := ⟨("_law_next", none), "_law_next", "_law_next", defArgs (top 38), defBody (top 38), defScope (top 38), [], []⟩
def d_law_alike : He.DefD := ⟨("_law_alike", none), "_law_alike", "_law_alike", defArgs (top 39), defBody (top 39), defScope (top 39), [], []⟩
def d_law_leaf : He.DefD := ⟨("_law_leaf", none), "_law_leaf", "_law_leaf", defArgs (top 40), defBody (top 40), defScope (top 40), [], []⟩
def d_law_call : He.DefD := ⟨("_law_call", none), "_law_call", "_law_call", defArgs (top 41), defBody (top 41), defScope (top 41), [], []⟩
def d_law_body : He.DefD := ⟨("_law_body", none), "_law_body", "_law_body", defArgs (top 42), defBody (top 42), defScope (top 42), [], []⟩
def d_law_reckons : He.DefD := ⟨("_law_reckons", none), "_law_reckons", "_law_reckons", defArgs (top 43), defBody (top 43), defScope (top 43), [], []⟩
def d_law_calls : He.DefD := ⟨("_law_calls", none), "_law_calls", "_law_calls", defArgs (top 44), defBody (top 44), defScope (top 44), [], []⟩
def d_law_used : He.DefD := ⟨("_law_used", none), "_law_used", "_law_used", defArgs (top 45), defBody (top 45), defScope (top 45), [], []⟩
def d_law_part : He.DefD := ⟨("_law_part", none), "_law_part", "_law_part", defArgs (top 46), defBody (top 46), defScope (top 46), [], []⟩
def d_law_shelf : He.DefD := ⟨("_law_shelf", none), "_law_shelf", "_law_shelf", defArgs (top 47), defBody (top 47), defScope (top 47), [], []⟩
def d_law_full : He.DefD := ⟨("_law_full", none), "_law_full", "_law_full", defArgs (top 48), defBody (top 48), defScope (top 48), [], []⟩
def d_law_reckoned : He.DefD := ⟨("_law_reckoned", none), "_law_reckoned", "_law_reckoned", defArgs (top 49), defBody (top 49), defScope (top 49), [], []⟩
def d_law_due : He.DefD := ⟨("_law_due", none), "_law_due", "_law_due", defArgs (top 50), defBody (top 50), defScope (top 50), [], []⟩
def d_law_spoilt : He.DefD := ⟨("_law_spoilt", none), "_law_spoilt", "_law_spoilt", defArgs (top 51), defBody (top 51), defScope (top 51), [], []⟩
def d_law_deep : He.DefD := ⟨("_law_deep", none), "_law_deep", "_law_deep", defArgs (top 52), defBody (top 52), defScope (top 52), [], []⟩
def d_law_big : He.DefD := ⟨("_law_big", none), "_law_big", "_law_big", defArgs (top 53), defBody (top 53), defScope (top 53), [], []⟩
def d_law_wrapped : He.DefD := ⟨("_law_wrapped", none), "_law_wrapped", "_law_wrapped", defArgs (top 54), defBody (top 54), defScope (top 54), [], []⟩
def d_law : He.DefD := ⟨("law", none), "law", "law", defArgs (top 55), defBody (top 55), defScope (top 55), [], []⟩
def fnD : List He.DefD := [d_size_of, d_is_number, d_body_arms, d_fits_body, d_is_body, d_bodies_in, d_kind_by_arms, d_kind_of, d_is_ask, d_is_deed, d_is_cell, d_are_rows, d_are_asks, d_fault_of, d_check_part, d_calls_of, d_right, d_law_mix, d_law_next, d_law_alike, d_law_leaf, d_law_call, d_law_body, d_law_reckons, d_law_calls, d_law_used, d_law_part, d_law_shelf, d_law_full, d_law_reckoned, d_law_due, d_law_spoilt, d_law_deep, d_law_big, d_law_wrapped, d_law]
def faD : List He.Fa := [.glo "size_of", .glo "is_number", .glo "body_arms", .glo "fits_body", .glo "is_body", .glo "bodies_in", .glo "kind_by_arms", .glo "kind_of", .glo "is_ask", .glo "is_deed", .glo "is_cell", .glo "are_rows", .glo "are_asks", .glo "fault_of", .glo "check_part", .glo "calls_of", .glo "right", .glo "_law_mix", .glo "_law_next", .glo "_law_alike", .glo "_law_leaf", .glo "_law_call", .glo "_law_body", .glo "_law_reckons", .glo "_law_calls", .glo "_law_used", .glo "_law_part", .glo "_law_shelf", .glo "_law_full", .glo "_law_reckoned", .glo "_law_due", .glo "_law_spoilt", .glo "_law_deep", .glo "_law_big", .glo "_law_wrapped", .glo "law", .glo "KINDS", .glo "DEED_NAMES", .glo "CELL_NAMES", .glo "PART_NAMES", .glo "BODY_ARMS", .glo "FIXED", .int "MOST_AROUND" 9, .int "MOST_WORDS" 60, .int "GREATEST_IN_BODIES" 99, .int "MOST_DEEDS" 8, .int "MOST_CELLS" 4, .free "ValueError", .free "any", .free "bool", .free "dict", .free "int", .free "isinstance", .free "len", .free "list", .free "max", .free "range", .free "set", .free "sorted", .free "str", .free "sum", .free "tuple", .free "zip"]
def tsD : List He.Tab := [((fun K => He.ga K "BODY_ARMS"), ["number", "truth", "empty", "argument", "cell", "plus", "less", "times", "below", "same", "not", "and", "if", "put", "first", "rest", "many", "set", "then", "call"]), ((fun K => He.ga K "FIXED"), ["number", "truth", "empty", "plus", "less", "times", "below", "not", "and", "put", "first", "rest", "many"])]
def exD (K : PySem.W.Frag) : Bool := gloB K "KINDS" (.tup (strsOf kindsS)) && gloB K "DEED_NAMES" (.tup (strsOf deedsS)) && gloB K "CELL_NAMES" (.tup (strsOf cellsS)) && gloB K "PART_NAMES" (.tup (strsOf partsS)) && hasB K "BODY_ARMS" (armsTab.map fun p => (p.1, .tup (strsOf p.2))) [] && hasB K "FIXED" (fixTab.map fun p => (p.1, .tup [.tup (strsOf p.2.1), .str p.2.2])) ["same", "if", "then"]
def names0 : List Str := ["KINDS", "DEED_NAMES", "CELL_NAMES", "PART_NAMES", "MOST_AROUND", "size_of", "is_number", "MOST_WORDS", "GREATEST_IN_BODIES", "BODY_ARMS", "body_arms", "fits_body", "is_body", "bodies_in", "PartError", "BadPart", "FIXED", "kind_by_arms", "kind_of", "MOST_DEEDS", "MOST_CELLS", "is_ask", "is_deed", "is_cell", "are_rows", "are_asks", "fault_of", "check_part", "calls_of", "right"]
def names1 : List Str := ["_law_mix", "_law_next", "_law_alike", "_law_leaf", "_law_call", "_law_body", "_law_reckons", "_law_calls", "_law_used", "_law_part", "_law_shelf", "_law_full", "_law_reckoned", "_law_due", "_law_spoilt", "_law_deep", "_law_big", "_law_wrapped"]
def namesD : List Str := names0 ++ names1

abbrev rowR : PySem.W.OpenRow := PySem.W.OpenLaw.row PySem.Challenge.rw_partdeeds_k02_right_parts
abbrev hkD : PySem.W.Hook := He.hookX 4 faD fnD tsD [] exD
def obD (s : PySem.W.SharedT) : He.AlX := He.obsX 4 faD fnD tsD [] exD (HandSHeadRun.getT s)
theorem obD_eq (s : PySem.W.SharedT) : obD s = hkD.obs s.abs := He.obsX_eq (HandSHeadRun.getT_eq s)
theorem runD (w : World) : HandSHeadRun.RunEq rowR (PySem.W.view rowR.prog [55]) hkD obD 6000 namesD w := PySem.W.byRow2 "special-get-raises" (P := fun w => HandSHeadRun.RunEq rowR (PySem.W.view rowR.prog [55]) hkD obD 6000 namesD w) (fun w => by
    intro os
    kernel_rfl) (fun w => by
    intro os
    kernel_rfl) w
end Pr
set_option Elab.async false
set_option linter.all false
set_option maxRecDepth 100000
set_option maxHeartbeats 1000000
namespace Pr
open PySem L2 PD
section
variable {P : Program} {w : World} {K : PySem.W.Frag} {mg : Str → Option Value} {base : Heap}
def M_size (n : Nat) (fa ff : Addr) : List D → (D → Prop) → Prop := fun ds k => ∃ (b : B) (a : Int), ds = [b.toD, .adr fa, .adr ff, .int a] ∧ b.ok ∧ 0 ≤ a ∧ a + b.depth ≤ 10 ∧ b.depth ≤ n ∧ k (.int (b.size : Nat))
theorem depth_pos (b : B) : 1 ≤ b.depth := by cases b <;> simp [B.depth]
theorem size_pos (b : B) : 1 ≤ b.size := by cases b <;> simp [B.size]
theorem ok_size {fa ff : Addr} {fda fdf : FuncData} (T : Txt w K mg) (Ca : CalF P w K mg base 1 "body_arms" ["word"] none M_body_arms fa fda) (Cf : CalF P w K mg base 2 "fits_body" ["sort", "arm"] none M_fits ff fdf) :
    ∀ n : Nat, CalV P w K mg base (n + 3) "size_of" ["nest", "arms_of", "fits", "around"] none (M_size n fa ff) [.int 0] := by
  intro n
  induction n with
  | zero =>
    refine okV T.f_size_of sc_size_of 3 (by decide) rfl (fun _ _ _ _ _ _ _ us its hl hi => match us, hl, its, hi with | [_, _, _], _, [_], _ => ⟨_, rfl, rfl⟩) (fun _ _ _ _ _ _ _ us its hl hi => match us, hl, its, hi with | [_, _, _, _], _, [_], _ => ⟨_, rfl, rfl⟩) (fun ds k h => ?_) (fun f cdv A outer s H E ds kk hr h => ?_)
    · obtain ⟨_, _, rfl, _⟩ := h
      rfl
    · obtain ⟨b, _, _, _, _, _, h, _⟩ := h
      have := depth_pos b
      omega
  | succ n ih =>
    have C_size_of := ih.cal
    refine okV T.f_size_of sc_size_of 3 (by decide) rfl (fun _ _ _ _ _ _ _ us its hl hi => match us, hl, its, hi with | [_, _, _], _, [_], _ => ⟨_, rfl, rfl⟩) (fun _ _ _ _ _ _ _ us its hl hi => match us, hl, its, hi with | [_, _, _, _], _, [_], _ => ⟨_, rfl, rfl⟩) (fun ds k h => ?_) (fun f cdv A outer s H E ds kk hr h => ?_)
    · obtain ⟨_, _, rfl, _⟩ := h
      rfl
    obtain ⟨b, a, rfl, hb, h0, h1, h2, q⟩ := h
    obtain ⟨tm, gM⟩ := T.AROUND
    refine ⟨_, (pss_cons (ps_if (PW.pt (pw_or (pt_cmpR op_gt (pv 3) (pe_gint rfl gM) (nomark _)) (pw_or (pt_not (pt_val (pe_callB (r := rIsi K) (id := "isinstance") call_isi (by rfl) T.z_isinstance (by decide +kernel) (pa_cons (pv 0) (pa_cons (pe_bty (n := "tuple") rfl T.z_tuple (by decide +kernel)) pa_nil))))) (pw_or1 (pt_not (pt_truth (pv 0) (by intro _; rfl))))))) (pss_one (ps_ret pe_int)) pss_nil)
      (pss_cons (ps_set (i := 4) sc_size_of.nd rfl (by first | exact Or.inl rfl | exact Or.inr rfl) (pe_callL (i := 1) Ca.ok (hr.mono (by omega)) rfl (by first | exact Or.inl rfl | exact Or.inr (Or.inl rfl)) Ca.keep Ca.binds .nil pass0 (pa_cons (pe_ix (r := rIx K) ix_seq (pv 0) pe_int (fun _ _ => rfl)) pa_nil)))
      (pss_cons (ps_if (PW.pt (pw_or (pt_cmpR op_isN (pv 4) pe_non (nomark _)) (pw_or1 (pt_cmpR op_ne (pe_callB (r := rLenQ K) (id := "len") call_len_seq (by rfl) T.z_len PySem.boot_len (pa_cons (pv 4) pa_nil)) (pe_op op_sub (pe_callB (r := rLenQ K) (id := "len") call_len_seq (by rfl) T.z_len PySem.boot_len (pa_cons (pv 0) pa_nil)) pe_int) (nomark _))))) (pss_one (ps_ret pe_int)) pss_nil)
      (pss_cons (ps_set (i := 5) sc_size_of.nd rfl (by first | exact Or.inl rfl | exact Or.inr rfl) pe_int)
      (pss_cons (ps_for PassesOwn.never rfl (RZ.pi_zipA (by rfl) T.z_zip (pa_cons (pv 4) (pa_cons (pe_slice (r := rSlA K) sl_tupA (pv 0) (po_some pe_int) po_none) pa_nil))) (pg_tupK (K := K) (n := 2) rfl rfl (pgs_cons (pg_name (i := 6) sc_size_of.nd rfl (by first | exact Or.inl rfl | exact Or.inr rfl)) (pgs_cons (pg_name (i := 7) sc_size_of.nd rfl (by first | exact Or.inl rfl | exact Or.inr rfl)) pgs_nil))) (pss_one (ps_if (pt_cmpR op_eq (pv 6) pe_str (nomark _)) (pss_cons (ps_set (i := 8) sc_size_of.nd rfl (by first | exact Or.inl rfl | exact Or.inr rfl) (pe_calK (K := K) rfl C_size_of (hr.mono (by first | decide | omega)) rfl (pa_cons (pv 7) (pa_cons (pv 1) (pa_cons (pv 2) (pa_cons (pe_op op_add (pv 3) pe_int) pa_nil))))))
      (pss_cons (ps_if (pt_cmpR op_eq (pv 8) pe_int (nomark _)) (pss_one (ps_ret pe_int)) pss_nil)
      (pss_one (ps_aug (i := 5) sc_size_of.nd rfl (by first | exact Or.inl rfl | exact Or.inr rfl) (pv 8) ip_add)))) (pss_one (ps_if (pt_not (pt_val (pe_callL (i := 2) Cf.ok (hr.mono (by omega)) rfl (by first | exact Or.inl rfl | exact Or.inr (Or.inl rfl)) Cf.keep Cf.binds .nil pass0 (pa_cons (pv 6) (pa_cons (pv 7) pa_nil))))) (pss_one (ps_ret pe_int)) pss_nil)))))
      (pss_one (ps_ret (pv 5)))))))), ?_⟩
    try dsimp only [cxOf]
    change dS _ _ _ [Sl.d _, Sl.d _, Sl.d _, Sl.d _, Sl.un, Sl.un, Sl.un, Sl.un, Sl.un] _
    have hd := depth_pos b
    have hna : decide ((9 : Int) < a) = false := decide_eq_false (by omega)
    have sz0 : ∀ x : B, decide ((x.size : Int) = 0) = false := fun x => decide_eq_false (by have := size_pos x; omega)
    have fin : ∀ {i j : Int}, kk (.int i) → i = j → kk (.int j) := fun h e => e ▸ h
    cases b <;> dsimp only [B.toD] <;> simp only [B.ok] at hb <;> simp only [B.depth] at h1 h2
    case num m =>
      have ha : (("number" : Str), (["number"] : List Str)) ∈ armsTab := by decide
      have hf : (!(decide (-99 ≤ m) && decide (m ≤ 99))) = false := by simp [hb.1, hb.2]
      refine s_seq (s_if (d_or (d_test (d_op (d_var (by with_unfolding_all rfl) ?_)))))
      refine d_c (by with_unfolding_all rfl) ?_
      refine r_I0 (by with_unfolding_all rfl) ?_
      refine ⟨_, rfl, (br_f (by assumption) ?_)⟩
      refine d_or (d_not (d_tB (d_cb (d_cons (d_var (by with_unfolding_all rfl) ?_)))))
      refine d_cons (d_c (by with_unfolding_all rfl) ?_)
      refine d_nil (c_tup (by with_unfolding_all rfl) ?_)
      refine ⟨_, rfl, (br_f (by with_unfolding_all rfl) ?_)⟩
      refine d_not (d_truth (d_var (by with_unfolding_all rfl) ?_))
      refine truOk_tup (br_f (by with_unfolding_all rfl) ?_)
      refine s_next (s_seq (s_set (d_callLP (by with_unfolding_all rfl) ?_)))
      refine d_cons (d_op (d_var (by with_unfolding_all rfl) ?_))
      refine d_c (by with_unfolding_all rfl) ?_
      refine r_ix (.inr (r_ixT (by with_unfolding_all rfl) ?_))
      refine d_nil ?_
      dsimp only
      refine ⟨_, _, rfl, ha, (s_seq (s_if (d_or (d_test (d_op (d_var (by with_unfolding_all rfl) ?_))))))⟩
      refine d_c (by with_unfolding_all rfl) ?_
      refine r_isN ⟨_, rfl, (br_f (by with_unfolding_all rfl) ?_)⟩
      refine d_test (d_op (d_cb (d_cons (d_var (by with_unfolding_all rfl) ?_))))
      refine d_nil (c_lenS (.inr rfl) (d_op (d_cb (d_cons (d_var (by with_unfolding_all rfl) ?_)))))
      refine d_nil (c_lenS (.inr rfl) (d_c (by with_unfolding_all rfl) ?_))
      refine r_I0 (by with_unfolding_all rfl) ?_
      refine r_neI ⟨_, rfl, (br_f (by with_unfolding_all rfl) ?_)⟩
      refine s_next (s_seq (s_set (d_c (by with_unfolding_all rfl) ?_)))
      refine s_seq (s_for (i_zipT (d_cons (d_var (by with_unfolding_all rfl) ?_))))
      refine d_cons (d_slT1 (d_var (by with_unfolding_all rfl) ?_))
      refine ⟨_, _, rfl, (d_nil ⟨_, _, rfl, ?_⟩)⟩
      ((with_reducible refine forW_id ?_); refine forW_pair ?_)
      ((with_reducible refine g_tid ?_); refine g_tup rfl ?_)
      refine gs_cons (g_name (gs_cons (g_name (gs_nil (s_if (d_test (d_op (d_var (by with_unfolding_all rfl) ?_))))))))
      refine d_c (by with_unfolding_all rfl) ?_
      refine r_eqS ⟨_, rfl, (br_f (by with_unfolding_all rfl) ?_)⟩
      refine s_if (d_not (d_tB (d_callLP (by with_unfolding_all rfl) ?_)))
      refine d_cons (d_var (by with_unfolding_all rfl) ?_)
      refine d_cons (d_var (by with_unfolding_all rfl) ?_)
      refine d_nil ?_
      dsimp only
      refine Or.inl ⟨_, rfl, ⟨_, rfl, (br_f (by assumption) ?_)⟩⟩
      refine s_next ?_
      ((with_reducible refine forW_id ?_); refine forW_pnil ?_)
      refine s_ret (d_var (by with_unfolding_all rfl) ?_)
      dsimp only
      rotate_left
      exact q
    case tru m =>
      have ha : (("truth" : Str), (["truth"] : List Str)) ∈ armsTab := by decide
      refine s_seq (s_if (d_or (d_test (d_op (d_var (by with_unfolding_all rfl) ?_)))))
      refine d_c (by with_unfolding_all rfl) ?_
      refine r_I0 (by with_unfolding_all rfl) ?_
      refine ⟨_, rfl, (br_f (by assumption) ?_)⟩
      refine d_or (d_not (d_tB (d_cb (d_cons (d_var (by with_unfolding_all rfl) ?_)))))
      refine d_cons (d_c (by with_unfolding_all rfl) ?_)
      refine d_nil (c_tup (by with_unfolding_all rfl) ?_)
      refine ⟨_, rfl, (br_f (by with_unfolding_all rfl) ?_)⟩
      refine d_not (d_truth (d_var (by with_unfolding_all rfl) ?_))
      refine truOk_tup (br_f (by with_unfolding_all rfl) ?_)
      refine s_next (s_seq (s_set (d_callLP (by with_unfolding_all rfl) ?_)))
      refine d_cons (d_op (d_var (by with_unfolding_all rfl) ?_))
      refine d_c (by with_unfolding_all rfl) ?_
      refine r_ix (.inr (r_ixT (by with_unfolding_all rfl) ?_))
      refine d_nil ?_
      dsimp only
      refine ⟨_, _, rfl, ha, (s_seq (s_if (d_or (d_test (d_op (d_var (by with_unfolding_all rfl) ?_))))))⟩
      refine d_c (by with_unfolding_all rfl) ?_
      refine r_isN ⟨_, rfl, (br_f (by with_unfolding_all rfl) ?_)⟩
      refine d_test (d_op (d_cb (d_cons (d_var (by with_unfolding_all rfl) ?_))))
      refine d_nil (c_lenS (.inr rfl) (d_op (d_cb (d_cons (d_var (by with_unfolding_all rfl) ?_)))))
      refine d_nil (c_lenS (.inr rfl) (d_c (by with_unfolding_all rfl) ?_))
      refine r_I0 (by with_unfolding_all rfl) ?_
      refine r_neI ⟨_, rfl, (br_f (by with_unfolding_all rfl) ?_)⟩
      refine s_next (s_seq (s_set (d_c (by with_unfolding_all rfl) ?_)))
      refine s_seq (s_for (i_zipT (d_cons (d_var (by with_unfolding_all rfl) ?_))))
      refine d_cons (d_slT1 (d_var (by with_unfolding_all rfl) ?_))
      refine ⟨_, _, rfl, (d_nil ⟨_, _, rfl, ?_⟩)⟩
      ((with_reducible refine forW_id ?_); refine forW_pair ?_)
      ((with_reducible refine g_tid ?_); refine g_tup rfl ?_)
      refine gs_cons (g_name (gs_cons (g_name (gs_nil (s_if (d_test (d_op (d_var (by with_unfolding_all rfl) ?_))))))))
      refine d_c (by with_unfolding_all rfl) ?_
      refine r_eqS ⟨_, rfl, (br_f (by with_unfolding_all rfl) ?_)⟩
      refine s_if (d_not (d_tB (d_callLP (by with_unfolding_all rfl) ?_)))
      refine d_cons (d_var (by with_unfolding_all rfl) ?_)
      refine d_cons (d_var (by with_unfolding_all rfl) ?_)
      refine d_nil ?_
      dsimp only
      refine Or.inr (Or.inl ⟨_, rfl, ⟨_, rfl, (br_f (by with_unfolding_all rfl) ?_)⟩⟩)
      refine s_next ?_
      ((with_reducible refine forW_id ?_); refine forW_pnil ?_)
      refine s_ret (d_var (by with_unfolding_all rfl) ?_)
      dsimp only
      rotate_left
      exact q
    case emp =>
      have ha : (("empty" : Str), ([] : List Str)) ∈ armsTab := by decide
      refine s_seq (s_if (d_or (d_test (d_op (d_var (by with_unfolding_all rfl) ?_)))))
      refine d_c (by with_unfolding_all rfl) ?_
      refine r_I0 (by with_unfolding_all rfl) ?_
      refine ⟨_, rfl, (br_f (by assumption) ?_)⟩
      refine d_or (d_not (d_tB (d_cb (d_cons (d_var (by with_unfolding_all rfl) ?_)))))
      refine d_cons (d_c (by with_unfolding_all rfl) ?_)
      refine d_nil (c_tup (by with_unfolding_all rfl) ?_)
      refine ⟨_, rfl, (br_f (by with_unfolding_all rfl) ?_)⟩
      refine d_not (d_truth (d_var (by with_unfolding_all rfl) ?_))
      refine truOk_tup (br_f (by with_unfolding_all rfl) ?_)
      refine s_next (s_seq (s_set (d_callLP (by with_unfolding_all rfl) ?_)))
      refine d_cons (d_op (d_var (by with_unfolding_all rfl) ?_))
      refine d_c (by with_unfolding_all rfl) ?_
      refine r_ix (.inr (r_ixT (by with_unfolding_all rfl) ?_))
      refine d_nil ?_
      dsimp only
      refine ⟨_, _, rfl, ha, (s_seq (s_if (d_or (d_test (d_op (d_var (by with_unfolding_all rfl) ?_))))))⟩
      refine d_c (by with_unfolding_all rfl) ?_
      refine r_isN ⟨_, rfl, (br_f (by with_unfolding_all rfl) ?_)⟩
      refine d_test (d_op (d_cb (d_cons (d_var (by with_unfolding_all rfl) ?_))))
      refine d_nil (c_lenS (.inr rfl) (d_op (d_cb (d_cons (d_var (by with_unfolding_all rfl) ?_)))))
      refine d_nil (c_lenS (.inr rfl) (d_c (by with_unfolding_all rfl) ?_))
      refine r_I0 (by with_unfolding_all rfl) ?_
      refine r_neI ⟨_, rfl, (br_f (by with_unfolding_all rfl) ?_)⟩
      refine s_next (s_seq (s_set (d_c (by with_unfolding_all rfl) ?_)))
      refine s_seq (s_for (i_zipT (d_cons (d_var (by with_unfolding_all rfl) ?_))))
      refine d_cons (d_slT1 (d_var (by with_unfolding_all rfl) ?_))
      refine ⟨_, _, rfl, (d_nil ⟨_, _, rfl, ?_⟩)⟩
      ((with_reducible refine forW_id ?_); refine forW_pnil ?_)
      refine s_ret (d_var (by with_unfolding_all rfl) ?_)
      dsimp only
      rotate_left
      exact q
    case arg =>
      have ha : (("argument" : Str), ([] : List Str)) ∈ armsTab := by decide
      refine s_seq (s_if (d_or (d_test (d_op (d_var (by with_unfolding_all rfl) ?_)))))
      refine d_c (by with_unfolding_all rfl) ?_
      refine r_I0 (by with_unfolding_all rfl) ?_
      refine ⟨_, rfl, (br_f (by assumption) ?_)⟩
      refine d_or (d_not (d_tB (d_cb (d_cons (d_var (by with_unfolding_all rfl) ?_)))))
      refine d_cons (d_c (by with_unfolding_all rfl) ?_)
      refine d_nil (c_tup (by with_unfolding_all rfl) ?_)
      refine ⟨_, rfl, (br_f (by with_unfolding_all rfl) ?_)⟩
      refine d_not (d_truth (d_var (by with_unfolding_all rfl) ?_))
      refine truOk_tup (br_f (by with_unfolding_all rfl) ?_)
      refine s_next (s_seq (s_set (d_callLP (by with_unfolding_all rfl) ?_)))
      refine d_cons (d_op (d_var (by with_unfolding_all rfl) ?_))
      refine d_c (by with_unfolding_all rfl) ?_
      refine r_ix (.inr (r_ixT (by with_unfolding_all rfl) ?_))
      refine d_nil ?_
      dsimp only
      refine ⟨_, _, rfl, ha, (s_seq (s_if (d_or (d_test (d_op (d_var (by with_unfolding_all rfl) ?_))))))⟩
      refine d_c (by with_unfolding_all rfl) ?_
      refine r_isN ⟨_, rfl, (br_f (by with_unfolding_all rfl) ?_)⟩
      refine d_test (d_op (d_cb (d_cons (d_var (by with_unfolding_all rfl) ?_))))
      refine d_nil (c_lenS (.inr rfl) (d_op (d_cb (d_cons (d_var (by with_unfolding_all rfl) ?_)))))
      refine d_nil (c_lenS (.inr rfl) (d_c (by with_unfolding_all rfl) ?_))
      refine r_I0 (by with_unfolding_all rfl) ?_
      refine r_neI ⟨_, rfl, (br_f (by with_unfolding_all rfl) ?_)⟩
      refine s_next (s_seq (s_set (d_c (by with_unfolding_all rfl) ?_)))
      refine s_seq (s_for (i_zipT (d_cons (d_var (by with_unfolding_all rfl) ?_))))
      refine d_cons (d_slT1 (d_var (by with_unfolding_all rfl) ?_))
      refine ⟨_, _, rfl, (d_nil ⟨_, _, rfl, ?_⟩)⟩
      ((with_reducible refine forW_id ?_); refine forW_pnil ?_)
      refine s_ret (d_var (by with_unfolding_all rfl) ?_)
      dsimp only
      rotate_left
      exact q
    case cel c =>
      have ha : (("cell" : Str), (["cell"] : List Str)) ∈ armsTab := by decide
      have hf : (!decide (c ∈ cellsS)) = false := by simp [hb]
      refine s_seq (s_if (d_or (d_test (d_op (d_var (by with_unfolding_all rfl) ?_)))))
      refine d_c (by with_unfolding_all rfl) ?_
      refine r_I0 (by with_unfolding_all rfl) ?_
      refine ⟨_, rfl, (br_f (by assumption) ?_)⟩
      refine d_or (d_not (d_tB (d_cb (d_cons (d_var (by with_unfolding_all rfl) ?_)))))
      refine d_cons (d_c (by with_unfolding_all rfl) ?_)
      refine d_nil (c_tup (by with_unfolding_all rfl) ?_)
      refine ⟨_, rfl, (br_f (by with_unfolding_all rfl) ?_)⟩
      refine d_not (d_truth (d_var (by with_unfolding_all rfl) ?_))
      refine truOk_tup (br_f (by with_unfolding_all rfl) ?_)
      refine s_next (s_seq (s_set (d_callLP (by with_unfolding_all rfl) ?_)))
      refine d_cons (d_op (d_var (by with_unfolding_all rfl) ?_))
      refine d_c (by with_unfolding_all rfl) ?_
      refine r_ix (.inr (r_ixT (by with_unfolding_all rfl) ?_))
      refine d_nil ?_
      dsimp only
      refine ⟨_, _, rfl, ha, (s_seq (s_if (d_or (d_test (d_op (d_var (by with_unfolding_all rfl) ?_))))))⟩
      refine d_c (by with_unfolding_all rfl) ?_
      refine r_isN ⟨_, rfl, (br_f (by with_unfolding_all rfl) ?_)⟩
      refine d_test (d_op (d_cb (d_cons (d_var (by with_unfolding_all rfl) ?_))))
      refine d_nil (c_lenS (.inr rfl) (d_op (d_cb (d_cons (d_var (by with_unfolding_all rfl) ?_)))))
      refine d_nil (c_lenS (.inr rfl) (d_c (by with_unfolding_all rfl) ?_))
      refine r_I0 (by with_unfolding_all rfl) ?_
      refine r_neI ⟨_, rfl, (br_f (by with_unfolding_all rfl) ?_)⟩
      refine s_next (s_seq (s_set (d_c (by with_unfolding_all rfl) ?_)))
      refine s_seq (s_for (i_zipT (d_cons (d_var (by with_unfolding_all rfl) ?_))))
      refine d_cons (d_slT1 (d_var (by with_unfolding_all rfl) ?_))
      refine ⟨_, _, rfl, (d_nil ⟨_, _, rfl, ?_⟩)⟩
      ((with_reducible refine forW_id ?_); refine forW_pair ?_)
      ((with_reducible refine g_tid ?_); refine g_tup rfl ?_)
      refine gs_cons (g_name (gs_cons (g_name (gs_nil (s_if (d_test (d_op (d_var (by with_unfolding_all rfl) ?_))))))))
      refine d_c (by with_unfolding_all rfl) ?_
      refine r_eqS ⟨_, rfl, (br_f (by with_unfolding_all rfl) ?_)⟩
      refine s_if (d_not (d_tB (d_callLP (by with_unfolding_all rfl) ?_)))
      refine d_cons (d_var (by with_unfolding_all rfl) ?_)
      refine d_cons (d_var (by with_unfolding_all rfl) ?_)
      refine d_nil ?_
      dsimp only
      refine Or.inr (Or.inr (Or.inl ⟨_, rfl, ⟨_, rfl, (br_f (by assumption) ?_)⟩⟩))
      refine s_next ?_
      ((with_reducible refine forW_id ?_); refine forW_pnil ?_)
      refine s_ret (d_var (by with_unfolding_all rfl) ?_)
      dsimp only
      rotate_left
      exact q
    case set c x =>
      have ha : (("set" : Str), (["cell", "nest"] : List Str)) ∈ armsTab := by decide
      have hf : (!decide (c ∈ cellsS)) = false := by simp [hb.1]
      have ox := hb.2
      have zx := sz0 x
      refine s_seq (s_if (d_or (d_test (d_op (d_var (by with_unfolding_all rfl) ?_)))))
      refine d_c (by with_unfolding_all rfl) ?_
      refine r_I0 (by with_unfolding_all rfl) ?_
      refine ⟨_, rfl, (br_f (by assumption) ?_)⟩
      refine d_or (d_not (d_tB (d_cb (d_cons (d_var (by with_unfolding_all rfl) ?_)))))
      refine d_cons (d_c (by with_unfolding_all rfl) ?_)
      refine d_nil (c_tup (by with_unfolding_all rfl) ?_)
      refine ⟨_, rfl, (br_f (by with_unfolding_all rfl) ?_)⟩
      refine d_not (d_truth (d_var (by with_unfolding_all rfl) ?_))
      refine truOk_tup (br_f (by with_unfolding_all rfl) ?_)
      refine s_next (s_seq (s_set (d_callLP (by with_unfolding_all rfl) ?_)))
      refine d_cons (d_op (d_var (by with_unfolding_all rfl) ?_))
      refine d_c (by with_unfolding_all rfl) ?_
      refine r_ix (.inr (r_ixT (by with_unfolding_all rfl) ?_))
      refine d_nil ?_
      dsimp only
      refine ⟨_, _, rfl, ha, (s_seq (s_if (d_or (d_test (d_op (d_var (by with_unfolding_all rfl) ?_))))))⟩
      refine d_c (by with_unfolding_all rfl) ?_
      refine r_isN ⟨_, rfl, (br_f (by with_unfolding_all rfl) ?_)⟩
      refine d_test (d_op (d_cb (d_cons (d_var (by with_unfolding_all rfl) ?_))))
      refine d_nil (c_lenS (.inr rfl) (d_op (d_cb (d_cons (d_var (by with_unfolding_all rfl) ?_)))))
      refine d_nil (c_lenS (.inr rfl) (d_c (by with_unfolding_all rfl) ?_))
      refine r_I0 (by with_unfolding_all rfl) ?_
      refine r_neI ⟨_, rfl, (br_f (by with_unfolding_all rfl) ?_)⟩
      refine s_next (s_seq (s_set (d_c (by with_unfolding_all rfl) ?_)))
      refine s_seq (s_for (i_zipT (d_cons (d_var (by with_unfolding_all rfl) ?_))))
      refine d_cons (d_slT1 (d_var (by with_unfolding_all rfl) ?_))
      refine ⟨_, _, rfl, (d_nil ⟨_, _, rfl, ?_⟩)⟩
      ((with_reducible refine forW_id ?_); refine forW_pair ?_)
      ((with_reducible refine g_tid ?_); refine g_tup rfl ?_)
      refine gs_cons (g_name (gs_cons (g_name (gs_nil (s_if (d_test (d_op (d_var (by with_unfolding_all rfl) ?_))))))))
      refine d_c (by with_unfolding_all rfl) ?_
      refine r_eqS ⟨_, rfl, (br_f (by with_unfolding_all rfl) ?_)⟩
      refine s_if (d_not (d_tB (d_callLP (by with_unfolding_all rfl) ?_)))
      refine d_cons (d_var (by with_unfolding_all rfl) ?_)
      refine d_cons (d_var (by with_unfolding_all rfl) ?_)
      refine d_nil ?_
      dsimp only
      refine Or.inr (Or.inr (Or.inl ⟨_, rfl, ⟨_, rfl, (br_f (by assumption) ?_)⟩⟩))
      refine s_next ?_
      ((with_reducible refine forW_id ?_); refine forW_pair ?_)
      ((with_reducible refine g_tid ?_); refine g_tup rfl ?_)
      refine gs_cons (g_name (gs_cons (g_name (gs_nil (s_if (d_test (d_op (d_var (by with_unfolding_all rfl) ?_))))))))
      refine d_c (by with_unfolding_all rfl) ?_
      refine r_eqS ⟨_, rfl, (br_t (by with_unfolding_all rfl) ?_)⟩
      refine s_seq (s_set (d_call (d_cons (d_var (by with_unfolding_all rfl) ?_))))
      refine d_cons (d_var (by with_unfolding_all rfl) ?_)
      refine d_cons (d_var (by with_unfolding_all rfl) ?_)
      refine d_cons (d_op (d_var (by with_unfolding_all rfl) ?_))
      refine d_c (by with_unfolding_all rfl) ?_
      refine r_I0 (by with_unfolding_all rfl) ?_
      refine d_nil ?_
      dsimp only
      refine ⟨_, _, rfl, ox, (by omega), (by omega), (by omega), ?_⟩
      refine s_seq (s_if (d_test (d_op (d_var (by with_unfolding_all rfl) ?_))))
      refine d_c (by with_unfolding_all rfl) ?_
      refine r_eqI ⟨_, rfl, (br_f (by assumption) ?_)⟩
      refine s_next (s_aug (by with_unfolding_all rfl) ?_)
      refine d_var (by with_unfolding_all rfl) ?_
      refine ⟨_, rfl, ?_⟩
      ((with_reducible refine forW_id ?_); refine forW_pnil ?_)
      refine s_ret (d_var (by with_unfolding_all rfl) ?_)
      dsimp only
      rotate_left
      refine fin q ?_
      simp only [B.size]
      omega
    case call c x =>
      have ha : (("call" : Str), (["deed", "nest"] : List Str)) ∈ armsTab := by decide
      have hf : (!decide (c ∈ deedsS)) = false := by simp [hb.1]
      have ox := hb.2
      have zx := sz0 x
      refine s_seq (s_if (d_or (d_test (d_op (d_var (by with_unfolding_all rfl) ?_)))))
      refine d_c (by with_unfolding_all rfl) ?_
      refine r_I0 (by with_unfolding_all rfl) ?_
      refine ⟨_, rfl, (br_f (by assumption) ?_)⟩
      refine d_or (d_not (d_tB (d_cb (d_cons (d_var (by with_unfolding_all rfl) ?_)))))
      refine d_cons (d_c (by with_unfolding_all rfl) ?_)
      refine d_nil (c_tup (by with_unfolding_all rfl) ?_)
      refine ⟨_, rfl, (br_f (by with_unfolding_all rfl) ?_)⟩
      refine d_not (d_truth (d_var (by with_unfolding_all rfl) ?_))
      refine truOk_tup (br_f (by with_unfolding_all rfl) ?_)
      refine s_next (s_seq (s_set (d_callLP (by with_unfolding_all rfl) ?_)))
      refine d_cons (d_op (d_var (by with_unfolding_all rfl) ?_))
      refine d_c (by with_unfolding_all rfl) ?_
      refine r_ix (.inr (r_ixT (by with_unfolding_all rfl) ?_))
      refine d_nil ?_
      dsimp only
      refine ⟨_, _, rfl, ha, (s_seq (s_if (d_or (d_test (d_op (d_var (by with_unfolding_all rfl) ?_))))))⟩
      refine d_c (by with_unfolding_all rfl) ?_
      refine r_isN ⟨_, rfl, (br_f (by with_unfolding_all rfl) ?_)⟩
      refine d_test (d_op (d_cb (d_cons (d_var (by with_unfolding_all rfl) ?_))))
      refine d_nil (c_lenS (.inr rfl) (d_op (d_cb (d_cons (d_var (by with_unfolding_all rfl) ?_)))))
      refine d_nil (c_lenS (.inr rfl) (d_c (by with_unfolding_all rfl) ?_))
      refine r_I0 (by with_unfolding_all rfl) ?_
      refine r_neI ⟨_, rfl, (br_f (by with_unfolding_all rfl) ?_)⟩
      refine s_next (s_seq (s_set (d_c (by with_unfolding_all rfl) ?_)))
      refine s_seq (s_for (i_zipT (d_cons (d_var (by with_unfolding_all rfl) ?_))))
      refine d_cons (d_slT1 (d_var (by with_unfolding_all rfl) ?_))
      refine ⟨_, _, rfl, (d_nil ⟨_, _, rfl, ?_⟩)⟩
      ((with_reducible refine forW_id ?_); refine forW_pair ?_)
      ((with_reducible refine g_tid ?_); refine g_tup rfl ?_)
      refine gs_cons (g_name (gs_cons (g_name (gs_nil (s_if (d_test (d_op (d_var (by with_unfolding_all rfl) ?_))))))))
      refine d_c (by with_unfolding_all rfl) ?_
      refine r_eqS ⟨_, rfl, (br_f (by with_unfolding_all rfl) ?_)⟩
      refine s_if (d_not (d_tB (d_callLP (by with_unfolding_all rfl) ?_)))
      refine d_cons (d_var (by with_unfolding_all rfl) ?_)
      refine d_cons (d_var (by with_unfolding_all rfl) ?_)
      refine d_nil ?_
      dsimp only
      refine Or.inr (Or.inr (Or.inr ⟨_, rfl, ⟨_, rfl, (br_f (by assumption) ?_)⟩⟩))
      refine s_next ?_
      ((with_reducible refine forW_id ?_); refine forW_pair ?_)
      ((with_reducible refine g_tid ?_); refine g_tup rfl ?_)
      refine gs_cons (g_name (gs_cons (g_name (gs_nil (s_if (d_test (d_op (d_var (by with_unfolding_all rfl) ?_))))))))
      refine d_c (by with_unfolding_all rfl) ?_
      refine r_eqS ⟨_, rfl, (br_t (by with_unfolding_all rfl) ?_)⟩
      refine s_seq (s_set (d_call (d_cons (d_var (by with_unfolding_all rfl) ?_))))
      refine d_cons (d_var (by with_unfolding_all rfl) ?_)
      refine d_cons (d_var (by with_unfolding_all rfl) ?_)
      refine d_cons (d_op (d_var (by with_unfolding_all rfl) ?_))
      refine d_c (by with_unfolding_all rfl) ?_
      refine r_I0 (by with_unfolding_all rfl) ?_
      refine d_nil ?_
      dsimp only
      refine ⟨_, _, rfl, ox, (by omega), (by omega), (by omega), ?_⟩
      refine s_seq (s_if (d_test (d_op (d_var (by with_unfolding_all rfl) ?_))))
      refine d_c (by with_unfolding_all rfl) ?_
      refine r_eqI ⟨_, rfl, (br_f (by assumption) ?_)⟩
      refine s_next (s_aug (by with_unfolding_all rfl) ?_)
      refine d_var (by with_unfolding_all rfl) ?_
      refine ⟨_, rfl, ?_⟩
      ((with_reducible refine forW_id ?_); refine forW_pnil ?_)
      refine s_ret (d_var (by with_unfolding_all rfl) ?_)
      dsimp only
      rotate_left
      refine fin q ?_
      simp only [B.size]
      omega
    case op1 v x =>
      have ha : ∀ v ∈ w1S, (v, (["nest"] : List Str)) ∈ armsTab := by decide
      have ha := ha v hb.1
      have ox := hb.2
      have zx := sz0 x
      refine s_seq (s_if (d_or (d_test (d_op (d_var (by with_unfolding_all rfl) ?_)))))
      refine d_c (by with_unfolding_all rfl) ?_
      refine r_I0 (by with_unfolding_all rfl) ?_
      refine ⟨_, rfl, (br_f (by assumption) ?_)⟩
      refine d_or (d_not (d_tB (d_cb (d_cons (d_var (by with_unfolding_all rfl) ?_)))))
      refine d_cons (d_c (by with_unfolding_all rfl) ?_)
      refine d_nil (c_tup (by with_unfolding_all rfl) ?_)
      refine ⟨_, rfl, (br_f (by with_unfolding_all rfl) ?_)⟩
      refine d_not (d_truth (d_var (by with_unfolding_all rfl) ?_))
      refine truOk_tup (br_f (by with_unfolding_all rfl) ?_)
      refine s_next (s_seq (s_set (d_callLP (by with_unfolding_all rfl) ?_)))
      refine d_cons (d_op (d_var (by with_unfolding_all rfl) ?_))
      refine d_c (by with_unfolding_all rfl) ?_
      refine r_ix (.inr (r_ixT (by with_unfolding_all rfl) ?_))
      refine d_nil ?_
      dsimp only
      refine ⟨_, _, rfl, ha, (s_seq (s_if (d_or (d_test (d_op (d_var (by with_unfolding_all rfl) ?_))))))⟩
      refine d_c (by with_unfolding_all rfl) ?_
      refine r_isN ⟨_, rfl, (br_f (by with_unfolding_all rfl) ?_)⟩
      refine d_test (d_op (d_cb (d_cons (d_var (by with_unfolding_all rfl) ?_))))
      refine d_nil (c_lenS (.inr rfl) (d_op (d_cb (d_cons (d_var (by with_unfolding_all rfl) ?_)))))
      refine d_nil (c_lenS (.inr rfl) (d_c (by with_unfolding_all rfl) ?_))
      refine r_I0 (by with_unfolding_all rfl) ?_
      refine r_neI ⟨_, rfl, (br_f (by with_unfolding_all rfl) ?_)⟩
      refine s_next (s_seq (s_set (d_c (by with_unfolding_all rfl) ?_)))
      refine s_seq (s_for (i_zipT (d_cons (d_var (by with_unfolding_all rfl) ?_))))
      refine d_cons (d_slT1 (d_var (by with_unfolding_all rfl) ?_))
      refine ⟨_, _, rfl, (d_nil ⟨_, _, rfl, ?_⟩)⟩
      ((with_reducible refine forW_id ?_); refine forW_pair ?_)
      ((with_reducible refine g_tid ?_); refine g_tup rfl ?_)
      refine gs_cons (g_name (gs_cons (g_name (gs_nil (s_if (d_test (d_op (d_var (by with_unfolding_all rfl) ?_))))))))
      refine d_c (by with_unfolding_all rfl) ?_
      refine r_eqS ⟨_, rfl, (br_t (by with_unfolding_all rfl) ?_)⟩
      refine s_seq (s_set (d_call (d_cons (d_var (by with_unfolding_all rfl) ?_))))
      refine d_cons (d_var (by with_unfolding_all rfl) ?_)
      refine d_cons (d_var (by with_unfolding_all rfl) ?_)
      refine d_cons (d_op (d_var (by with_unfolding_all rfl) ?_))
      refine d_c (by with_unfolding_all rfl) ?_
      refine r_I0 (by with_unfolding_all rfl) ?_
      refine d_nil ?_
      dsimp only
      refine ⟨_, _, rfl, ox, (by omega), (by omega), (by omega), ?_⟩
      refine s_seq (s_if (d_test (d_op (d_var (by with_unfolding_all rfl) ?_))))
      refine d_c (by with_unfolding_all rfl) ?_
      refine r_eqI ⟨_, rfl, (br_f (by assumption) ?_)⟩
      refine s_next (s_aug (by with_unfolding_all rfl) ?_)
      refine d_var (by with_unfolding_all rfl) ?_
      refine ⟨_, rfl, ?_⟩
      ((with_reducible refine forW_id ?_); refine forW_pnil ?_)
      refine s_ret (d_var (by with_unfolding_all rfl) ?_)
      dsimp only
      rotate_left
      refine fin q ?_
      simp only [B.size]
      omega
    case op2 v x y =>
      have ha : ∀ v ∈ w2S, (v, (["nest", "nest"] : List Str)) ∈ armsTab := by decide
      have ha := ha v hb.1
      have ox := hb.2.1
      have oy := hb.2.2
      have zx := sz0 x
      have zy := sz0 y
      refine s_seq (s_if (d_or (d_test (d_op (d_var (by with_unfolding_all rfl) ?_)))))
      refine d_c (by with_unfolding_all rfl) ?_
      refine r_I0 (by with_unfolding_all rfl) ?_
      refine ⟨_, rfl, (br_f (by assumption) ?_)⟩
      refine d_or (d_not (d_tB (d_cb (d_cons (d_var (by with_unfolding_all rfl) ?_)))))
      refine d_cons (d_c (by with_unfolding_all rfl) ?_)
      refine d_nil (c_tup (by with_unfolding_all rfl) ?_)
      refine ⟨_, rfl, (br_f (by with_unfolding_all rfl) ?_)⟩
      refine d_not (d_truth (d_var (by with_unfolding_all rfl) ?_))
      refine truOk_tup (br_f (by with_unfolding_all rfl) ?_)
      refine s_next (s_seq (s_set (d_callLP (by with_unfolding_all rfl) ?_)))
      refine d_cons (d_op (d_var (by with_unfolding_all rfl) ?_))
      refine d_c (by with_unfolding_all rfl) ?_
      refine r_ix (.inr (r_ixT (by with_unfolding_all rfl) ?_))
      refine d_nil ?_
      dsimp only
      refine ⟨_, _, rfl, ha, (s_seq (s_if (d_or (d_test (d_op (d_var (by with_unfolding_all rfl) ?_))))))⟩
      refine d_c (by with_unfolding_all rfl) ?_
      refine r_isN ⟨_, rfl, (br_f (by with_unfolding_all rfl) ?_)⟩
      refine d_test (d_op (d_cb (d_cons (d_var (by with_unfolding_all rfl) ?_))))
      refine d_nil (c_lenS (.inr rfl) (d_op (d_cb (d_cons (d_var (by with_unfolding_all rfl) ?_)))))
      refine d_nil (c_lenS (.inr rfl) (d_c (by with_unfolding_all rfl) ?_))
      refine r_I0 (by with_unfolding_all rfl) ?_
      refine r_neI ⟨_, rfl, (br_f (by with_unfolding_all rfl) ?_)⟩
      refine s_next (s_seq (s_set (d_c (by with_unfolding_all rfl) ?_)))
      refine s_seq (s_for (i_zipT (d_cons (d_var (by with_unfolding_all rfl) ?_))))
      refine d_cons (d_slT1 (d_var (by with_unfolding_all rfl) ?_))
      refine ⟨_, _, rfl, (d_nil ⟨_, _, rfl, ?_⟩)⟩
      ((with_reducible refine forW_id ?_); refine forW_pair ?_)
      ((with_reducible refine g_tid ?_); refine g_tup rfl ?_)
      refine gs_cons (g_name (gs_cons (g_name (gs_nil (s_if (d_test (d_op (d_var (by with_unfolding_all rfl) ?_))))))))
      refine d_c (by with_unfolding_all rfl) ?_
      refine r_eqS ⟨_, rfl, (br_t (by with_unfolding_all rfl) ?_)⟩
      refine s_seq (s_set (d_call (d_cons (d_var (by with_unfolding_all rfl) ?_))))
      refine d_cons (d_var (by with_unfolding_all rfl) ?_)
      refine d_cons (d_var (by with_unfolding_all rfl) ?_)
      refine d_cons (d_op (d_var (by with_unfolding_all rfl) ?_))
      refine d_c (by with_unfolding_all rfl) ?_
      refine r_I0 (by with_unfolding_all rfl) ?_
      refine d_nil ?_
      dsimp only
      refine ⟨_, _, rfl, ox, (by omega), (by omega), (by omega), ?_⟩
      refine s_seq (s_if (d_test (d_op (d_var (by with_unfolding_all rfl) ?_))))
      refine d_c (by with_unfolding_all rfl) ?_
      refine r_eqI ⟨_, rfl, (br_f (by assumption) ?_)⟩
      refine s_next (s_aug (by with_unfolding_all rfl) ?_)
      refine d_var (by with_unfolding_all rfl) ?_
      refine ⟨_, rfl, ?_⟩
      ((with_reducible refine forW_id ?_); refine forW_pair ?_)
      ((with_reducible refine g_tid ?_); refine g_tup rfl ?_)
      refine gs_cons (g_name (gs_cons (g_name (gs_nil (s_if (d_test (d_op (d_var (by with_unfolding_all rfl) ?_))))))))
      refine d_c (by with_unfolding_all rfl) ?_
      refine r_eqS ⟨_, rfl, (br_t (by with_unfolding_all rfl) ?_)⟩
      refine s_seq (s_set (d_call (d_cons (d_var (by with_unfolding_all rfl) ?_))))
      refine d_cons (d_var (by with_unfolding_all rfl) ?_)
      refine d_cons (d_var (by with_unfolding_all rfl) ?_)
      refine d_cons (d_op (d_var (by with_unfolding_all rfl) ?_))
      refine d_c (by with_unfolding_all rfl) ?_
      refine r_I0 (by with_unfolding_all rfl) ?_
      refine d_nil ?_
      dsimp only
      refine ⟨_, _, rfl, oy, (by omega), (by omega), (by omega), ?_⟩
      refine s_seq (s_if (d_test (d_op (d_var (by with_unfolding_all rfl) ?_))))
      refine d_c (by with_unfolding_all rfl) ?_
      refine r_eqI ⟨_, rfl, (br_f (by assumption) ?_)⟩
      refine s_next (s_aug (by with_unfolding_all rfl) ?_)
      refine d_var (by with_unfolding_all rfl) ?_
      refine ⟨_, rfl, ?_⟩
      ((with_reducible refine forW_id ?_); refine forW_pnil ?_)
      refine s_ret (d_var (by with_unfolding_all rfl) ?_)
      dsimp only
      rotate_left
      refine fin q ?_
      simp only [B.size]
      omega
    case ite x y z =>
      have ha : (("if" : Str), (["nest", "nest", "nest"] : List Str)) ∈ armsTab := by decide
      have ox := hb.1
      have oy := hb.2.1
      have oz := hb.2.2
      have zx := sz0 x
      have zy := sz0 y
      have zz := sz0 z
      refine s_seq (s_if (d_or (d_test (d_op (d_var (by with_unfolding_all rfl) ?_)))))
      refine d_c (by with_unfolding_all rfl) ?_
      refine r_I0 (by with_unfolding_all rfl) ?_
      refine ⟨_, rfl, (br_f (by assumption) ?_)⟩
      refine d_or (d_not (d_tB (d_cb (d_cons (d_var (by with_unfolding_all rfl) ?_)))))
      refine d_cons (d_c (by with_unfolding_all rfl) ?_)
      refine d_nil (c_tup (by with_unfolding_all rfl) ?_)
      refine ⟨_, rfl, (br_f (by with_unfolding_all rfl) ?_)⟩
      refine d_not (d_truth (d_var (by with_unfolding_all rfl) ?_))
      refine truOk_tup (br_f (by with_unfolding_all rfl) ?_)
      refine s_next (s_seq (s_set (d_callLP (by with_unfolding_all rfl) ?_)))
      refine d_cons (d_op (d_var (by with_unfolding_all rfl) ?_))
      refine d_c (by with_unfolding_all rfl) ?_
      refine r_ix (.inr (r_ixT (by with_unfolding_all rfl) ?_))
      refine d_nil ?_
      dsimp only
      refine ⟨_, _, rfl, ha, (s_seq (s_if (d_or (d_test (d_op (d_var (by with_unfolding_all rfl) ?_))))))⟩
      refine d_c (by with_unfolding_all rfl) ?_
      refine r_isN ⟨_, rfl, (br_f (by with_unfolding_all rfl) ?_)⟩
      refine d_test (d_op (d_cb (d_cons (d_var (by with_unfolding_all rfl) ?_))))
      refine d_nil (c_lenS (.inr rfl) (d_op (d_cb (d_cons (d_var (by with_unfolding_all rfl) ?_)))))
      refine d_nil (c_lenS (.inr rfl) (d_c (by with_unfolding_all rfl) ?_))
      refine r_I0 (by with_unfolding_all rfl) ?_
      refine r_neI ⟨_, rfl, (br_f (by with_unfolding_all rfl) ?_)⟩
      refine s_next (s_seq (s_set (d_c (by with_unfolding_all rfl) ?_)))
      refine s_seq (s_for (i_zipT (d_cons (d_var (by with_unfolding_all rfl) ?_))))
      refine d_cons (d_slT1 (d_var (by with_unfolding_all rfl) ?_))
      refine ⟨_, _, rfl, (d_nil ⟨_, _, rfl, ?_⟩)⟩
      ((with_reducible refine forW_id ?_); refine forW_pair ?_)
      ((with_reducible refine g_tid ?_); refine g_tup rfl ?_)
      refine gs_cons (g_name (gs_cons (g_name (gs_nil (s_if (d_test (d_op (d_var (by with_unfolding_all rfl) ?_))))))))
      refine d_c (by with_unfolding_all rfl) ?_
      refine r_eqS ⟨_, rfl, (br_t (by with_unfolding_all rfl) ?_)⟩
      refine s_seq (s_set (d_call (d_cons (d_var (by with_unfolding_all rfl) ?_))))
      refine d_cons (d_var (by with_unfolding_all rfl) ?_)
      refine d_cons (d_var (by with_unfolding_all rfl) ?_)
      refine d_cons (d_op (d_var (by with_unfolding_all rfl) ?_))
      refine d_c (by with_unfolding_all rfl) ?_
      refine r_I0 (by with_unfolding_all rfl) ?_
      refine d_nil ?_
      dsimp only
      refine ⟨_, _, rfl, ox, (by omega), (by omega), (by omega), ?_⟩
      refine s_seq (s_if (d_test (d_op (d_var (by with_unfolding_all rfl) ?_))))
      refine d_c (by with_unfolding_all rfl) ?_
      refine r_eqI ⟨_, rfl, (br_f (by assumption) ?_)⟩
      refine s_next (s_aug (by with_unfolding_all rfl) ?_)
      refine d_var (by with_unfolding_all rfl) ?_
      refine ⟨_, rfl, ?_⟩
      ((with_reducible refine forW_id ?_); refine forW_pair ?_)
      ((with_reducible refine g_tid ?_); refine g_tup rfl ?_)
      refine gs_cons (g_name (gs_cons (g_name (gs_nil (s_if (d_test (d_op (d_var (by with_unfolding_all rfl) ?_))))))))
      refine d_c (by with_unfolding_all rfl) ?_
      refine r_eqS ⟨_, rfl, (br_t (by with_unfolding_all rfl) ?_)⟩
      refine s_seq (s_set (d_call (d_cons (d_var (by with_unfolding_all rfl) ?_))))
      refine d_cons (d_var (by with_unfolding_all rfl) ?_)
      refine d_cons (d_var (by with_unfolding_all rfl) ?_)
      refine d_cons (d_op (d_var (by with_unfolding_all rfl) ?_))
      refine d_c (by with_unfolding_all rfl) ?_
      refine r_I0 (by with_unfolding_all rfl) ?_
      refine d_nil ?_
      dsimp only
      refine ⟨_, _, rfl, oy, (by omega), (by omega), (by omega), ?_⟩
      refine s_seq (s_if (d_test (d_op (d_var (by with_unfolding_all rfl) ?_))))
      refine d_c (by with_unfolding_all rfl) ?_
      refine r_eqI ⟨_, rfl, (br_f (by assumption) ?_)⟩
      refine s_next (s_aug (by with_unfolding_all rfl) ?_)
      refine d_var (by with_unfolding_all rfl) ?_
      refine ⟨_, rfl, ?_⟩
      ((with_reducible refine forW_id ?_); refine forW_pair ?_)
      ((with_reducible refine g_tid ?_); refine g_tup rfl ?_)
      refine gs_cons (g_name (gs_cons (g_name (gs_nil (s_if (d_test (d_op (d_var (by with_unfolding_all rfl) ?_))))))))
      refine d_c (by with_unfolding_all rfl) ?_
      refine r_eqS ⟨_, rfl, (br_t (by with_unfolding_all rfl) ?_)⟩
      refine s_seq (s_set (d_call (d_cons (d_var (by with_unfolding_all rfl) ?_))))
      refine d_cons (d_var (by with_unfolding_all rfl) ?_)
      refine d_cons (d_var (by with_unfolding_all rfl) ?_)
      refine d_cons (d_op (d_var (by with_unfolding_all rfl) ?_))
      refine d_c (by with_unfolding_all rfl) ?_
      refine r_I0 (by with_unfolding_all rfl) ?_
      refine d_nil ?_
      dsimp only
      refine ⟨_, _, rfl, oz, (by omega), (by omega), (by omega), ?_⟩
      refine s_seq (s_if (d_test (d_op (d_var (by with_unfolding_all rfl) ?_))))
      refine d_c (by with_unfolding_all rfl) ?_
      refine r_eqI ⟨_, rfl, (br_f (by assumption) ?_)⟩
      refine s_next (s_aug (by with_unfolding_all rfl) ?_)
      refine d_var (by with_unfolding_all rfl) ?_
      refine ⟨_, rfl, ?_⟩
      ((with_reducible refine forW_id ?_); refine forW_pnil ?_)
      refine s_ret (d_var (by with_unfolding_all rfl) ?_)
      dsimp only
      rotate_left
      refine fin q ?_
      simp only [B.size]
      omega
end
end Pr
set_option Elab.async false
set_option linter.all false
set_option maxRecDepth 100000
set_option maxHeartbeats 1000000
namespace Pr
open PySem L2 PD
section
variable {P : Program} {w : World} {K : PySem.W.Frag} {mg : Str → Option Value} {base : Heap}
def M_is_body : List D → (D → Prop) → Prop := fun ds k => ∃ b : B, ds = [b.toD] ∧ b.ok ∧ b.depth ≤ 10 ∧ b.size ≤ 60 ∧ k (.bl true)
theorem ok_is_body (T : Txt w K mg) : Cal P w K mg base 14 "is_body" ["body"] none M_is_body := by
  obtain ⟨fa, fda, Ca⟩ := ok_body_arms (P := P) (base := base) T
  obtain ⟨ff, fdf, Cf⟩ := ok_fits_body (P := P) (base := base) T
  have C_size_of := ok_size (P := P) (base := base) T Ca Cf 10
  refine okF T.f_is_body sc_is_body (fun _ _ _ _ _ _ us hl => match us, hl with | [_], _ => rfl) (fun ds k h => ?_) (fun f cdv A outer s H E ds kk hr h => ?_)
  · obtain ⟨_, rfl, _⟩ := h
    rfl
  obtain ⟨b, rfl, hb, hd, hz, q⟩ := h
  obtain ⟨tw, gW⟩ := T.WORDS
  have ga := Ca.at_
  have gf := Cf.at_
  refine ⟨_, (pss_one (ps_ret (pe_chain op_le op_le pe_int (pe_calD C_size_of (hr.mono (by first | decide | omega)) rfl (pa_cons (pv 0) (pa_cons (pe_gref rfl ga) (pa_cons (pe_gref rfl gf) pa_nil)))) (pe_gint rfl gW)))), ?_⟩
  try dsimp only [cxOf]
  change dS _ _ _ [Sl.d _] _
  have h1 : decide ((1 : Int) ≤ (b.size : Int)) = true := decide_eq_true (by have := size_pos b; omega)
  have h2 : decide ((b.size : Int) ≤ (60 : Int)) = true := decide_eq_true (by omega)
  refine s_ret (d_chain (d_c (by with_unfolding_all rfl) ?_))
  refine d_callV (fun _ => RelL.cons Rel.int RelL.nil) (d_cons (d_var (by with_unfolding_all rfl) ?_))
  refine d_cons (d_c (by with_unfolding_all rfl) ?_)
  refine d_cons (d_c (by with_unfolding_all rfl) ?_)
  refine d_nil ?_
  dsimp only
  refine ⟨_, _, rfl, hb, (by omega), (by omega), (by omega), ?_⟩
  refine r_I0 (by with_unfolding_all rfl) ?_
  refine ⟨_, rfl, (br_t (by assumption) ?_)⟩
  refine d_c (by with_unfolding_all rfl) ?_
  refine r_I0 (by with_unfolding_all rfl) ?_
  rotate_left
  rw [h2]
  exact q
def M_bodies_in : List D → (D → Prop) → Prop := fun ds k => ∃ b : B, ds = [b.toD] ∧ k (.lst (b.arms.map B.toD))
theorem ok_bodies_in (T : Txt w K mg) : Cal P w K mg base 1 "bodies_in" ["body"] none M_bodies_in := by
  refine okF T.f_bodies_in sc_bodies_in (fun _ _ _ _ _ _ us hl => match us, hl with | [_], _ => rfl) (fun ds k h => ?_) (fun f cdv A outer s H E ds kk hr h => ?_)
  · obtain ⟨_, rfl, _⟩ := h
    rfl
  obtain ⟨b, rfl, q⟩ := h
  refine ⟨_, (pss_one (ps_ret (pe_lc (own := [("arm", 1)]) (g := gName 1) rfl sc_bodies_in.nd (pi_tup (pe_slice (r := rSlA K) sl_tupA (pv 0) (po_some pe_int) po_none)) (blkOk_by (own := [("arm", 1)]) (N := N_bodies_in) (sc := defScope s_bodies_in) (by decide +kernel)) (fun _ _ _ _ _ => (pg_name (i := 1) sc_bodies_in.nd rfl (by first | exact Or.inl rfl | exact Or.inr rfl))) (fun _ _ _ _ _ => (pts_one (pt_val (pe_callB (r := rIsi K) (id := "isinstance")  call_isi (by rfl) T.z_isinstance (by decide +kernel) (pa_cons (pv 1) (pa_cons (pe_bty (n := "tuple") rfl T.z_tuple (by decide +kernel)) pa_nil)))))) (fun _ _ _ _ _ => (pv 1))))), ?_⟩
  try dsimp only [cxOf]
  change dS _ _ _ [Sl.d _, Sl.un] _
  have tg : ∀ x : B, tgD x.toD = some .tup := fun x => by cases x <;> rfl
  cases b <;> dsimp only [B.toD]
  refine s_ret (d_lc (i_tup (d_slT1 (d_var (by with_unfolding_all rfl) ?_))))
  refine ⟨_, _, rfl, ⟨_, rfl, ?_⟩⟩
  dsimp only
  (refine ⟨(show _ ≤ 50000 by simp), ?_⟩)
  refine lcW_cons (g_nameV (by decide) ?_)
  refine d_tB (d_cb (d_cons (d_var (by with_unfolding_all rfl) ?_)))
  refine d_cons (d_c (by with_unfolding_all rfl) ?_)
  refine d_nil (c_tup (by with_unfolding_all rfl) ?_)
  refine ⟨_, rfl, (br_f (by with_unfolding_all rfl) ?_)⟩
  refine lcW_nil ?_
  rotate_left
  refine s_ret (d_lc (i_tup (d_slT1 (d_var (by with_unfolding_all rfl) ?_))))
  refine ⟨_, _, rfl, ⟨_, rfl, ?_⟩⟩
  dsimp only
  (refine ⟨(show _ ≤ 50000 by simp), ?_⟩)
  refine lcW_cons (g_nameV (by decide) ?_)
  refine d_tB (d_cb (d_cons (d_var (by with_unfolding_all rfl) ?_)))
  refine d_cons (d_c (by with_unfolding_all rfl) ?_)
  refine d_nil (c_tup (by with_unfolding_all rfl) ?_)
  refine ⟨_, rfl, (br_f (by with_unfolding_all rfl) ?_)⟩
  refine lcW_nil ?_
  rotate_left
  refine s_ret (d_lc (i_tup (d_slT1 (d_var (by with_unfolding_all rfl) ?_))))
  refine ⟨_, _, rfl, ⟨_, rfl, ?_⟩⟩
  dsimp only
  (refine ⟨(show _ ≤ 50000 by simp), ?_⟩)
  refine lcW_nil ?_
  rotate_left
  refine s_ret (d_lc (i_tup (d_slT1 (d_var (by with_unfolding_all rfl) ?_))))
  refine ⟨_, _, rfl, ⟨_, rfl, ?_⟩⟩
  dsimp only
  (refine ⟨(show _ ≤ 50000 by simp), ?_⟩)
  refine lcW_nil ?_
  rotate_left
  refine s_ret (d_lc (i_tup (d_slT1 (d_var (by with_unfolding_all rfl) ?_))))
  refine ⟨_, _, rfl, ⟨_, rfl, ?_⟩⟩
  dsimp only
  (refine ⟨(show _ ≤ 50000 by simp), ?_⟩)
  refine lcW_cons (g_nameV (by decide) ?_)
  refine d_tB (d_cb (d_cons (d_var (by with_unfolding_all rfl) ?_)))
  refine d_cons (d_c (by with_unfolding_all rfl) ?_)
  refine d_nil (c_tup (by with_unfolding_all rfl) ?_)
  refine ⟨_, rfl, (br_f (by with_unfolding_all rfl) ?_)⟩
  refine lcW_nil ?_
  rotate_left
  refine s_ret (d_lc (i_tup (d_slT1 (d_var (by with_unfolding_all rfl) ?_))))
  refine ⟨_, _, rfl, ⟨_, rfl, ?_⟩⟩
  dsimp only
  (refine ⟨(show _ ≤ 50000 by simp), ?_⟩)
  refine lcW_cons (g_nameV (by decide) ?_)
  refine d_tB (d_cb (d_cons (d_var (by with_unfolding_all rfl) ?_)))
  refine d_cons (d_c (by with_unfolding_all rfl) ?_)
  refine d_nil (c_tup (by with_unfolding_all rfl) ?_)
  refine ⟨_, rfl, (br_f (by with_unfolding_all rfl) ?_)⟩
  refine lcW_cons (g_nameV (by decide) ?_)
  refine d_tB (d_cb (d_cons (d_var (by with_unfolding_all rfl) ?_)))
  refine d_cons (d_c (by with_unfolding_all rfl) ?_)
  refine d_nil ?_
  refine c_tup (tg _) ⟨_, rfl, (br_t (by with_unfolding_all rfl) ?_)⟩
  refine d_var (by with_unfolding_all rfl) ?_
  refine lcW_nil ?_
  rotate_left
  refine s_ret (d_lc (i_tup (d_slT1 (d_var (by with_unfolding_all rfl) ?_))))
  refine ⟨_, _, rfl, ⟨_, rfl, ?_⟩⟩
  dsimp only
  (refine ⟨(show _ ≤ 50000 by simp), ?_⟩)
  refine lcW_cons (g_nameV (by decide) ?_)
  refine d_tB (d_cb (d_cons (d_var (by with_unfolding_all rfl) ?_)))
  refine d_cons (d_c (by with_unfolding_all rfl) ?_)
  refine d_nil (c_tup (by with_unfolding_all rfl) ?_)
  refine ⟨_, rfl, (br_f (by with_unfolding_all rfl) ?_)⟩
  refine lcW_cons (g_nameV (by decide) ?_)
  refine d_tB (d_cb (d_cons (d_var (by with_unfolding_all rfl) ?_)))
  refine d_cons (d_c (by with_unfolding_all rfl) ?_)
  refine d_nil ?_
  refine c_tup (tg _) ⟨_, rfl, (br_t (by with_unfolding_all rfl) ?_)⟩
  refine d_var (by with_unfolding_all rfl) ?_
  refine lcW_nil ?_
  rotate_left
  refine s_ret (d_lc (i_tup (d_slT1 (d_var (by with_unfolding_all rfl) ?_))))
  refine ⟨_, _, rfl, ⟨_, rfl, ?_⟩⟩
  dsimp only
  (refine ⟨(show _ ≤ 50000 by simp), ?_⟩)
  refine lcW_cons (g_nameV (by decide) ?_)
  refine d_tB (d_cb (d_cons (d_var (by with_unfolding_all rfl) ?_)))
  refine d_cons (d_c (by with_unfolding_all rfl) ?_)
  refine d_nil ?_
  refine c_tup (tg _) ⟨_, rfl, (br_t (by with_unfolding_all rfl) ?_)⟩
  refine d_var (by with_unfolding_all rfl) ?_
  refine lcW_nil ?_
  rotate_left
  refine s_ret (d_lc (i_tup (d_slT1 (d_var (by with_unfolding_all rfl) ?_))))
  refine ⟨_, _, rfl, ⟨_, rfl, ?_⟩⟩
  dsimp only
  (refine ⟨(show _ ≤ 50000 by simp), ?_⟩)
  refine lcW_cons (g_nameV (by decide) ?_)
  refine d_tB (d_cb (d_cons (d_var (by with_unfolding_all rfl) ?_)))
  refine d_cons (d_c (by with_unfolding_all rfl) ?_)
  refine d_nil ?_
  refine c_tup (tg _) ⟨_, rfl, (br_t (by with_unfolding_all rfl) ?_)⟩
  refine d_var (by with_unfolding_all rfl) ?_
  refine lcW_cons (g_nameV (by decide) ?_)
  refine d_tB (d_cb (d_cons (d_var (by with_unfolding_all rfl) ?_)))
  refine d_cons (d_c (by with_unfolding_all rfl) ?_)
  refine d_nil ?_
  refine c_tup (tg _) ⟨_, rfl, (br_t (by with_unfolding_all rfl) ?_)⟩
  refine d_var (by with_unfolding_all rfl) ?_
  refine lcW_nil ?_
  rotate_left
  refine s_ret (d_lc (i_tup (d_slT1 (d_var (by with_unfolding_all rfl) ?_))))
  refine ⟨_, _, rfl, ⟨_, rfl, ?_⟩⟩
  dsimp only
  (refine ⟨(show _ ≤ 50000 by simp), ?_⟩)
  refine lcW_cons (g_nameV (by decide) ?_)
  refine d_tB (d_cb (d_cons (d_var (by with_unfolding_all rfl) ?_)))
  refine d_cons (d_c (by with_unfolding_all rfl) ?_)
  refine d_nil ?_
  refine c_tup (tg _) ⟨_, rfl, (br_t (by with_unfolding_all rfl) ?_)⟩
  refine d_var (by with_unfolding_all rfl) ?_
  refine lcW_cons (g_nameV (by decide) ?_)
  refine d_tB (d_cb (d_cons (d_var (by with_unfolding_all rfl) ?_)))
  refine d_cons (d_c (by with_unfolding_all rfl) ?_)
  refine d_nil ?_
  refine c_tup (tg _) ⟨_, rfl, (br_t (by with_unfolding_all rfl) ?_)⟩
  refine d_var (by with_unfolding_all rfl) ?_
  refine lcW_cons (g_nameV (by decide) ?_)
  refine d_tB (d_cb (d_cons (d_var (by with_unfolding_all rfl) ?_)))
  refine d_cons (d_c (by with_unfolding_all rfl) ?_)
  refine d_nil ?_
  refine c_tup (tg _) ⟨_, rfl, (br_t (by with_unfolding_all rfl) ?_)⟩
  refine d_var (by with_unfolding_all rfl) ?_
  refine lcW_nil ?_
  rotate_left
  all_goals exact q
end
end Pr
set_option Elab.async false
set_option linter.all false
set_option maxRecDepth 100000
set_option maxHeartbeats 1000000
namespace Pr
open PySem L2 PD
def lookS {α : Type} (l : List (Str × α)) (s : Str) : Option α := (l.find? fun p => decide (p.1 = s)).map (·.2)
/-- a word's kind by its arms' kinds -/
def byArms (v : Str) (ks : List Str) : Option Str := match lookS fixTab v with
  | some (as, t) => if ks = as then some t else none
  | none => if v = "same" then (if ks[0]? = ks[1]? then some ("truth" : Str) else none) else if v = "if" then (if ks[0]? = some ("truth" : Str) ∧ ks[1]? = ks[2]? then ks[1]? else none) else ks[1]?
section
variable {P : Program} {w : World} {K : PySem.W.Frag} {mg : Str → Option Value} {base : Heap}
theorem kindsOk : ∀ s ∈ kindsS, PyData.strOk s = true := by decide +kernel
def M_by_arms : List D → (D → Prop) → Prop := fun ds k => ∃ (v : Str) (ks : List Str), ds = [.str v, .lst (strsOf ks)] ∧ (∀ s ∈ ks, s ∈ kindsS) ∧ ((v ∈ fixTab.map (·.1)) ∨ (v = "same" ∧ ks.length = 2) ∨ (v = "if" ∧ ks.length = 3) ∨ (v = "then" ∧ ks.length = 2)) ∧ k (optD (byArms v ks))
theorem fix_look : ∀ v ∈ fixTab.map (·.1), ∃ as t, lookS fixTab v = some (as, t) ∧ (v, as, t) ∈ fixTab ∧ ∀ s ∈ as, s ∈ kindsS := by
  intro v h
  simp only [fixTab, List.map_cons, List.map_nil, List.mem_cons, List.not_mem_nil, or_false] at h
  rcases h with rfl | rfl | rfl | rfl | rfl | rfl | rfl | rfl | rfl | rfl | rfl | rfl | rfl <;> exact ⟨_, _, rfl, by decide +kernel, by decide +kernel⟩
theorem ok_by_arms (T : Txt w K mg) : Cal P w K mg base 1 "kind_by_arms" ["word", "kinds"] none M_by_arms := by
  refine okF T.f_kind_by_arms sc_kind_by_arms (fun _ _ _ _ _ _ us hl => match us, hl with | [_, _], _ => rfl) (fun ds k h => ?_) (fun f cdv A outer s H E ds kk hr h => ?_)
  · obtain ⟨_, _, rfl, _⟩ := h
    rfl
  obtain ⟨v, ks, rfl, hk, hv, q⟩ := h
  obtain ⟨aF, es, n, gF, kdF, hF⟩ := T.FIXED.ex
  have nF := T.NOFIX.no aF gF
  refine ⟨_, (pss_cons (ps_if (pt_cmpR (op_in_kd kdF) (pv 0) (pe_gref rfl gF) rfl) (pss_cons (ps_asg (pe_ix ix_kdict (pe_gref rfl gF) (pv 0) (fun _ _ => rfl)) (pg_tupK (K := K) (n := 2) rfl rfl (pgs_cons (pg_name (i := 2) sc_kind_by_arms.nd rfl (by first | exact Or.inl rfl | exact Or.inr rfl)) (pgs_cons (pg_name (i := 3) sc_kind_by_arms.nd rfl (by first | exact Or.inl rfl | exact Or.inr rfl)) pgs_nil))))
      (pss_one (ps_ret (pe_ifExp (pt_cmpR (r := rEqD K) (op_eqD hr.units) (pe_callTy (r := rTupQ K) (T := "tuple") call_tuple_of (by rfl) T.z_tuple (by decide +kernel) (pa_cons (pv 1) pa_nil)) (pv 2) (nomark _)) (pv 3) pe_non)))) pss_nil)
      (pss_cons (ps_if (pt_cmpR op_eq (pv 0) pe_str (nomark _)) (pss_one (ps_ret (pe_ifExp (pt_cmpR op_eq (pe_ix (r := rIx K) ix_seq (pv 1) pe_int (fun _ _ => rfl)) (pe_ix (r := rIx K) ix_seq (pv 1) pe_int (fun _ _ => rfl)) (nomark _)) pe_str pe_non))) pss_nil)
      (pss_cons (ps_if (pt_cmpR op_eq (pv 0) pe_str (nomark _)) (pss_one (ps_ret (pe_ifExp (PW.pt (pw_and (pt_cmpR op_eq (pe_ix (r := rIx K) ix_seq (pv 1) pe_int (fun _ _ => rfl)) pe_str (nomark _)) (pw_and1 (pt_cmpR op_eq (pe_ix (r := rIx K) ix_seq (pv 1) pe_int (fun _ _ => rfl)) (pe_ix (r := rIx K) ix_seq (pv 1) pe_int (fun _ _ => rfl)) (nomark _))))) (pe_ix (r := rIx K) ix_seq (pv 1) pe_int (fun _ _ => rfl)) pe_non))) pss_nil)
      (pss_one (ps_ret (pe_ix (r := rIx K) ix_seq (pv 1) pe_int (fun _ _ => rfl))))))), ?_⟩
  try dsimp only [cxOf]
  change dS _ _ _ [Sl.d _, Sl.d _, Sl.un, Sl.un] _
  have lk : ∀ s ∈ ks, PyData.strOk s = true := fun s h => kindsOk s (hk s h)
  rcases hv with hv | ⟨rfl, hl⟩ | ⟨rfl, hl⟩ | ⟨rfl, hl⟩
  · obtain ⟨as, t, e, hm, ha⟩ := fix_look v hv
    have la : ∀ s ∈ as, PyData.strOk s = true := fun s h => kindsOk s (ha s h)
    have kh : KHas K aF v (some (.tup [.tup (strsOf as), .str t])) := hF _ (List.mem_map.mpr ⟨_, hm, rfl⟩)
    unfold byArms at q
    rw [e] at q
    refine s_seq (s_if (d_test (d_op (d_var (by with_unfolding_all rfl) ?_))))
    refine d_c (by with_unfolding_all rfl) ?_
    dsimp only
    refine r_inK kh ⟨_, rfl, (br_t (by with_unfolding_all rfl) ?_)⟩
    refine s_seq (s_asg (d_op (d_c (by with_unfolding_all rfl) ?_)))
    refine d_var (by with_unfolding_all rfl) ?_
    dsimp only
    refine r_ixK kdF kh ?_
    ((with_reducible refine g_tid ?_); refine g_tup rfl ?_)
    refine gs_cons (g_name (gs_cons (g_name (gs_nil (s_ret (d_ifE (d_test (d_op (d_cb (d_cons (d_var (by with_unfolding_all rfl) ?_)))))))))))
    refine d_nil ?_
    dsimp only
    refine c_tuple (.inl rfl) (d_var (by with_unfolding_all rfl) ?_)
    refine r_eqT lk la ⟨_, rfl, ⟨fun _ => (d_var (by with_unfolding_all rfl) ?_), fun _ => (d_c (by with_unfolding_all rfl) ?_)⟩⟩
    rotate_left
    rotate_left
    all_goals (show kk _; simp_all [optD])
  · obtain ⟨x, y, rfl⟩ : ∃ x y, ks = [x, y] := match ks, hl with | [x, y], _ => ⟨x, y, rfl⟩
    have kh := nF "same" (by decide)
    by_cases hxy : x = y
    · have e : byArms "same" [x, y] = some ("truth" : Str) := by
        show (if some x = some y then _ else _) = _
        rw [if_pos (by rw [hxy])]
      rw [e] at q
      have hd := decide_eq_true hxy
      refine s_seq (s_if (d_test (d_op (d_var (by with_unfolding_all rfl) ?_))))
      refine d_c (by with_unfolding_all rfl) ?_
      dsimp only
      refine r_inK kh ⟨_, rfl, (br_f (by with_unfolding_all rfl) ?_)⟩
      refine s_next (s_seq (s_if (d_test (d_op (d_var (by with_unfolding_all rfl) ?_)))))
      refine d_c (by with_unfolding_all rfl) ?_
      refine r_eqS ⟨_, rfl, (br_t (by with_unfolding_all rfl) ?_)⟩
      refine s_ret (d_ifE (d_test (d_op (d_op (d_var (by with_unfolding_all rfl) ?_)))))
      refine d_c (by with_unfolding_all rfl) ?_
      refine r_ix (.inl (r_ixL (by with_unfolding_all rfl) ?_))
      refine d_op (d_var (by with_unfolding_all rfl) ?_)
      refine d_c (by with_unfolding_all rfl) ?_
      refine r_ix (.inl (r_ixL (by with_unfolding_all rfl) ?_))
      refine r_eqS ⟨_, rfl, (br_t (by assumption) ?_)⟩
      refine d_c (by with_unfolding_all rfl) ?_
      dsimp only
      rotate_left
      exact q
    · have e : byArms "same" [x, y] = none := by
        show (if some x = some y then _ else _) = _
        rw [if_neg (fun h => hxy (Option.some.inj h))]
      rw [e] at q
      have hd := decide_eq_false hxy
      refine s_seq (s_if (d_test (d_op (d_var (by with_unfolding_all rfl) ?_))))
      refine d_c (by with_unfolding_all rfl) ?_
      dsimp only
      refine r_inK kh ⟨_, rfl, (br_f (by with_unfolding_all rfl) ?_)⟩
      refine s_next (s_seq (s_if (d_test (d_op (d_var (by with_unfolding_all rfl) ?_)))))
      refine d_c (by with_unfolding_all rfl) ?_
      refine r_eqS ⟨_, rfl, (br_t (by with_unfolding_all rfl) ?_)⟩
      refine s_ret (d_ifE (d_test (d_op (d_op (d_var (by with_unfolding_all rfl) ?_)))))
      refine d_c (by with_unfolding_all rfl) ?_
      refine r_ix (.inl (r_ixL (by with_unfolding_all rfl) ?_))
      refine d_op (d_var (by with_unfolding_all rfl) ?_)
      refine d_c (by with_unfolding_all rfl) ?_
      refine r_ix (.inl (r_ixL (by with_unfolding_all rfl) ?_))
      refine r_eqS ⟨_, rfl, (br_f (by assumption) ?_)⟩
      refine d_c (by with_unfolding_all rfl) ?_
      dsimp only
      rotate_left
      exact q
  · obtain ⟨x, y, z, rfl⟩ : ∃ x y z, ks = [x, y, z] := match ks, hl with | [x, y, z], _ => ⟨x, y, z, rfl⟩
    have kh := nF "if" (by decide)
    by_cases hx : x = "truth"
    · by_cases hyz : y = z
      · have e : byArms "if" [x, y, z] = some y := by
          show (if some x = some _ ∧ some y = some z then _ else _) = _
          rw [if_pos ⟨by rw [hx], by rw [hyz]⟩] <;> rfl
        rw [e] at q
        have hd1 := decide_eq_true hx
        have hd2 := decide_eq_true hyz
        refine s_seq (s_if (d_test (d_op (d_var (by with_unfolding_all rfl) ?_))))
        refine d_c (by with_unfolding_all rfl) ?_
        dsimp only
        refine r_inK kh ⟨_, rfl, (br_f (by with_unfolding_all rfl) ?_)⟩
        refine s_next (s_seq (s_if (d_test (d_op (d_var (by with_unfolding_all rfl) ?_)))))
        refine d_c (by with_unfolding_all rfl) ?_
        refine r_eqS ⟨_, rfl, (br_f (by with_unfolding_all rfl) ?_)⟩
        refine s_next (s_seq (s_if (d_test (d_op (d_var (by with_unfolding_all rfl) ?_)))))
        refine d_c (by with_unfolding_all rfl) ?_
        refine r_eqS ⟨_, rfl, (br_t (by with_unfolding_all rfl) ?_)⟩
        refine s_ret (d_ifE (d_and (d_test (d_op (d_op (d_var (by with_unfolding_all rfl) ?_))))))
        refine d_c (by with_unfolding_all rfl) ?_
        refine r_ix (.inl (r_ixL (by with_unfolding_all rfl) ?_))
        refine d_c (by with_unfolding_all rfl) ?_
        refine r_eqS ⟨_, rfl, (br_t (by assumption) ?_)⟩
        refine d_test (d_op (d_op (d_var (by with_unfolding_all rfl) ?_)))
        refine d_c (by with_unfolding_all rfl) ?_
        refine r_ix (.inl (r_ixL (by with_unfolding_all rfl) ?_))
        refine d_op (d_var (by with_unfolding_all rfl) ?_)
        refine d_c (by with_unfolding_all rfl) ?_
        refine r_ix (.inl (r_ixL (by with_unfolding_all rfl) ?_))
        refine r_eqS ⟨_, rfl, (br_t (by assumption) ?_)⟩
        refine d_op (d_var (by with_unfolding_all rfl) ?_)
        refine d_c (by with_unfolding_all rfl) ?_
        refine r_ix (.inl (r_ixL (by with_unfolding_all rfl) ?_))
        dsimp only
        rotate_left
        exact q
      · have e : byArms "if" [x, y, z] = none := by
          show (if some x = some _ ∧ some y = some z then _ else _) = _
          rw [if_neg (fun h => hyz (Option.some.inj h.2))]
        rw [e] at q
        have hd1 := decide_eq_true hx
        have hd2 := decide_eq_false hyz
        refine s_seq (s_if (d_test (d_op (d_var (by with_unfolding_all rfl) ?_))))
        refine d_c (by with_unfolding_all rfl) ?_
        dsimp only
        refine r_inK kh ⟨_, rfl, (br_f (by with_unfolding_all rfl) ?_)⟩
        refine s_next (s_seq (s_if (d_test (d_op (d_var (by with_unfolding_all rfl) ?_)))))
        refine d_c (by with_unfolding_all rfl) ?_
        refine r_eqS ⟨_, rfl, (br_f (by with_unfolding_all rfl) ?_)⟩
        refine s_next (s_seq (s_if (d_test (d_op (d_var (by with_unfolding_all rfl) ?_)))))
        refine d_c (by with_unfolding_all rfl) ?_
        refine r_eqS ⟨_, rfl, (br_t (by with_unfolding_all rfl) ?_)⟩
        refine s_ret (d_ifE (d_and (d_test (d_op (d_op (d_var (by with_unfolding_all rfl) ?_))))))
        refine d_c (by with_unfolding_all rfl) ?_
        refine r_ix (.inl (r_ixL (by with_unfolding_all rfl) ?_))
        refine d_c (by with_unfolding_all rfl) ?_
        refine r_eqS ⟨_, rfl, (br_t (by assumption) ?_)⟩
        refine d_test (d_op (d_op (d_var (by with_unfolding_all rfl) ?_)))
        refine d_c (by with_unfolding_all rfl) ?_
        refine r_ix (.inl (r_ixL (by with_unfolding_all rfl) ?_))
        refine d_op (d_var (by with_unfolding_all rfl) ?_)
        refine d_c (by with_unfolding_all rfl) ?_
        refine r_ix (.inl (r_ixL (by with_unfolding_all rfl) ?_))
        refine r_eqS ⟨_, rfl, (br_f (by assumption) ?_)⟩
        refine d_c (by with_unfolding_all rfl) ?_
        dsimp only
        rotate_left
        exact q
    · have e : byArms "if" [x, y, z] = none := by
        show (if some x = some _ ∧ some y = some z then _ else _) = _
        rw [if_neg (fun h => hx (Option.some.inj h.1))]
      rw [e] at q
      have hd1 := decide_eq_false hx
      refine s_seq (s_if (d_test (d_op (d_var (by with_unfolding_all rfl) ?_))))
      refine d_c (by with_unfolding_all rfl) ?_
      dsimp only
      refine r_inK kh ⟨_, rfl, (br_f (by with_unfolding_all rfl) ?_)⟩
      refine s_next (s_seq (s_if (d_test (d_op (d_var (by with_unfolding_all rfl) ?_)))))
      refine d_c (by with_unfolding_all rfl) ?_
      refine r_eqS ⟨_, rfl, (br_f (by with_unfolding_all rfl) ?_)⟩
      refine s_next (s_seq (s_if (d_test (d_op (d_var (by with_unfolding_all rfl) ?_)))))
      refine d_c (by with_unfolding_all rfl) ?_
      refine r_eqS ⟨_, rfl, (br_t (by with_unfolding_all rfl) ?_)⟩
      refine s_ret (d_ifE (d_and (d_test (d_op (d_op (d_var (by with_unfolding_all rfl) ?_))))))
      refine d_c (by with_unfolding_all rfl) ?_
      refine r_ix (.inl (r_ixL (by with_unfolding_all rfl) ?_))
      refine d_c (by with_unfolding_all rfl) ?_
      refine r_eqS ⟨_, rfl, (br_f (by assumption) ?_)⟩
      refine br_f (by with_unfolding_all rfl) ?_
      refine d_c (by with_unfolding_all rfl) ?_
      dsimp only
      rotate_left
      exact q
  · obtain ⟨x, y, rfl⟩ : ∃ x y, ks = [x, y] := match ks, hl with | [x, y], _ => ⟨x, y, rfl⟩
    have kh := nF "then" (by decide)
    refine s_seq (s_if (d_test (d_op (d_var (by with_unfolding_all rfl) ?_))))
    refine d_c (by with_unfolding_all rfl) ?_
    dsimp only
    refine r_inK kh ⟨_, rfl, (br_f (by with_unfolding_all rfl) ?_)⟩
    refine s_next (s_seq (s_if (d_test (d_op (d_var (by with_unfolding_all rfl) ?_)))))
    refine d_c (by with_unfolding_all rfl) ?_
    refine r_eqS ⟨_, rfl, (br_f (by with_unfolding_all rfl) ?_)⟩
    refine s_next (s_seq (s_if (d_test (d_op (d_var (by with_unfolding_all rfl) ?_)))))
    refine d_c (by with_unfolding_all rfl) ?_
    refine r_eqS ⟨_, rfl, (br_f (by with_unfolding_all rfl) ?_)⟩
    refine s_next (s_ret (d_op (d_var (by with_unfolding_all rfl) ?_)))
    refine d_c (by with_unfolding_all rfl) ?_
    refine r_ix (.inl (r_ixL (by with_unfolding_all rfl) ?_))
    dsimp only
    rotate_left
    exact q
/-! ### the kind of a body -/
abbrev CT := List (Str × Str × Str)
abbrev ET := List (Str × Str)
def ctD (c : CT) : D := .dct (c.map fun p => (p.1, .tup [.str p.2.1, .str p.2.2]))
def etD (c : ET) : D := .dct (c.map fun p => (p.1, .str p.2))
def B.kind (takes : Str) (calls : CT) (cells : ET) : B → Option Str
  | .num _ => some ("number" : Str)
  | .tru _ => some ("truth" : Str)
  | .emp => some ("list" : Str)
  | .arg => some takes
  | .cel c => lookS cells c
  | .set c x => match x.kind takes calls cells with
    | none => none
    | some k => if lookS cells c = some k then some k else none
  | .call d x => match x.kind takes calls cells with
    | none => none
    | some k => match lookS calls d with
      | none => none
      | some (a, t) => if a = k then some t else none
  | .op1 v x => match x.kind takes calls cells with
    | none => none
    | some k => byArms v [k]
  | .op2 v x y => match x.kind takes calls cells, y.kind takes calls cells with
    | some k, some l => byArms v [k, l]
    | _, _ => none
  | .ite x y z => match x.kind takes calls cells, y.kind takes calls cells, z.kind takes calls cells with
    | some k, some l, some m => byArms "if" [k, l, m]
    | _, _, _ => none
theorem look_map {α : Type} (f : α → D) (l : List (Str × α)) (s : Str) : lookD (l.map fun p => (p.1, f p.2)) s = (lookS l s).map f := by
  unfold lookD lookS
  induction l with
  | nil => rfl
  | cons p r ih =>
    rw [List.map_cons, List.find?_cons, List.find?_cons]
    by_cases e : p.1 = s
    · simp [e]
    · simp only [e, decide_false]
      exact ih
end
end Pr
set_option Elab.async false
set_option linter.all false
set_option maxRecDepth 100000
set_option maxHeartbeats 2000000
namespace Pr
open PySem L2 PD
structure EnvOk (takes : Str) (calls : CT) (cells : ET) : Prop where
  t : takes ∈ kindsS
  c : ∀ p ∈ calls, p.2.1 ∈ kindsS ∧ p.2.2 ∈ kindsS
  e : ∀ p ∈ cells, p.2 ∈ kindsS
theorem look_mem {α : Type} {l : List (Str × α)} {s : Str} {x : α} (h : lookS l s = some x) : (s, x) ∈ l := by
  unfold lookS at h
  cases e : l.find? fun p => decide (p.1 = s) with
  | none => rw [e] at h; cases h
  | some p =>
    rw [e] at h
    cases h
    have h1 := List.mem_of_find?_eq_some e
    have h2 := List.find?_some e
    have : p.1 = s := of_decide_eq_true h2
    rw [← this]
    exact h1
theorem byArms_kind {v : Str} {ks : List Str} {t : Str} (h : byArms v ks = some t) (hk : ∀ s ∈ ks, s ∈ kindsS) : t ∈ kindsS := by
  unfold byArms at h
  cases e : lookS fixTab v with
  | some p =>
    obtain ⟨as, t'⟩ := p
    rw [e] at h
    have h1 : ∀ p ∈ fixTab, p.2.2 ∈ kindsS := by decide +kernel
    have h2 := h1 _ (look_mem e)
    by_cases q : ks = as
    · simp only [q, if_true] at h
      cases h
      exact h2
    · simp only [q, if_false] at h
      cases h
  | none =>
    rw [e] at h
    simp only at h
    split at h
    · split at h
      · cases h
        decide
      · cases h
    · split at h
      · split at h
        · exact hk _ (List.mem_of_getElem? h)
        · cases h
      · exact hk _ (List.mem_of_getElem? h)
theorem kind_in {takes : Str} {calls : CT} {cells : ET} (h : EnvOk takes calls cells) : ∀ (b : B) (t : Str), b.kind takes calls cells = some t → t ∈ kindsS := by
  intro b
  induction b with
  | num n => intro t e; cases e; decide
  | tru n => intro t e; cases e; decide
  | emp => intro t e; cases e; decide
  | arg => intro t e; cases e; exact h.t
  | cel c => intro t e; exact h.e _ (look_mem e)
  | set c x ih =>
    intro t e
    simp only [B.kind] at e
    split at e
    · cases e
    · rename_i k hk
      split at e
      · cases e; exact ih _ hk
      · cases e
  | call d x ih =>
    intro t e
    simp only [B.kind] at e
    split at e
    · cases e
    · split at e
      · cases e
      · rename_i a t' hl
        split at e
        · cases e; exact (h.c _ (look_mem hl)).2
        · cases e
  | op1 v x ih =>
    intro t e
    simp only [B.kind] at e
    split at e
    · cases e
    · rename_i k hk
      exact byArms_kind e fun s hs => by
        simp only [List.mem_cons, List.not_mem_nil, or_false] at hs
        rw [hs]; exact ih _ hk
  | op2 v x y ihx ihy =>
    intro t e
    simp only [B.kind] at e
    split at e
    · rename_i k l hk hl
      exact byArms_kind e fun s hs => by
        simp only [List.mem_cons, List.not_mem_nil, or_false] at hs
        rcases hs with rfl | rfl
        · exact ihx _ hk
        · exact ihy _ hl
    · cases e
  | ite x y z ihx ihy ihz =>
    intro t e
    simp only [B.kind] at e
    split at e
    · rename_i k l m hk hl hm
      exact byArms_kind e fun s hs => by
        simp only [List.mem_cons, List.not_mem_nil, or_false] at hs
        rcases hs with rfl | rfl | rfl
        · exact ihx _ hk
        · exact ihy _ hl
        · exact ihz _ hm
    · cases e
section
variable {P : Program} {w : World} {K : PySem.W.Frag} {mg : Str → Option Value} {base : Heap}
def M_kind (n : Nat) : List D → (D → Prop) → Prop := fun ds k => ∃ (b : B) (takes : Str) (calls : CT) (cells : ET), ds = [b.toD, .str takes, ctD calls, etD cells] ∧ b.ok ∧ b.depth ≤ n ∧ EnvOk takes calls cells ∧ k (optD (b.kind takes calls cells))
theorem m_bi {b : B} {k : D → Prop} (h : k (.lst (b.arms.map B.toD))) : M_bodies_in [b.toD] k := ⟨b, rfl, h⟩
theorem m_kind {n : Nat} {b : B} {takes : Str} {calls : CT} {cells : ET} {k : D → Prop} (h1 : b.ok) (h2 : b.depth ≤ n) (h3 : EnvOk takes calls cells) (h : k (optD (b.kind takes calls cells))) : M_kind n [b.toD, .str takes, ctD calls, etD cells] k := ⟨b, takes, calls, cells, rfl, h1, h2, h3, h⟩
theorem m_by {v : Str} {ks : List Str} {k : D → Prop} (h1 : ∀ s ∈ ks, s ∈ kindsS) (h2 : (v ∈ fixTab.map (·.1)) ∨ (v = "same" ∧ ks.length = 2) ∨ (v = "if" ∧ ks.length = 3) ∨ (v = "then" ∧ ks.length = 2)) (h : k (optD (byArms v ks))) : M_by_arms [.str v, .lst (strsOf ks)] k := ⟨v, ks, rfl, h1, h2, h⟩
theorem d_dget1e {hs : Option (Addr × Addr)} {ρ : List Sl} {k : D → Prop} {ta tb : TE} (h : dE K hs ta ρ fun x => ∃ c : ET, x = etD c ∧ dE K hs tb ρ fun y => ∃ s, y = .str s ∧ k (optD (lookS c s))) : dE K hs (tDGet1 ta tb) ρ k :=
  d_dget1 fun H0 σ G H Q f R z => h H0 σ G H Q f R fun v G' H' x s r ⟨c, e, q⟩ => z v G' H' x s r ⟨_, e, fun H0 σ G H Q f R z => q H0 σ G H Q f R fun v G' H' y s r ⟨t, e, q⟩ => z v G' H' y s r ⟨t, e, by
    rw [look_map D.str]
    revert q
    cases lookS c t <;> intro q <;> exact q⟩⟩
def pairD : Option (Str × Str) → D
  | some p => .tup [.str p.1, .str p.2]
  | none => .tup [.non, .non]
theorem d_dget2c {hs : Option (Addr × Addr)} {ρ : List Sl} {k : D → Prop} {ta tb tc : TE} (h : dE K hs ta ρ fun x => ∃ c : CT, x = ctD c ∧ dE K hs tb ρ fun y => dE K hs tc ρ fun x' => ∃ s, x' = .tup [.non, .non] ∧ y = .str s ∧ k (pairD (lookS c s))) : dE K hs (tDGet2 ta tb tc) ρ k :=
  d_dget2 fun H0 σ G H Q f R z => h H0 σ G H Q f R fun v G' H' x s r ⟨c, e, q⟩ => z v G' H' x s r ⟨_, e, fun H0 σ G H Q f R z => q H0 σ G H Q f R fun v G' H' y s r q => z v G' H' y s r fun H0 σ G H Q f R z => q H0 σ G H Q f R fun v G' H' x' s r ⟨t, e, e2, q⟩ => z v G' H' x' s r ⟨t, e2, by
    rw [look_map (fun p : Str × Str => D.tup [.str p.1, .str p.2])]
    subst e
    revert q
    cases lookS c t <;> intro q <;> exact q⟩⟩
theorem ok_kind (T : Txt w K mg) : ∀ n : Nat, Cal P w K mg base (n + 2) "kind_of" ["body", "takes", "calls", "cells"] none (M_kind n) := by
  have C_bodies_in := ok_bodies_in (P := P) (base := base) T
  have C_kind_by_arms := ok_by_arms (P := P) (base := base) T
  intro n
  induction n with
  | zero =>
    refine okF T.f_kind_of sc_kind_of (fun _ _ _ _ _ _ us hl => match us, hl with | [_, _, _, _], _ => rfl) (fun ds k h => ?_) (fun f cdv A outer s H E ds kk hr h => ?_)
    · obtain ⟨_, _, _, _, rfl, _⟩ := h
      rfl
    · obtain ⟨b, _, _, _, _, _, h, _⟩ := h
      have := depth_pos b
      omega
  | succ n ih =>
    have C_kind_of := ih
    refine okF T.f_kind_of sc_kind_of (fun _ _ _ _ _ _ us hl => match us, hl with | [_, _, _, _], _ => rfl) (fun ds k h => ?_) (fun f cdv A outer s H E ds kk hr h => ?_)
    · obtain ⟨_, _, _, _, rfl, _⟩ := h
      rfl
    obtain ⟨b, takes, calls, cells, rfl, hb, hd, he, q⟩ := h
    have hu := hu_of hr
    refine ⟨_, (pss_cons (ps_setLc (i := 4) (own := [("arm", 5)]) (g := gName 5) (tt := tYes) rfl sc_kind_of.nd rfl rfl (sw_true rfl rfl rfl (by decide +kernel)) (pi_list (pe_calK (K := K) rfl C_bodies_in (hr.mono (by first | decide | omega)) rfl (pa_cons (pv 0) pa_nil))) (blkOk_by (own := [("arm", 5)]) (N := N_kind_of) (sc := defScope s_kind_of) (by decide +kernel)) (fun _ _ _ _ _ => (pg_name (i := 5) sc_kind_of.nd rfl (by first | exact Or.inl rfl | exact Or.inr rfl))) (fun _ _ _ _ _ => pts_nil) (fun _ _ _ _ _ => (pe_calK (K := K) rfl C_kind_of (hr.mono (by first | decide | omega)) rfl (pa_cons (pv 5) (pa_cons (pv 1) (pa_cons (pv 2) (pa_cons (pv 3) pa_nil)))))))
      (pss_cons (ps_if (pt_cmpR (r := rIn K false) op_in_seq pe_non (pv 4) rfl) (pss_one (ps_ret pe_non)) pss_nil)
      (pss_cons (ps_set (i := 6) sc_kind_of.nd rfl (by first | exact Or.inl rfl | exact Or.inr rfl) (pe_ix (r := rIx K) ix_seq (pv 0) pe_int (fun _ _ => rfl)))
      (pss_cons (ps_if (pt_cmpR op_eq (pv 6) pe_str (nomark _)) (pss_one (ps_ret (pv 1))) pss_nil)
      (pss_cons (ps_if (pt_cmpR op_eq (pv 6) pe_str (nomark _)) (pss_one (ps_ret (pe_dget1 hu (pv 3) (pe_ix (r := rIx K) ix_seq (pv 0) pe_int (fun _ _ => rfl)) ⟨rfl, rfl, rfl, rfl⟩))) pss_nil)
      (pss_cons (ps_if (pt_cmpR op_eq (pv 6) pe_str (nomark _)) (pss_one (ps_ret (pe_ifExp (pt_cmpR op_eq (pe_dget1 hu (pv 3) (pe_ix (r := rIx K) ix_seq (pv 0) pe_int (fun _ _ => rfl)) ⟨rfl, rfl, rfl, rfl⟩) (pe_ix (r := rIx K) ix_seq (pv 4) pe_int (fun _ _ => rfl)) (nomark _)) (pe_ix (r := rIx K) ix_seq (pv 4) pe_int (fun _ _ => rfl)) pe_non))) pss_nil)
      (pss_cons (ps_if (pt_cmpR op_eq (pv 6) pe_str (nomark _)) (pss_cons (ps_asg (pe_dget2 hu (pv 2) (pe_ix (r := rIx K) ix_seq (pv 0) pe_int (fun _ _ => rfl)) (pe_tup (pa_cons pe_non (pa_cons pe_non pa_nil))) ⟨rfl, rfl, rfl, rfl⟩) (pg_tupK (K := K) (n := 2) rfl rfl (pgs_cons (pg_name (i := 7) sc_kind_of.nd rfl (by first | exact Or.inl rfl | exact Or.inr rfl)) (pgs_cons (pg_name (i := 8) sc_kind_of.nd rfl (by first | exact Or.inl rfl | exact Or.inr rfl)) pgs_nil))))
      (pss_one (ps_ret (pe_ifExp (pt_cmpR op_eq (pv 7) (pe_ix (r := rIx K) ix_seq (pv 4) pe_int (fun _ _ => rfl)) (nomark _)) (pv 8) pe_non)))) pss_nil)
      (pss_one (ps_ret (pe_calK (K := K) rfl C_kind_by_arms (hr.mono (by first | decide | omega)) rfl (pa_cons (pv 6) (pa_cons (pv 4) pa_nil)))))))))))), ?_⟩
    try dsimp only [cxOf]
    change dS _ _ _ [Sl.d _, Sl.d _, Sl.d _, Sl.d _, Sl.un, Sl.un, Sl.un, Sl.un, Sl.un] _
    have kin := kind_in he
    have fin : ∀ {o o' : Option Str}, kk (optD o) → o = o' → kk (optD o') := fun h e => e ▸ h
    have w1 : ∀ v ∈ w1S, decide (v = "argument") = false ∧ decide (v = "cell") = false ∧ decide (v = "set") = false ∧ decide (v = "call") = false ∧ v ∈ fixTab.map (·.1) := by decide +kernel
    have w2 : ∀ v ∈ w2S, decide (v = "argument") = false ∧ decide (v = "cell") = false ∧ decide (v = "set") = false ∧ decide (v = "call") = false ∧ (v ∈ fixTab.map (·.1) ∨ v = "same" ∨ v = "then") := by decide +kernel
    cases b <;> simp only [B.ok] at hb <;> simp only [B.depth] at hd
    case num m =>
      have e1 : byArms "number" [] = some ("number" : Str) := by decide +kernel
      refine s_seq (s_setL (i_list (d_call (d_cons (d_var (by with_unfolding_all rfl) ?_)))))
      refine d_nil ?_
      dsimp only
      ((with_reducible refine m_bi ?_); dsimp only [B.arms, List.map])
      refine ⟨_, rfl, ⟨(show _ ≤ 50000 by simp), ?_⟩⟩
      refine lcW_nil (s_seq (s_if (d_test (d_op (d_c (by with_unfolding_all rfl) ?_)))))
      refine d_var (by with_unfolding_all rfl) ?_
      dsimp only
      refine r_inN (os := []) ⟨_, rfl, (br_f (by with_unfolding_all rfl) ?_)⟩
      refine s_next (s_seq (s_set (d_op (d_var (by with_unfolding_all rfl) ?_))))
      refine d_c (by with_unfolding_all rfl) ?_
      refine r_ix (.inr (r_ixT (by with_unfolding_all rfl) ?_))
      refine s_seq (s_if (d_test (d_op (d_var (by with_unfolding_all rfl) ?_))))
      refine d_c (by with_unfolding_all rfl) ?_
      refine r_eqS ⟨_, rfl, (br_f (by with_unfolding_all rfl) ?_)⟩
      refine s_next (s_seq (s_if (d_test (d_op (d_var (by with_unfolding_all rfl) ?_)))))
      refine d_c (by with_unfolding_all rfl) ?_
      refine r_eqS ⟨_, rfl, (br_f (by with_unfolding_all rfl) ?_)⟩
      refine s_next (s_seq (s_if (d_test (d_op (d_var (by with_unfolding_all rfl) ?_)))))
      refine d_c (by with_unfolding_all rfl) ?_
      refine r_eqS ⟨_, rfl, (br_f (by with_unfolding_all rfl) ?_)⟩
      refine s_next (s_seq (s_if (d_test (d_op (d_var (by with_unfolding_all rfl) ?_)))))
      refine d_c (by with_unfolding_all rfl) ?_
      refine r_eqS ⟨_, rfl, (br_f (by with_unfolding_all rfl) ?_)⟩
      refine s_next (s_ret (d_call (d_cons (d_var (by with_unfolding_all rfl) ?_))))
      refine d_cons (d_var (by with_unfolding_all rfl) ?_)
      refine d_nil ?_
      dsimp only
      refine m_by (ks := []) (by simp) (.inl (by decide)) ?_
      rotate_left
      all_goals exact fin q e1.symm
    case tru m =>
      have e1 : byArms "truth" [] = some ("truth" : Str) := by decide +kernel
      refine s_seq (s_setL (i_list (d_call (d_cons (d_var (by with_unfolding_all rfl) ?_)))))
      refine d_nil ?_
      dsimp only
      ((with_reducible refine m_bi ?_); dsimp only [B.arms, List.map])
      refine ⟨_, rfl, ⟨(show _ ≤ 50000 by simp), ?_⟩⟩
      refine lcW_nil (s_seq (s_if (d_test (d_op (d_c (by with_unfolding_all rfl) ?_)))))
      refine d_var (by with_unfolding_all rfl) ?_
      dsimp only
      refine r_inN (os := []) ⟨_, rfl, (br_f (by with_unfolding_all rfl) ?_)⟩
      refine s_next (s_seq (s_set (d_op (d_var (by with_unfolding_all rfl) ?_))))
      refine d_c (by with_unfolding_all rfl) ?_
      refine r_ix (.inr (r_ixT (by with_unfolding_all rfl) ?_))
      refine s_seq (s_if (d_test (d_op (d_var (by with_unfolding_all rfl) ?_))))
      refine d_c (by with_unfolding_all rfl) ?_
      refine r_eqS ⟨_, rfl, (br_f (by with_unfolding_all rfl) ?_)⟩
      refine s_next (s_seq (s_if (d_test (d_op (d_var (by with_unfolding_all rfl) ?_)))))
      refine d_c (by with_unfolding_all rfl) ?_
      refine r_eqS ⟨_, rfl, (br_f (by with_unfolding_all rfl) ?_)⟩
      refine s_next (s_seq (s_if (d_test (d_op (d_var (by with_unfolding_all rfl) ?_)))))
      refine d_c (by with_unfolding_all rfl) ?_
      refine r_eqS ⟨_, rfl, (br_f (by with_unfolding_all rfl) ?_)⟩
      refine s_next (s_seq (s_if (d_test (d_op (d_var (by with_unfolding_all rfl) ?_)))))
      refine d_c (by with_unfolding_all rfl) ?_
      refine r_eqS ⟨_, rfl, (br_f (by with_unfolding_all rfl) ?_)⟩
      refine s_next (s_ret (d_call (d_cons (d_var (by with_unfolding_all rfl) ?_))))
      refine d_cons (d_var (by with_unfolding_all rfl) ?_)
      refine d_nil ?_
      dsimp only
      refine m_by (ks := []) (by simp) (.inl (by decide)) ?_
      rotate_left
      all_goals exact fin q e1.symm
    case emp =>
      have e1 : byArms "empty" [] = some ("list" : Str) := by decide +kernel
      refine s_seq (s_setL (i_list (d_call (d_cons (d_var (by with_unfolding_all rfl) ?_)))))
      refine d_nil ?_
      dsimp only
      ((with_reducible refine m_bi ?_); dsimp only [B.arms, List.map])
      refine ⟨_, rfl, ⟨(show _ ≤ 50000 by simp), ?_⟩⟩
      refine lcW_nil (s_seq (s_if (d_test (d_op (d_c (by with_unfolding_all rfl) ?_)))))
      refine d_var (by with_unfolding_all rfl) ?_
      dsimp only
      refine r_inN (os := []) ⟨_, rfl, (br_f (by with_unfolding_all rfl) ?_)⟩
      refine s_next (s_seq (s_set (d_op (d_var (by with_unfolding_all rfl) ?_))))
      refine d_c (by with_unfolding_all rfl) ?_
      refine r_ix (.inr (r_ixT (by with_unfolding_all rfl) ?_))
      refine s_seq (s_if (d_test (d_op (d_var (by with_unfolding_all rfl) ?_))))
      refine d_c (by with_unfolding_all rfl) ?_
      refine r_eqS ⟨_, rfl, (br_f (by with_unfolding_all rfl) ?_)⟩
      refine s_next (s_seq (s_if (d_test (d_op (d_var (by with_unfolding_all rfl) ?_)))))
      refine d_c (by with_unfolding_all rfl) ?_
      refine r_eqS ⟨_, rfl, (br_f (by with_unfolding_all rfl) ?_)⟩
      refine s_next (s_seq (s_if (d_test (d_op (d_var (by with_unfolding_all rfl) ?_)))))
      refine d_c (by with_unfolding_all rfl) ?_
      refine r_eqS ⟨_, rfl, (br_f (by with_unfolding_all rfl) ?_)⟩
      refine s_next (s_seq (s_if (d_test (d_op (d_var (by with_unfolding_all rfl) ?_)))))
      refine d_c (by with_unfolding_all rfl) ?_
      refine r_eqS ⟨_, rfl, (br_f (by with_unfolding_all rfl) ?_)⟩
      refine s_next (s_ret (d_call (d_cons (d_var (by with_unfolding_all rfl) ?_))))
      refine d_cons (d_var (by with_unfolding_all rfl) ?_)
      refine d_nil ?_
      dsimp only
      refine m_by (ks := []) (by simp) (.inl (by decide)) ?_
      rotate_left
      all_goals exact fin q e1.symm
    case arg =>
      refine s_seq (s_setL (i_list (d_call (d_cons (d_var (by with_unfolding_all rfl) ?_)))))
      refine d_nil ?_
      dsimp only
      ((with_reducible refine m_bi ?_); dsimp only [B.arms, List.map])
      refine ⟨_, rfl, ⟨(show _ ≤ 50000 by simp), ?_⟩⟩
      refine lcW_nil (s_seq (s_if (d_test (d_op (d_c (by with_unfolding_all rfl) ?_)))))
      refine d_var (by with_unfolding_all rfl) ?_
      dsimp only
      refine r_inN (os := []) ⟨_, rfl, (br_f (by with_unfolding_all rfl) ?_)⟩
      refine s_next (s_seq (s_set (d_op (d_var (by with_unfolding_all rfl) ?_))))
      refine d_c (by with_unfolding_all rfl) ?_
      refine r_ix (.inr (r_ixT (by with_unfolding_all rfl) ?_))
      refine s_seq (s_if (d_test (d_op (d_var (by with_unfolding_all rfl) ?_))))
      refine d_c (by with_unfolding_all rfl) ?_
      refine r_eqS ⟨_, rfl, (br_t (by with_unfolding_all rfl) ?_)⟩
      refine s_ret (d_var (by with_unfolding_all rfl) ?_)
      dsimp only
      rotate_left
      all_goals exact q
    case cel c =>
      refine s_seq (s_setL (i_list (d_call (d_cons (d_var (by with_unfolding_all rfl) ?_)))))
      refine d_nil ?_
      dsimp only
      ((with_reducible refine m_bi ?_); dsimp only [B.arms, List.map])
      refine ⟨_, rfl, ⟨(show _ ≤ 50000 by simp), ?_⟩⟩
      refine lcW_nil (s_seq (s_if (d_test (d_op (d_c (by with_unfolding_all rfl) ?_)))))
      refine d_var (by with_unfolding_all rfl) ?_
      dsimp only
      refine r_inN (os := []) ⟨_, rfl, (br_f (by with_unfolding_all rfl) ?_)⟩
      refine s_next (s_seq (s_set (d_op (d_var (by with_unfolding_all rfl) ?_))))
      refine d_c (by with_unfolding_all rfl) ?_
      refine r_ix (.inr (r_ixT (by with_unfolding_all rfl) ?_))
      refine s_seq (s_if (d_test (d_op (d_var (by with_unfolding_all rfl) ?_))))
      refine d_c (by with_unfolding_all rfl) ?_
      refine r_eqS ⟨_, rfl, (br_f (by with_unfolding_all rfl) ?_)⟩
      refine s_next (s_seq (s_if (d_test (d_op (d_var (by with_unfolding_all rfl) ?_)))))
      refine d_c (by with_unfolding_all rfl) ?_
      refine r_eqS ⟨_, rfl, (br_t (by with_unfolding_all rfl) ?_)⟩
      refine s_ret (d_dget1e (d_var (by with_unfolding_all rfl) ?_))
      refine ⟨_, rfl, (d_op (d_var (by with_unfolding_all rfl) ?_))⟩
      refine d_c (by with_unfolding_all rfl) ?_
      refine r_ix (.inr (r_ixT (by with_unfolding_all rfl) ?_))
      refine ⟨_, rfl, ?_⟩
      dsimp only
      rotate_left
      all_goals exact q
    case set c x =>
      have ox := hb.2
      cases hx : x.kind takes calls cells with
      | none =>
        simp only [B.kind, hx] at q
        refine s_seq (s_setL (i_list (d_call (d_cons (d_var (by with_unfolding_all rfl) ?_)))))
        refine d_nil ?_
        dsimp only
        ((with_reducible refine m_bi ?_); dsimp only [B.arms, List.map])
        refine ⟨_, rfl, ⟨(show _ ≤ 50000 by simp), ?_⟩⟩
        refine lcW_cons (g_nameV (by decide) ?_)
        refine d_yes (br_t (by with_unfolding_all rfl) ?_)
        refine d_call (d_cons (d_var (by with_unfolding_all rfl) ?_))
        refine d_cons (d_var (by with_unfolding_all rfl) ?_)
        refine d_cons (d_var (by with_unfolding_all rfl) ?_)
        refine d_cons (d_var (by with_unfolding_all rfl) ?_)
        refine d_nil ?_
        ((with_reducible refine m_kind ox (by omega) he ?_); rw [hx]; dsimp only [optD])
        refine lcW_nil (s_seq (s_if (d_test (d_op (d_c (by with_unfolding_all rfl) ?_)))))
        refine d_var (by with_unfolding_all rfl) ?_
        dsimp only
        refine r_inN (os := [none]) ⟨_, rfl, (br_t (by with_unfolding_all rfl) ?_)⟩
        refine s_ret (d_c (by with_unfolding_all rfl) ?_)
        dsimp only
        rotate_left
        all_goals exact q
      | some t =>
        cases hl : lookS cells c with
        | none =>
          simp only [B.kind, hx, hl] at q
          refine s_seq (s_setL (i_list (d_call (d_cons (d_var (by with_unfolding_all rfl) ?_)))))
          refine d_nil ?_
          dsimp only
          ((with_reducible refine m_bi ?_); dsimp only [B.arms, List.map])
          refine ⟨_, rfl, ⟨(show _ ≤ 50000 by simp), ?_⟩⟩
          refine lcW_cons (g_nameV (by decide) ?_)
          refine d_yes (br_t (by with_unfolding_all rfl) ?_)
          refine d_call (d_cons (d_var (by with_unfolding_all rfl) ?_))
          refine d_cons (d_var (by with_unfolding_all rfl) ?_)
          refine d_cons (d_var (by with_unfolding_all rfl) ?_)
          refine d_cons (d_var (by with_unfolding_all rfl) ?_)
          refine d_nil ?_
          ((with_reducible refine m_kind ox (by omega) he ?_); rw [hx]; dsimp only [optD])
          refine lcW_nil (s_seq (s_if (d_test (d_op (d_c (by with_unfolding_all rfl) ?_)))))
          refine d_var (by with_unfolding_all rfl) ?_
          dsimp only
          refine r_inN (os := [some t]) ⟨_, rfl, (br_f (by with_unfolding_all rfl) ?_)⟩
          refine s_next (s_seq (s_set (d_op (d_var (by with_unfolding_all rfl) ?_))))
          refine d_c (by with_unfolding_all rfl) ?_
          refine r_ix (.inr (r_ixT (by with_unfolding_all rfl) ?_))
          refine s_seq (s_if (d_test (d_op (d_var (by with_unfolding_all rfl) ?_))))
          refine d_c (by with_unfolding_all rfl) ?_
          refine r_eqS ⟨_, rfl, (br_f (by with_unfolding_all rfl) ?_)⟩
          refine s_next (s_seq (s_if (d_test (d_op (d_var (by with_unfolding_all rfl) ?_)))))
          refine d_c (by with_unfolding_all rfl) ?_
          refine r_eqS ⟨_, rfl, (br_f (by with_unfolding_all rfl) ?_)⟩
          refine s_next (s_seq (s_if (d_test (d_op (d_var (by with_unfolding_all rfl) ?_)))))
          refine d_c (by with_unfolding_all rfl) ?_
          refine r_eqS ⟨_, rfl, (br_t (by with_unfolding_all rfl) ?_)⟩
          refine s_ret (d_ifE (d_test (d_op (d_dget1e (d_var (by with_unfolding_all rfl) ?_)))))
          refine ⟨_, rfl, (d_op (d_var (by with_unfolding_all rfl) ?_))⟩
          refine d_c (by with_unfolding_all rfl) ?_
          refine r_ix (.inr (r_ixT (by with_unfolding_all rfl) ?_))
          refine ⟨_, rfl, (d_op (d_var (by with_unfolding_all rfl) ?_))⟩
          refine d_c (by with_unfolding_all rfl) ?_
          refine r_ix (.inl (r_ixL (by with_unfolding_all rfl) ?_))
          dsimp only
          (rw [hl]; dsimp only [optD])
          refine r_eq (by with_unfolding_all rfl) (by with_unfolding_all rfl) (by with_unfolding_all rfl) ?_
          refine ⟨_, rfl, (br_f (by with_unfolding_all rfl) ?_)⟩
          refine d_c (by with_unfolding_all rfl) ?_
          rotate_left
          exact q
        | some u =>
          simp only [B.kind, hx, hl] at q
          by_cases hut : u = t
          · rw [if_pos (congrArg some hut)] at q
            have hd1 := decide_eq_true hut
            refine s_seq (s_setL (i_list (d_call (d_cons (d_var (by with_unfolding_all rfl) ?_)))))
            refine d_nil ?_
            dsimp only
            ((with_reducible refine m_bi ?_); dsimp only [B.arms, List.map])
            refine ⟨_, rfl, ⟨(show _ ≤ 50000 by simp), ?_⟩⟩
            refine lcW_cons (g_nameV (by decide) ?_)
            refine d_yes (br_t (by with_unfolding_all rfl) ?_)
            refine d_call (d_cons (d_var (by with_unfolding_all rfl) ?_))
            refine d_cons (d_var (by with_unfolding_all rfl) ?_)
            refine d_cons (d_var (by with_unfolding_all rfl) ?_)
            refine d_cons (d_var (by with_unfolding_all rfl) ?_)
            refine d_nil ?_
            ((with_reducible refine m_kind ox (by omega) he ?_); rw [hx]; dsimp only [optD])
            refine lcW_nil (s_seq (s_if (d_test (d_op (d_c (by with_unfolding_all rfl) ?_)))))
            refine d_var (by with_unfolding_all rfl) ?_
            dsimp only
            refine r_inN (os := [some t]) ⟨_, rfl, (br_f (by with_unfolding_all rfl) ?_)⟩
            refine s_next (s_seq (s_set (d_op (d_var (by with_unfolding_all rfl) ?_))))
            refine d_c (by with_unfolding_all rfl) ?_
            refine r_ix (.inr (r_ixT (by with_unfolding_all rfl) ?_))
            refine s_seq (s_if (d_test (d_op (d_var (by with_unfolding_all rfl) ?_))))
            refine d_c (by with_unfolding_all rfl) ?_
            refine r_eqS ⟨_, rfl, (br_f (by with_unfolding_all rfl) ?_)⟩
            refine s_next (s_seq (s_if (d_test (d_op (d_var (by with_unfolding_all rfl) ?_)))))
            refine d_c (by with_unfolding_all rfl) ?_
            refine r_eqS ⟨_, rfl, (br_f (by with_unfolding_all rfl) ?_)⟩
            refine s_next (s_seq (s_if (d_test (d_op (d_var (by with_unfolding_all rfl) ?_)))))
            refine d_c (by with_unfolding_all rfl) ?_
            refine r_eqS ⟨_, rfl, (br_t (by with_unfolding_all rfl) ?_)⟩
            refine s_ret (d_ifE (d_test (d_op (d_dget1e (d_var (by with_unfolding_all rfl) ?_)))))
            refine ⟨_, rfl, (d_op (d_var (by with_unfolding_all rfl) ?_))⟩
            refine d_c (by with_unfolding_all rfl) ?_
            refine r_ix (.inr (r_ixT (by with_unfolding_all rfl) ?_))
            refine ⟨_, rfl, (d_op (d_var (by with_unfolding_all rfl) ?_))⟩
            refine d_c (by with_unfolding_all rfl) ?_
            refine r_ix (.inl (r_ixL (by with_unfolding_all rfl) ?_))
            dsimp only
            (rw [hl]; dsimp only [optD])
            refine r_eqS ⟨_, rfl, (br_t (by assumption) ?_)⟩
            refine d_op (d_var (by with_unfolding_all rfl) ?_)
            refine d_c (by with_unfolding_all rfl) ?_
            refine r_ix (.inl (r_ixL (by with_unfolding_all rfl) ?_))
            rotate_left
            exact q
          · rw [if_neg (fun h => hut (Option.some.inj h))] at q
            have hd1 := decide_eq_false hut
            refine s_seq (s_setL (i_list (d_call (d_cons (d_var (by with_unfolding_all rfl) ?_)))))
            refine d_nil ?_
            dsimp only
            ((with_reducible refine m_bi ?_); dsimp only [B.arms, List.map])
            refine ⟨_, rfl, ⟨(show _ ≤ 50000 by simp), ?_⟩⟩
            refine lcW_cons (g_nameV (by decide) ?_)
            refine d_yes (br_t (by with_unfolding_all rfl) ?_)
            refine d_call (d_cons (d_var (by with_unfolding_all rfl) ?_))
            refine d_cons (d_var (by with_unfolding_all rfl) ?_)
            refine d_cons (d_var (by with_unfolding_all rfl) ?_)
            refine d_cons (d_var (by with_unfolding_all rfl) ?_)
            refine d_nil ?_
            ((with_reducible refine m_kind ox (by omega) he ?_); rw [hx]; dsimp only [optD])
            refine lcW_nil (s_seq (s_if (d_test (d_op (d_c (by with_unfolding_all rfl) ?_)))))
            refine d_var (by with_unfolding_all rfl) ?_
            dsimp only
            refine r_inN (os := [some t]) ⟨_, rfl, (br_f (by with_unfolding_all rfl) ?_)⟩
            refine s_next (s_seq (s_set (d_op (d_var (by with_unfolding_all rfl) ?_))))
            refine d_c (by with_unfolding_all rfl) ?_
            refine r_ix (.inr (r_ixT (by with_unfolding_all rfl) ?_))
            refine s_seq (s_if (d_test (d_op (d_var (by with_unfolding_all rfl) ?_))))
            refine d_c (by with_unfolding_all rfl) ?_
            refine r_eqS ⟨_, rfl, (br_f (by with_unfolding_all rfl) ?_)⟩
            refine s_next (s_seq (s_if (d_test (d_op (d_var (by with_unfolding_all rfl) ?_)))))
            refine d_c (by with_unfolding_all rfl) ?_
            refine r_eqS ⟨_, rfl, (br_f (by with_unfolding_all rfl) ?_)⟩
            refine s_next (s_seq (s_if (d_test (d_op (d_var (by with_unfolding_all rfl) ?_)))))
            refine d_c (by with_unfolding_all rfl) ?_
            refine r_eqS ⟨_, rfl, (br_t (by with_unfolding_all rfl) ?_)⟩
            refine s_ret (d_ifE (d_test (d_op (d_dget1e (d_var (by with_unfolding_all rfl) ?_)))))
            refine ⟨_, rfl, (d_op (d_var (by with_unfolding_all rfl) ?_))⟩
            refine d_c (by with_unfolding_all rfl) ?_
            refine r_ix (.inr (r_ixT (by with_unfolding_all rfl) ?_))
            refine ⟨_, rfl, (d_op (d_var (by with_unfolding_all rfl) ?_))⟩
            refine d_c (by with_unfolding_all rfl) ?_
            refine r_ix (.inl (r_ixL (by with_unfolding_all rfl) ?_))
            dsimp only
            (rw [hl]; dsimp only [optD])
            refine r_eqS ⟨_, rfl, (br_f (by assumption) ?_)⟩
            refine d_c (by with_unfolding_all rfl) ?_
            rotate_left
            all_goals exact q
    case call c x =>
      have ox := hb.2
      cases hx : x.kind takes calls cells with
      | none =>
        simp only [B.kind, hx] at q
        refine s_seq (s_setL (i_list (d_call (d_cons (d_var (by with_unfolding_all rfl) ?_)))))
        refine d_nil ?_
        dsimp only
        ((with_reducible refine m_bi ?_); dsimp only [B.arms, List.map])
        refine ⟨_, rfl, ⟨(show _ ≤ 50000 by simp), ?_⟩⟩
        refine lcW_cons (g_nameV (by decide) ?_)
        refine d_yes (br_t (by with_unfolding_all rfl) ?_)
        refine d_call (d_cons (d_var (by with_unfolding_all rfl) ?_))
        refine d_cons (d_var (by with_unfolding_all rfl) ?_)
        refine d_cons (d_var (by with_unfolding_all rfl) ?_)
        refine d_cons (d_var (by with_unfolding_all rfl) ?_)
        refine d_nil ?_
        ((with_reducible refine m_kind ox (by omega) he ?_); rw [hx]; dsimp only [optD])
        refine lcW_nil (s_seq (s_if (d_test (d_op (d_c (by with_unfolding_all rfl) ?_)))))
        refine d_var (by with_unfolding_all rfl) ?_
        dsimp only
        refine r_inN (os := [none]) ⟨_, rfl, (br_t (by with_unfolding_all rfl) ?_)⟩
        refine s_ret (d_c (by with_unfolding_all rfl) ?_)
        dsimp only
        rotate_left
        all_goals exact q
      | some t =>
        cases hl : lookS calls c with
        | none =>
          simp only [B.kind, hx, hl] at q
          refine s_seq (s_setL (i_list (d_call (d_cons (d_var (by with_unfolding_all rfl) ?_)))))
          refine d_nil ?_
          dsimp only
          ((with_reducible refine m_bi ?_); dsimp only [B.arms, List.map])
          refine ⟨_, rfl, ⟨(show _ ≤ 50000 by simp), ?_⟩⟩
          refine lcW_cons (g_nameV (by decide) ?_)
          refine d_yes (br_t (by with_unfolding_all rfl) ?_)
          refine d_call (d_cons (d_var (by with_unfolding_all rfl) ?_))
          refine d_cons (d_var (by with_unfolding_all rfl) ?_)
          refine d_cons (d_var (by with_unfolding_all rfl) ?_)
          refine d_cons (d_var (by with_unfolding_all rfl) ?_)
          refine d_nil ?_
          ((with_reducible refine m_kind ox (by omega) he ?_); rw [hx]; dsimp only [optD])
          refine lcW_nil (s_seq (s_if (d_test (d_op (d_c (by with_unfolding_all rfl) ?_)))))
          refine d_var (by with_unfolding_all rfl) ?_
          dsimp only
          refine r_inN (os := [some t]) ⟨_, rfl, (br_f (by with_unfolding_all rfl) ?_)⟩
          refine s_next (s_seq (s_set (d_op (d_var (by with_unfolding_all rfl) ?_))))
          refine d_c (by with_unfolding_all rfl) ?_
          refine r_ix (.inr (r_ixT (by with_unfolding_all rfl) ?_))
          refine s_seq (s_if (d_test (d_op (d_var (by with_unfolding_all rfl) ?_))))
          refine d_c (by with_unfolding_all rfl) ?_
          refine r_eqS ⟨_, rfl, (br_f (by with_unfolding_all rfl) ?_)⟩
          refine s_next (s_seq (s_if (d_test (d_op (d_var (by with_unfolding_all rfl) ?_)))))
          refine d_c (by with_unfolding_all rfl) ?_
          refine r_eqS ⟨_, rfl, (br_f (by with_unfolding_all rfl) ?_)⟩
          refine s_next (s_seq (s_if (d_test (d_op (d_var (by with_unfolding_all rfl) ?_)))))
          refine d_c (by with_unfolding_all rfl) ?_
          refine r_eqS ⟨_, rfl, (br_f (by with_unfolding_all rfl) ?_)⟩
          refine s_next (s_seq (s_if (d_test (d_op (d_var (by with_unfolding_all rfl) ?_)))))
          refine d_c (by with_unfolding_all rfl) ?_
          refine r_eqS ⟨_, rfl, (br_t (by with_unfolding_all rfl) ?_)⟩
          refine s_seq (s_asg (d_dget2c (d_var (by with_unfolding_all rfl) ?_)))
          refine ⟨_, rfl, (d_op (d_var (by with_unfolding_all rfl) ?_))⟩
          refine d_c (by with_unfolding_all rfl) ?_
          refine r_ix (.inr (r_ixT (by with_unfolding_all rfl) ?_))
          refine d_tup (d_cons (d_c (by with_unfolding_all rfl) ?_))
          refine d_cons (d_c (by with_unfolding_all rfl) ?_)
          refine d_nil (And.intro (show List.length _ ≤ 100000 by simp) ?_)
          dsimp only
          refine ⟨_, rfl, rfl, ?_⟩
          (rw [hl]; dsimp only [pairD])
          ((with_reducible refine g_tid ?_); refine g_tup rfl ?_)
          refine gs_cons (g_name (gs_cons (g_name (gs_nil (s_ret (d_ifE (d_test (d_op (d_var (by with_unfolding_all rfl) ?_)))))))))
          refine d_op (d_var (by with_unfolding_all rfl) ?_)
          refine d_c (by with_unfolding_all rfl) ?_
          refine r_ix (.inl (r_ixL (by with_unfolding_all rfl) ?_))
          refine r_eq (by with_unfolding_all rfl) (by with_unfolding_all rfl) (by with_unfolding_all rfl) ?_
          refine ⟨_, rfl, (br_f (by with_unfolding_all rfl) ?_)⟩
          refine d_c (by with_unfolding_all rfl) ?_
          dsimp only
          rotate_left
          exact q
        | some u =>
          obtain ⟨u1, u2⟩ := u
          simp only [B.kind, hx, hl] at q
          by_cases hut : u1 = t
          · rw [if_pos hut] at q
            have hd1 := decide_eq_true hut
            refine s_seq (s_setL (i_list (d_call (d_cons (d_var (by with_unfolding_all rfl) ?_)))))
            refine d_nil ?_
            dsimp only
            ((with_reducible refine m_bi ?_); dsimp only [B.arms, List.map])
            refine ⟨_, rfl, ⟨(show _ ≤ 50000 by simp), ?_⟩⟩
            refine lcW_cons (g_nameV (by decide) ?_)
            refine d_yes (br_t (by with_unfolding_all rfl) ?_)
            refine d_call (d_cons (d_var (by with_unfolding_all rfl) ?_))
            refine d_cons (d_var (by with_unfolding_all rfl) ?_)
            refine d_cons (d_var (by with_unfolding_all rfl) ?_)
            refine d_cons (d_var (by with_unfolding_all rfl) ?_)
            refine d_nil ?_
            ((with_reducible refine m_kind ox (by omega) he ?_); rw [hx]; dsimp only [optD])
            refine lcW_nil (s_seq (s_if (d_test (d_op (d_c (by with_unfolding_all rfl) ?_)))))
            refine d_var (by with_unfolding_all rfl) ?_
            dsimp only
            refine r_inN (os := [some t]) ⟨_, rfl, (br_f (by with_unfolding_all rfl) ?_)⟩
            refine s_next (s_seq (s_set (d_op (d_var (by with_unfolding_all rfl) ?_))))
            refine d_c (by with_unfolding_all rfl) ?_
            refine r_ix (.inr (r_ixT (by with_unfolding_all rfl) ?_))
            refine s_seq (s_if (d_test (d_op (d_var (by with_unfolding_all rfl) ?_))))
            refine d_c (by with_unfolding_all rfl) ?_
            refine r_eqS ⟨_, rfl, (br_f (by with_unfolding_all rfl) ?_)⟩
            refine s_next (s_seq (s_if (d_test (d_op (d_var (by with_unfolding_all rfl) ?_)))))
            refine d_c (by with_unfolding_all rfl) ?_
            refine r_eqS ⟨_, rfl, (br_f (by with_unfolding_all rfl) ?_)⟩
            refine s_next (s_seq (s_if (d_test (d_op (d_var (by with_unfolding_all rfl) ?_)))))
            refine d_c (by with_unfolding_all rfl) ?_
            refine r_eqS ⟨_, rfl, (br_f (by with_unfolding_all rfl) ?_)⟩
            refine s_next (s_seq (s_if (d_test (d_op (d_var (by with_unfolding_all rfl) ?_)))))
            refine d_c (by with_unfolding_all rfl) ?_
            refine r_eqS ⟨_, rfl, (br_t (by with_unfolding_all rfl) ?_)⟩
            refine s_seq (s_asg (d_dget2c (d_var (by with_unfolding_all rfl) ?_)))
            refine ⟨_, rfl, (d_op (d_var (by with_unfolding_all rfl) ?_))⟩
            refine d_c (by with_unfolding_all rfl) ?_
            refine r_ix (.inr (r_ixT (by with_unfolding_all rfl) ?_))
            refine d_tup (d_cons (d_c (by with_unfolding_all rfl) ?_))
            refine d_cons (d_c (by with_unfolding_all rfl) ?_)
            refine d_nil (And.intro (show List.length _ ≤ 100000 by simp) ?_)
            dsimp only
            refine ⟨_, rfl, rfl, ?_⟩
            (rw [hl]; dsimp only [pairD])
            ((with_reducible refine g_tid ?_); refine g_tup rfl ?_)
            refine gs_cons (g_name (gs_cons (g_name (gs_nil (s_ret (d_ifE (d_test (d_op (d_var (by with_unfolding_all rfl) ?_)))))))))
            refine d_op (d_var (by with_unfolding_all rfl) ?_)
            refine d_c (by with_unfolding_all rfl) ?_
            refine r_ix (.inl (r_ixL (by with_unfolding_all rfl) ?_))
            refine r_eqS ⟨_, rfl, (br_t (by assumption) ?_)⟩
            refine d_var (by with_unfolding_all rfl) ?_
            dsimp only
            rotate_left
            exact q
          · rw [if_neg hut] at q
            have hd1 := decide_eq_false hut
            refine s_seq (s_setL (i_list (d_call (d_cons (d_var (by with_unfolding_all rfl) ?_)))))
            refine d_nil ?_
            dsimp only
            ((with_reducible refine m_bi ?_); dsimp only [B.arms, List.map])
            refine ⟨_, rfl, ⟨(show _ ≤ 50000 by simp), ?_⟩⟩
            refine lcW_cons (g_nameV (by decide) ?_)
            refine d_yes (br_t (by with_unfolding_all rfl) ?_)
            refine d_call (d_cons (d_var (by with_unfolding_all rfl) ?_))
            refine d_cons (d_var (by with_unfolding_all rfl) ?_)
            refine d_cons (d_var (by with_unfolding_all rfl) ?_)
            refine d_cons (d_var (by with_unfolding_all rfl) ?_)
            refine d_nil ?_
            ((with_reducible refine m_kind ox (by omega) he ?_); rw [hx]; dsimp only [optD])
            refine lcW_nil (s_seq (s_if (d_test (d_op (d_c (by with_unfolding_all rfl) ?_)))))
            refine d_var (by with_unfolding_all rfl) ?_
            dsimp only
            refine r_inN (os := [some t]) ⟨_, rfl, (br_f (by with_unfolding_all rfl) ?_)⟩
            refine s_next (s_seq (s_set (d_op (d_var (by with_unfolding_all rfl) ?_))))
            refine d_c (by with_unfolding_all rfl) ?_
            refine r_ix (.inr (r_ixT (by with_unfolding_all rfl) ?_))
            refine s_seq (s_if (d_test (d_op (d_var (by with_unfolding_all rfl) ?_))))
            refine d_c (by with_unfolding_all rfl) ?_
            refine r_eqS ⟨_, rfl, (br_f (by with_unfolding_all rfl) ?_)⟩
            refine s_next (s_seq (s_if (d_test (d_op (d_var (by with_unfolding_all rfl) ?_)))))
            refine d_c (by with_unfolding_all rfl) ?_
            refine r_eqS ⟨_, rfl, (br_f (by with_unfolding_all rfl) ?_)⟩
            refine s_next (s_seq (s_if (d_test (d_op (d_var (by with_unfolding_all rfl) ?_)))))
            refine d_c (by with_unfolding_all rfl) ?_
            refine r_eqS ⟨_, rfl, (br_f (by with_unfolding_all rfl) ?_)⟩
            refine s_next (s_seq (s_if (d_test (d_op (d_var (by with_unfolding_all rfl) ?_)))))
            refine d_c (by with_unfolding_all rfl) ?_
            refine r_eqS ⟨_, rfl, (br_t (by with_unfolding_all rfl) ?_)⟩
            refine s_seq (s_asg (d_dget2c (d_var (by with_unfolding_all rfl) ?_)))
            refine ⟨_, rfl, (d_op (d_var (by with_unfolding_all rfl) ?_))⟩
            refine d_c (by with_unfolding_all rfl) ?_
            refine r_ix (.inr (r_ixT (by with_unfolding_all rfl) ?_))
            refine d_tup (d_cons (d_c (by with_unfolding_all rfl) ?_))
            refine d_cons (d_c (by with_unfolding_all rfl) ?_)
            refine d_nil (And.intro (show List.length _ ≤ 100000 by simp) ?_)
            dsimp only
            refine ⟨_, rfl, rfl, ?_⟩
            (rw [hl]; dsimp only [pairD])
            ((with_reducible refine g_tid ?_); refine g_tup rfl ?_)
            refine gs_cons (g_name (gs_cons (g_name (gs_nil (s_ret (d_ifE (d_test (d_op (d_var (by with_unfolding_all rfl) ?_)))))))))
            refine d_op (d_var (by with_unfolding_all rfl) ?_)
            refine d_c (by with_unfolding_all rfl) ?_
            refine r_ix (.inl (r_ixL (by with_unfolding_all rfl) ?_))
            refine r_eqS ⟨_, rfl, (br_f (by assumption) ?_)⟩
            refine d_c (by with_unfolding_all rfl) ?_
            dsimp only
            rotate_left
            all_goals exact q
    case op1 v x =>
      have ox := hb.2
      obtain ⟨n1, n2, n3, n4, hv⟩ := w1 v hb.1
      cases hx : x.kind takes calls cells with
      | none =>
        simp only [B.kind, hx] at q
        refine s_seq (s_setL (i_list (d_call (d_cons (d_var (by with_unfolding_all rfl) ?_)))))
        refine d_nil ?_
        dsimp only
        ((with_reducible refine m_bi ?_); dsimp only [B.arms, List.map])
        refine ⟨_, rfl, ⟨(show _ ≤ 50000 by simp), ?_⟩⟩
        refine lcW_cons (g_nameV (by decide) ?_)
        refine d_yes (br_t (by with_unfolding_all rfl) ?_)
        refine d_call (d_cons (d_var (by with_unfolding_all rfl) ?_))
        refine d_cons (d_var (by with_unfolding_all rfl) ?_)
        refine d_cons (d_var (by with_unfolding_all rfl) ?_)
        refine d_cons (d_var (by with_unfolding_all rfl) ?_)
        refine d_nil ?_
        ((with_reducible refine m_kind ox (by omega) he ?_); rw [hx]; dsimp only [optD])
        refine lcW_nil (s_seq (s_if (d_test (d_op (d_c (by with_unfolding_all rfl) ?_)))))
        refine d_var (by with_unfolding_all rfl) ?_
        dsimp only
        refine r_inN (os := [none]) ⟨_, rfl, (br_t (by with_unfolding_all rfl) ?_)⟩
        refine s_ret (d_c (by with_unfolding_all rfl) ?_)
        dsimp only
        rotate_left
        all_goals exact q
      | some t =>
        simp only [B.kind, hx] at q
        have kt := kin x t hx
        refine s_seq (s_setL (i_list (d_call (d_cons (d_var (by with_unfolding_all rfl) ?_)))))
        refine d_nil ?_
        dsimp only
        ((with_reducible refine m_bi ?_); dsimp only [B.arms, List.map])
        refine ⟨_, rfl, ⟨(show _ ≤ 50000 by simp), ?_⟩⟩
        refine lcW_cons (g_nameV (by decide) ?_)
        refine d_yes (br_t (by with_unfolding_all rfl) ?_)
        refine d_call (d_cons (d_var (by with_unfolding_all rfl) ?_))
        refine d_cons (d_var (by with_unfolding_all rfl) ?_)
        refine d_cons (d_var (by with_unfolding_all rfl) ?_)
        refine d_cons (d_var (by with_unfolding_all rfl) ?_)
        refine d_nil ?_
        ((with_reducible refine m_kind ox (by omega) he ?_); rw [hx]; dsimp only [optD])
        refine lcW_nil (s_seq (s_if (d_test (d_op (d_c (by with_unfolding_all rfl) ?_)))))
        refine d_var (by with_unfolding_all rfl) ?_
        dsimp only
        refine r_inN (os := [some t]) ⟨_, rfl, (br_f (by with_unfolding_all rfl) ?_)⟩
        refine s_next (s_seq (s_set (d_op (d_var (by with_unfolding_all rfl) ?_))))
        refine d_c (by with_unfolding_all rfl) ?_
        refine r_ix (.inr (r_ixT (by with_unfolding_all rfl) ?_))
        refine s_seq (s_if (d_test (d_op (d_var (by with_unfolding_all rfl) ?_))))
        refine d_c (by with_unfolding_all rfl) ?_
        refine r_eqS ⟨_, rfl, (br_f (by assumption) ?_)⟩
        refine s_next (s_seq (s_if (d_test (d_op (d_var (by with_unfolding_all rfl) ?_)))))
        refine d_c (by with_unfolding_all rfl) ?_
        refine r_eqS ⟨_, rfl, (br_f (by assumption) ?_)⟩
        refine s_next (s_seq (s_if (d_test (d_op (d_var (by with_unfolding_all rfl) ?_)))))
        refine d_c (by with_unfolding_all rfl) ?_
        refine r_eqS ⟨_, rfl, (br_f (by assumption) ?_)⟩
        refine s_next (s_seq (s_if (d_test (d_op (d_var (by with_unfolding_all rfl) ?_)))))
        refine d_c (by with_unfolding_all rfl) ?_
        refine r_eqS ⟨_, rfl, (br_f (by assumption) ?_)⟩
        refine s_next (s_ret (d_call (d_cons (d_var (by with_unfolding_all rfl) ?_))))
        refine d_cons (d_var (by with_unfolding_all rfl) ?_)
        refine d_nil ?_
        dsimp only
        refine m_by (ks := [t]) (by simp [kt]) (.inl hv) ?_
        with_reducible assumption
        all_goals exact q
    case op2 v x y =>
      have ox := hb.2.1
      have oy := hb.2.2
      obtain ⟨n1, n2, n3, n4, hv⟩ := w2 v hb.1
      have hv' : ∀ k l : Str, (v ∈ fixTab.map (·.1)) ∨ (v = "same" ∧ [k, l].length = 2) ∨ (v = "if" ∧ [k, l].length = 3) ∨ (v = "then" ∧ [k, l].length = 2) := fun k l => by
        rcases hv with h | h | h
        · exact .inl h
        · exact .inr (.inl ⟨h, rfl⟩)
        · exact .inr (.inr (.inr ⟨h, rfl⟩))
      cases hx : x.kind takes calls cells with
      | none =>
        have e : B.kind takes calls cells (B.op2 v x y) = none := by simp only [B.kind, hx]
        rw [e] at q
        cases hy : y.kind takes calls cells with
        | none =>
          refine s_seq (s_setL (i_list (d_call (d_cons (d_var (by with_unfolding_all rfl) ?_)))))
          refine d_nil ?_
          dsimp only
          ((with_reducible refine m_bi ?_); dsimp only [B.arms, List.map])
          refine ⟨_, rfl, ⟨(show _ ≤ 50000 by simp), ?_⟩⟩
          refine lcW_cons (g_nameV (by decide) ?_)
          refine d_yes (br_t (by with_unfolding_all rfl) ?_)
          refine d_call (d_cons (d_var (by with_unfolding_all rfl) ?_))
          refine d_cons (d_var (by with_unfolding_all rfl) ?_)
          refine d_cons (d_var (by with_unfolding_all rfl) ?_)
          refine d_cons (d_var (by with_unfolding_all rfl) ?_)
          refine d_nil ?_
          ((with_reducible refine m_kind ox (by omega) he ?_); rw [hx]; dsimp only [optD])
          refine lcW_cons (g_nameV (by decide) ?_)
          refine d_yes (br_t (by with_unfolding_all rfl) ?_)
          refine d_call (d_cons (d_var (by with_unfolding_all rfl) ?_))
          refine d_cons (d_var (by with_unfolding_all rfl) ?_)
          refine d_cons (d_var (by with_unfolding_all rfl) ?_)
          refine d_cons (d_var (by with_unfolding_all rfl) ?_)
          refine d_nil ?_
          ((with_reducible refine m_kind oy (by omega) he ?_); rw [hy]; dsimp only [optD])
          refine lcW_nil (s_seq (s_if (d_test (d_op (d_c (by with_unfolding_all rfl) ?_)))))
          refine d_var (by with_unfolding_all rfl) ?_
          dsimp only
          refine r_inN (os := [none, none]) ⟨_, rfl, (br_t (by with_unfolding_all rfl) ?_)⟩
          refine s_ret (d_c (by with_unfolding_all rfl) ?_)
          dsimp only
          rotate_left
          all_goals exact q
        | some u =>
          refine s_seq (s_setL (i_list (d_call (d_cons (d_var (by with_unfolding_all rfl) ?_)))))
          refine d_nil ?_
          dsimp only
          ((with_reducible refine m_bi ?_); dsimp only [B.arms, List.map])
          refine ⟨_, rfl, ⟨(show _ ≤ 50000 by simp), ?_⟩⟩
          refine lcW_cons (g_nameV (by decide) ?_)
          refine d_yes (br_t (by with_unfolding_all rfl) ?_)
          refine d_call (d_cons (d_var (by with_unfolding_all rfl) ?_))
          refine d_cons (d_var (by with_unfolding_all rfl) ?_)
          refine d_cons (d_var (by with_unfolding_all rfl) ?_)
          refine d_cons (d_var (by with_unfolding_all rfl) ?_)
          refine d_nil ?_
          ((with_reducible refine m_kind ox (by omega) he ?_); rw [hx]; dsimp only [optD])
          refine lcW_cons (g_nameV (by decide) ?_)
          refine d_yes (br_t (by with_unfolding_all rfl) ?_)
          refine d_call (d_cons (d_var (by with_unfolding_all rfl) ?_))
          refine d_cons (d_var (by with_unfolding_all rfl) ?_)
          refine d_cons (d_var (by with_unfolding_all rfl) ?_)
          refine d_cons (d_var (by with_unfolding_all rfl) ?_)
          refine d_nil ?_
          ((with_reducible refine m_kind oy (by omega) he ?_); rw [hy]; dsimp only [optD])
          refine lcW_nil (s_seq (s_if (d_test (d_op (d_c (by with_unfolding_all rfl) ?_)))))
          refine d_var (by with_unfolding_all rfl) ?_
          dsimp only
          refine r_inN (os := [none, some u]) ⟨_, rfl, (br_t (by with_unfolding_all rfl) ?_)⟩
          refine s_ret (d_c (by with_unfolding_all rfl) ?_)
          dsimp only
          rotate_left
          all_goals exact q
      | some t =>
        cases hy : y.kind takes calls cells with
        | none =>
          have e : B.kind takes calls cells (B.op2 v x y) = none := by simp only [B.kind, hx, hy]
          rw [e] at q
          refine s_seq (s_setL (i_list (d_call (d_cons (d_var (by with_unfolding_all rfl) ?_)))))
          refine d_nil ?_
          dsimp only
          ((with_reducible refine m_bi ?_); dsimp only [B.arms, List.map])
          refine ⟨_, rfl, ⟨(show _ ≤ 50000 by simp), ?_⟩⟩
          refine lcW_cons (g_nameV (by decide) ?_)
          refine d_yes (br_t (by with_unfolding_all rfl) ?_)
          refine d_call (d_cons (d_var (by with_unfolding_all rfl) ?_))
          refine d_cons (d_var (by with_unfolding_all rfl) ?_)
          refine d_cons (d_var (by with_unfolding_all rfl) ?_)
          refine d_cons (d_var (by with_unfolding_all rfl) ?_)
          refine d_nil ?_
          ((with_reducible refine m_kind ox (by omega) he ?_); rw [hx]; dsimp only [optD])
          refine lcW_cons (g_nameV (by decide) ?_)
          refine d_yes (br_t (by with_unfolding_all rfl) ?_)
          refine d_call (d_cons (d_var (by with_unfolding_all rfl) ?_))
          refine d_cons (d_var (by with_unfolding_all rfl) ?_)
          refine d_cons (d_var (by with_unfolding_all rfl) ?_)
          refine d_cons (d_var (by with_unfolding_all rfl) ?_)
          refine d_nil ?_
          ((with_reducible refine m_kind oy (by omega) he ?_); rw [hy]; dsimp only [optD])
          refine lcW_nil (s_seq (s_if (d_test (d_op (d_c (by with_unfolding_all rfl) ?_)))))
          refine d_var (by with_unfolding_all rfl) ?_
          dsimp only
          refine r_inN (os := [some t, none]) ⟨_, rfl, (br_t (by with_unfolding_all rfl) ?_)⟩
          refine s_ret (d_c (by with_unfolding_all rfl) ?_)
          dsimp only
          rotate_left
          all_goals exact q
        | some u =>
          have e : B.kind takes calls cells (B.op2 v x y) = byArms v [t, u] := by simp only [B.kind, hx, hy]
          rw [e] at q
          have kt := kin x t hx
          have ku := kin y u hy
          refine s_seq (s_setL (i_list (d_call (d_cons (d_var (by with_unfolding_all rfl) ?_)))))
          refine d_nil ?_
          dsimp only
          ((with_reducible refine m_bi ?_); dsimp only [B.arms, List.map])
          refine ⟨_, rfl, ⟨(show _ ≤ 50000 by simp), ?_⟩⟩
          refine lcW_cons (g_nameV (by decide) ?_)
          refine d_yes (br_t (by with_unfolding_all rfl) ?_)
          refine d_call (d_cons (d_var (by with_unfolding_all rfl) ?_))
          refine d_cons (d_var (by with_unfolding_all rfl) ?_)
          refine d_cons (d_var (by with_unfolding_all rfl) ?_)
          refine d_cons (d_var (by with_unfolding_all rfl) ?_)
          refine d_nil ?_
          ((with_reducible refine m_kind ox (by omega) he ?_); rw [hx]; dsimp only [optD])
          refine lcW_cons (g_nameV (by decide) ?_)
          refine d_yes (br_t (by with_unfolding_all rfl) ?_)
          refine d_call (d_cons (d_var (by with_unfolding_all rfl) ?_))
          refine d_cons (d_var (by with_unfolding_all rfl) ?_)
          refine d_cons (d_var (by with_unfolding_all rfl) ?_)
          refine d_cons (d_var (by with_unfolding_all rfl) ?_)
          refine d_nil ?_
          ((with_reducible refine m_kind oy (by omega) he ?_); rw [hy]; dsimp only [optD])
          refine lcW_nil (s_seq (s_if (d_test (d_op (d_c (by with_unfolding_all rfl) ?_)))))
          refine d_var (by with_unfolding_all rfl) ?_
          dsimp only
          refine r_inN (os := [some t, some u]) ⟨_, rfl, (br_f (by with_unfolding_all rfl) ?_)⟩
          refine s_next (s_seq (s_set (d_op (d_var (by with_unfolding_all rfl) ?_))))
          refine d_c (by with_unfolding_all rfl) ?_
          refine r_ix (.inr (r_ixT (by with_unfolding_all rfl) ?_))
          refine s_seq (s_if (d_test (d_op (d_var (by with_unfolding_all rfl) ?_))))
          refine d_c (by with_unfolding_all rfl) ?_
          refine r_eqS ⟨_, rfl, (br_f (by assumption) ?_)⟩
          refine s_next (s_seq (s_if (d_test (d_op (d_var (by with_unfolding_all rfl) ?_)))))
          refine d_c (by with_unfolding_all rfl) ?_
          refine r_eqS ⟨_, rfl, (br_f (by assumption) ?_)⟩
          refine s_next (s_seq (s_if (d_test (d_op (d_var (by with_unfolding_all rfl) ?_)))))
          refine d_c (by with_unfolding_all rfl) ?_
          refine r_eqS ⟨_, rfl, (br_f (by assumption) ?_)⟩
          refine s_next (s_seq (s_if (d_test (d_op (d_var (by with_unfolding_all rfl) ?_)))))
          refine d_c (by with_unfolding_all rfl) ?_
          refine r_eqS ⟨_, rfl, (br_f (by assumption) ?_)⟩
          refine s_next (s_ret (d_call (d_cons (d_var (by with_unfolding_all rfl) ?_))))
          refine d_cons (d_var (by with_unfolding_all rfl) ?_)
          refine d_nil ?_
          dsimp only
          refine m_by (ks := [t, u]) (by simp [kt, ku]) (hv' t u) ?_
          with_reducible assumption
          all_goals exact q
    case ite x y z =>
      have ox := hb.1
      have oy := hb.2.1
      have oz := hb.2.2
      have any3 : ∀ o1 o2 o3 : Option Str, x.kind takes calls cells = o1 → y.kind takes calls cells = o2 → z.kind takes calls cells = o3 → (o1 = none ∨ o2 = none ∨ o3 = none) → B.kind takes calls cells (B.ite x y z) = none := by
        intro o1 o2 o3 e1 e2 e3 h
        simp only [B.kind, e1, e2, e3]
        rcases h with rfl | rfl | rfl
        · rfl
        · cases o1 <;> rfl
        · cases o1 <;> cases o2 <;> rfl
      by_cases hn : ([x.kind takes calls cells, y.kind takes calls cells, z.kind takes calls cells].any Option.isNone) = true
      · have e : B.kind takes calls cells (B.ite x y z) = none := by
          refine any3 _ _ _ rfl rfl rfl ?_
          simpa [Option.isNone_iff_eq_none] using hn
        rw [e] at q
        refine s_seq (s_setL (i_list (d_call (d_cons (d_var (by with_unfolding_all rfl) ?_)))))
        refine d_nil ?_
        dsimp only
        ((with_reducible refine m_bi ?_); dsimp only [B.arms, List.map])
        refine ⟨_, rfl, ⟨(show _ ≤ 50000 by simp), ?_⟩⟩
        refine lcW_cons (g_nameV (by decide) ?_)
        refine d_yes (br_t (by with_unfolding_all rfl) ?_)
        refine d_call (d_cons (d_var (by with_unfolding_all rfl) ?_))
        refine d_cons (d_var (by with_unfolding_all rfl) ?_)
        refine d_cons (d_var (by with_unfolding_all rfl) ?_)
        refine d_cons (d_var (by with_unfolding_all rfl) ?_)
        refine d_nil (m_kind ox (by omega) he ?_)
        refine lcW_cons (g_nameV (by decide) ?_)
        refine d_yes (br_t (by with_unfolding_all rfl) ?_)
        refine d_call (d_cons (d_var (by with_unfolding_all rfl) ?_))
        refine d_cons (d_var (by with_unfolding_all rfl) ?_)
        refine d_cons (d_var (by with_unfolding_all rfl) ?_)
        refine d_cons (d_var (by with_unfolding_all rfl) ?_)
        refine d_nil (m_kind oy (by omega) he ?_)
        refine lcW_cons (g_nameV (by decide) ?_)
        refine d_yes (br_t (by with_unfolding_all rfl) ?_)
        refine d_call (d_cons (d_var (by with_unfolding_all rfl) ?_))
        refine d_cons (d_var (by with_unfolding_all rfl) ?_)
        refine d_cons (d_var (by with_unfolding_all rfl) ?_)
        refine d_cons (d_var (by with_unfolding_all rfl) ?_)
        refine d_nil (m_kind oz (by omega) he ?_)
        refine lcW_nil (s_seq (s_if (d_test (d_op (d_c (by with_unfolding_all rfl) ?_)))))
        refine d_var (by with_unfolding_all rfl) ?_
        dsimp only
        refine r_inN (os := [x.kind takes calls cells, y.kind takes calls cells, z.kind takes calls cells]) ⟨_, rfl, (br_t (by assumption) ?_)⟩
        refine s_ret (d_c (by with_unfolding_all rfl) ?_)
        dsimp only
        rotate_left
        all_goals exact q
      · obtain ⟨t, hx⟩ : ∃ t, x.kind takes calls cells = some t := by
          cases h : x.kind takes calls cells with
          | none => exact absurd (by simp [h]) hn
          | some t => exact ⟨t, rfl⟩
        obtain ⟨u, hy⟩ : ∃ t, y.kind takes calls cells = some t := by
          cases h : y.kind takes calls cells with
          | none => exact absurd (by simp [h]) hn
          | some t => exact ⟨t, rfl⟩
        obtain ⟨v, hz⟩ : ∃ t, z.kind takes calls cells = some t := by
          cases h : z.kind takes calls cells with
          | none => exact absurd (by simp [h]) hn
          | some t => exact ⟨t, rfl⟩
        have e : B.kind takes calls cells (B.ite x y z) = byArms "if" [t, u, v] := by simp only [B.kind, hx, hy, hz]
        rw [e] at q
        have kt := kin x t hx
        have ku := kin y u hy
        have kv := kin z v hz
        refine s_seq (s_setL (i_list (d_call (d_cons (d_var (by with_unfolding_all rfl) ?_)))))
        refine d_nil ?_
        dsimp only
        ((with_reducible refine m_bi ?_); dsimp only [B.arms, List.map])
        refine ⟨_, rfl, ⟨(show _ ≤ 50000 by simp), ?_⟩⟩
        refine lcW_cons (g_nameV (by decide) ?_)
        refine d_yes (br_t (by with_unfolding_all rfl) ?_)
        refine d_call (d_cons (d_var (by with_unfolding_all rfl) ?_))
        refine d_cons (d_var (by with_unfolding_all rfl) ?_)
        refine d_cons (d_var (by with_unfolding_all rfl) ?_)
        refine d_cons (d_var (by with_unfolding_all rfl) ?_)
        refine d_nil ?_
        ((with_reducible refine m_kind ox (by omega) he ?_); rw [hx]; dsimp only [optD])
        refine lcW_cons (g_nameV (by decide) ?_)
        refine d_yes (br_t (by with_unfolding_all rfl) ?_)
        refine d_call (d_cons (d_var (by with_unfolding_all rfl) ?_))
        refine d_cons (d_var (by with_unfolding_all rfl) ?_)
        refine d_cons (d_var (by with_unfolding_all rfl) ?_)
        refine d_cons (d_var (by with_unfolding_all rfl) ?_)
        refine d_nil ?_
        ((with_reducible refine m_kind oy (by omega) he ?_); rw [hy]; dsimp only [optD])
        refine lcW_cons (g_nameV (by decide) ?_)
        refine d_yes (br_t (by with_unfolding_all rfl) ?_)
        refine d_call (d_cons (d_var (by with_unfolding_all rfl) ?_))
        refine d_cons (d_var (by with_unfolding_all rfl) ?_)
        refine d_cons (d_var (by with_unfolding_all rfl) ?_)
        refine d_cons (d_var (by with_unfolding_all rfl) ?_)
        refine d_nil ?_
        ((with_reducible refine m_kind oz (by omega) he ?_); rw [hz]; dsimp only [optD])
        refine lcW_nil (s_seq (s_if (d_test (d_op (d_c (by with_unfolding_all rfl) ?_)))))
        refine d_var (by with_unfolding_all rfl) ?_
        dsimp only
        refine r_inN (os := [some t, some u, some v]) ⟨_, rfl, (br_f (by with_unfolding_all rfl) ?_)⟩
        refine s_next (s_seq (s_set (d_op (d_var (by with_unfolding_all rfl) ?_))))
        refine d_c (by with_unfolding_all rfl) ?_
        refine r_ix (.inr (r_ixT (by with_unfolding_all rfl) ?_))
        refine s_seq (s_if (d_test (d_op (d_var (by with_unfolding_all rfl) ?_))))
        refine d_c (by with_unfolding_all rfl) ?_
        refine r_eqS ⟨_, rfl, (br_f (by with_unfolding_all rfl) ?_)⟩
        refine s_next (s_seq (s_if (d_test (d_op (d_var (by with_unfolding_all rfl) ?_)))))
        refine d_c (by with_unfolding_all rfl) ?_
        refine r_eqS ⟨_, rfl, (br_f (by with_unfolding_all rfl) ?_)⟩
        refine s_next (s_seq (s_if (d_test (d_op (d_var (by with_unfolding_all rfl) ?_)))))
        refine d_c (by with_unfolding_all rfl) ?_
        refine r_eqS ⟨_, rfl, (br_f (by with_unfolding_all rfl) ?_)⟩
        refine s_next (s_seq (s_if (d_test (d_op (d_var (by with_unfolding_all rfl) ?_)))))
        refine d_c (by with_unfolding_all rfl) ?_
        refine r_eqS ⟨_, rfl, (br_f (by with_unfolding_all rfl) ?_)⟩
        refine s_next (s_ret (d_call (d_cons (d_var (by with_unfolding_all rfl) ?_))))
        refine d_cons (d_var (by with_unfolding_all rfl) ?_)
        refine d_nil ?_
        dsimp only
        refine m_by (ks := [t, u, v]) (by simp [kt, ku, kv]) (.inr (.inr (.inl ⟨rfl, rfl⟩))) ?_
        with_reducible assumption
        all_goals exact q
end
end Pr
set_option Elab.async false
set_option linter.all false
set_option maxRecDepth 100000
set_option maxHeartbeats 2000000
namespace Pr
open PySem L2 PD
section
variable {P : Program} {w : World} {K : PySem.W.Frag} {mg : Str → Option Value} {base : Heap}
/-- rows that are as they should be: what they are, their names -/
structure RowK (ok : D → Prop) (nm : D → Str) (M : List D → (D → Prop) → Prop) : Prop where
  tup : ∀ r, ok r → ∃ rest, r = .tup (.str (nm r) :: rest)
  yes : ∀ r, ok r → ∀ kk : D → Prop, kk (.bl true) → M [r] kk
  txt : ∀ r, ok r → PyData.strOk (nm r) = true
def M_rows (ok : D → Prop) (nm : D → Str) (fr : Addr) : List D → (D → Prop) → Prop := fun ds k => ∃ (rows : List D) (most : Int), ds = [.tup rows, .int most, .adr fr] ∧ (rows.length : Int) ≤ most ∧ rows.length ≤ 60 ∧ (∀ r ∈ rows, ok r) ∧ (rows.map nm).Pairwise up ∧ k (.bl true)
theorem ok_rows {ok : D → Prop} {nm : D → Str} {M : List D → (D → Prop) → Prop} (rk : RowK ok nm M) {j : Nat} {xr : Str} {fr : Addr} {fdr : FuncData} (T : Txt w K mg) (Cr : CalF P w K mg base j xr ["row"] none M fr fdr) :
    Cal P w K mg base (j + 1) "are_rows" ["rows", "most", "is_row"] none (M_rows ok nm fr) := by
  refine okF T.f_are_rows sc_are_rows (fun _ _ _ _ _ _ us hl => match us, hl with | [_, _, _], _ => rfl) (fun ds k h => ?_) (fun f cdv A outer s H E ds kk hr h => ?_)
  · obtain ⟨_, _, rfl, _⟩ := h
    rfl
  obtain ⟨rows, most, rfl, hm, h60, hok, hup, q⟩ := h
  refine ⟨_, (pss_cons (ps_if (PW.pt (pw_or (pt_not (pt_val (pe_callB (r := rIsi K) (id := "isinstance") call_isi (by rfl) T.z_isinstance (by decide +kernel) (pa_cons (pv 0) (pa_cons (pe_bty (n := "tuple") rfl T.z_tuple (by decide +kernel)) pa_nil))))) (pw_or1 (pt_cmpR op_gt (pe_callB (r := rLenQ K) (id := "len") call_len_seq (by rfl) T.z_len PySem.boot_len (pa_cons (pv 0) pa_nil)) (pv 1) (nomark _))))) (pss_one (ps_ret pe_bl)) pss_nil)
      (pss_cons (ps_for PassesOwn.never rfl (pi_tup (pv 0)) (pg_name (i := 3) sc_are_rows.nd rfl (by first | exact Or.inl rfl | exact Or.inr rfl)) (pss_one (ps_if (PW.pt (pw_or (pt_not (pt_val (pe_callB (r := rIsi K) (id := "isinstance") call_isi (by rfl) T.z_isinstance (by decide +kernel) (pa_cons (pv 3) (pa_cons (pe_bty (n := "tuple") rfl T.z_tuple (by decide +kernel)) pa_nil))))) (pw_or1 (pt_not (pt_val (pe_callL (i := 2) Cr.ok hr rfl (by first | exact Or.inl rfl | exact Or.inr (Or.inl rfl)) Cr.keep Cr.binds .nil pass0 (pa_cons (pv 3) pa_nil))))))) (pss_one (ps_ret pe_bl)) pss_nil)))
      (pss_cons (ps_setLc (i := 4) (own := [("row", 3)]) (g := gName 3) (tt := tYes) rfl sc_are_rows.nd rfl rfl (sw_true rfl rfl rfl (by decide +kernel)) (pi_tup (pv 0)) (blkOk_by (own := [("row", 3)]) (N := N_are_rows) (sc := defScope s_are_rows) (by decide +kernel)) (fun _ _ _ _ _ => (pg_name (i := 3) sc_are_rows.nd rfl (by first | exact Or.inl rfl | exact Or.inr rfl))) (fun _ _ _ _ _ => pts_nil) (fun _ _ _ _ _ => (pe_ix (r := rIx K) ix_seq (pv 3) pe_int (fun _ _ => rfl))))
      (pss_one (ps_ret (pe_cmpR (r := rEqD K) (op_eqD hr.units) (pv 4) (pe_callB (r := PT.rSortedTx w) (id := "sorted") (PT.cr_sortedTx rfl) (by rfl) T.z_sorted (by decide +kernel) (pa_cons (pe_callTy (r := PT.rSetTx K w) (T := "set") (PT.cr_setTx rfl) (by rfl) T.z_set (by decide +kernel) (pa_cons (pv 4) pa_nil)) pa_nil)) (nomark _))))))), ?_⟩
  try dsimp only [cxOf]
  change dS _ _ _ [Sl.d _, Sl.d _, Sl.d _, Sl.un, Sl.un] _
  have hlen : decide (most < (rows.length : Int)) = false := decide_eq_false (by omega)
  have tg : ∀ d, ok d → tgD d = some .tup := fun d h => by
    obtain ⟨_, e⟩ := rk.tup d h
    rw [e]; rfl
  refine s_seq (s_if (d_or (d_not (d_tB (d_cb (d_cons (d_var (by with_unfolding_all rfl) ?_)))))))
  refine d_cons (d_c (by with_unfolding_all rfl) ?_)
  refine d_nil (c_tup (by with_unfolding_all rfl) ?_)
  refine ⟨_, rfl, (br_f (by with_unfolding_all rfl) ?_)⟩
  refine d_test (d_op (d_cb (d_cons (d_var (by with_unfolding_all rfl) ?_))))
  refine d_nil (c_lenS (.inr rfl) (d_var (by with_unfolding_all rfl) ?_))
  refine r_I0 (by with_unfolding_all rfl) ?_
  refine ⟨_, rfl, (br_f (by assumption) ?_)⟩
  refine s_next (s_seq (s_for (i_tup (d_var (by with_unfolding_all rfl) ?_))))
  refine ⟨_, rfl, ?_⟩
  dsimp only
  rotate_left
  refine forW_inv (fun r ρ => (∀ x ∈ r, ok x) ∧ ∃ s3, ρ = [Sl.d (D.tup rows), Sl.d (D.int most), Sl.d (D.adr fr), s3, Sl.un]) ?_ ?_ rows _ ⟨hok, _, rfl⟩
  · rintro ρ ⟨_, s3, rfl⟩
    have fin : decide (rows.map nm = rows.map nm) = true := decide_eq_true rfl
    have ot : ∀ s ∈ rows.map nm, PyData.strOk s = true := fun s h => by
      obtain ⟨r, hr, rfl⟩ := List.mem_map.mp h
      exact rk.txt r (hok r hr)
    dsimp only
    refine s_seq (s_setL (i_tup (d_var rfl ⟨_, rfl, by omega, ?_⟩)))
    refine lcW_fun (P := ok) (p := fun _ => true) (f := fun d => .str (nm d)) (fun d hd kx hx => g_nameV (by decide) (hx _ (fun kb q => d_yes q) fun _ k q => ?_)) rows [] hok ?_
    · obtain ⟨rest, e⟩ := rk.tup d hd
      refine d_op (d_var (x := d) rfl (d_c rfl ?_))
      rw [e]
      exact r_ix (.inr (r_ixT (show atI _ ((0 : Nat) : Int) = _ from atI_nat rfl) q))
    · have ef : rows.filter (fun _ => true) = rows := List.filter_eq_self.mpr fun _ _ => rfl
      rw [List.nil_append, ef]
      have es : rows.map (fun d => D.str (nm d)) = strsOf (rows.map nm) := by unfold strsOf; rw [List.map_map]; rfl
      rw [es]
      dsimp only
      refine s_ret (d_op (d_var rfl (d_sortedSet (d_var rfl ⟨rows.map nm, rfl, by rw [List.length_map]; exact h60, fun ys y1 y2 y3 => ?_⟩))))
      have ey := sorted_is y1 y2 hup y3
      subst ey
      refine r_eqL ot ot ?_
      rw [fin]
      exact q
  · rintro d r ρ ⟨ho, s3, rfl⟩
    have hd := ho d List.mem_cons_self
    refine g_name (s_if (d_or (d_not (d_tB (d_cb (d_cons (d_var (by with_unfolding_all rfl) ?_)))))))
    refine d_cons (d_c (by with_unfolding_all rfl) ?_)
    refine d_nil ?_
    dsimp only
    refine c_tup (tg d hd) ⟨_, rfl, (br_f (by with_unfolding_all rfl) ?_)⟩
    refine d_not (d_tB (d_callLP (by with_unfolding_all rfl) ?_))
    refine d_cons (d_var (by with_unfolding_all rfl) ?_)
    refine d_nil ?_
    refine rk.yes d hd _ ⟨_, rfl, (br_f (by with_unfolding_all rfl) ?_)⟩
    refine s_next ?_
    dsimp only
    rotate_left
    exact ⟨fun x hx => ho x (List.mem_cons_of_mem _ hx), _, rfl⟩
/-! ### parts -/
structure Dd where
  name : Str
  takes : Str
  tells : Str
  body : B
def Dd.toD (d : Dd) : D := .tup [.str d.name, .str d.takes, .str d.tells, d.body.toD]
structure Dd.ok (d : Dd) : Prop where
  n : d.name ∈ deedsS
  t : d.takes ∈ kindsS
  u : d.tells ∈ kindsS
  b : d.body.ok
  depth : d.body.depth ≤ 10
  size : d.body.size ≤ 60
def askD (a : Str × Str × Str) : D := .tup [.str a.1, .str a.2.1, .str a.2.2]
def celD (a : Str × Str) : D := .tup [.str a.1, .str a.2]
structure Pt where
  name : Str
  deeds : List Dd
  asks : CT
  cells : ET
def Pt.toD (p : Pt) : D := .tup [.str p.name, .tup (p.deeds.map Dd.toD), .tup (p.asks.map askD), .tup (p.cells.map celD)]
structure Pt.ok (p : Pt) : Prop where
  n : p.name ∈ partsS
  d8 : p.deeds.length ≤ 8
  d : ∀ d ∈ p.deeds, d.ok
  dup : (p.deeds.map Dd.name).Pairwise up
  a8 : p.asks.length ≤ 8
  a : ∀ a ∈ p.asks, a.1 ∈ deedsS ∧ a.2.1 ∈ kindsS ∧ a.2.2 ∈ kindsS
  aup : (p.asks.map (·.1)).Pairwise up
  apart : ∀ a ∈ p.asks, a.1 ∉ p.deeds.map Dd.name
  c4 : p.cells.length ≤ 4
  c : ∀ c ∈ p.cells, c.1 ∈ cellsS ∧ c.2 ∈ kindsS
  cup : (p.cells.map (·.1)).Pairwise up
theorem m_ask {x t u : Str} {k : D → Prop} (h : k (.bl (decide (x ∈ deedsS) && (decide (t ∈ kindsS) && decide (u ∈ kindsS))))) : M_is_ask [.tup [.str x, .str t, .str u]] k := ⟨x, t, u, rfl, h⟩
theorem m_body {b : B} {k : D → Prop} (h1 : b.ok) (h2 : b.depth ≤ 10) (h3 : b.size ≤ 60) (h : k (.bl true)) : M_is_body [b.toD] k := ⟨b, rfl, h1, h2, h3, h⟩
def M_is_deed : List D → (D → Prop) → Prop := fun ds k => ∃ d : Dd, ds = [d.toD] ∧ d.ok ∧ k (.bl true)
theorem ok_is_deed (T : Txt w K mg) : Cal P w K mg base 15 "is_deed" ["row"] none M_is_deed := by
  have C_is_ask := ok_is_ask (P := P) (base := base) T
  have C_is_body := ok_is_body (P := P) (base := base) T
  refine okF T.f_is_deed sc_is_deed (fun _ _ _ _ _ _ us hl => match us, hl with | [_], _ => rfl) (fun ds k h => ?_) (fun f cdv A outer s H E ds kk hr h => ?_)
  · obtain ⟨_, rfl, _⟩ := h
    rfl
  obtain ⟨d, rfl, hd, q⟩ := h
  refine ⟨_, (pss_one (ps_ret (pe_and (pe_cmpR op_eq (pe_callB (r := rLenQ K) (id := "len") call_len_seq (by rfl) T.z_len PySem.boot_len (pa_cons (pv 0) pa_nil)) pe_int (nomark _)) (pe_and (pe_calK (K := K) rfl C_is_ask (hr.mono (by first | decide | omega)) rfl (pa_cons (pe_slice (r := rSlA K) sl_tupA (pv 0) po_none (po_some pe_int)) pa_nil)) (pe_one (pe_calK (K := K) rfl C_is_body (hr.mono (by first | decide | omega)) rfl (pa_cons (pe_ix (r := rIx K) ix_seq (pv 0) pe_int (fun _ _ => rfl)) pa_nil))))))), ?_⟩
  try dsimp only [cxOf]
  change dS _ _ _ [Sl.d _] _
  have h1 : (decide (d.name ∈ deedsS) && (decide (d.takes ∈ kindsS) && decide (d.tells ∈ kindsS))) = true := by simp [hd.n, hd.t, hd.u]
  dsimp only [Dd.toD]
  refine s_ret (d_andV (d_op (d_cb (d_cons (d_var (by with_unfolding_all rfl) ?_)))))
  refine d_nil (c_lenS (.inr rfl) (d_c (by with_unfolding_all rfl) ?_))
  refine r_eqI ⟨_, rfl, (br_t (by with_unfolding_all rfl) ?_)⟩
  refine d_andV (d_call (d_cons (d_slT3 (d_var (by with_unfolding_all rfl) ?_))))
  refine ⟨_, _, _, _, rfl, (d_nil ?_)⟩
  dsimp only
  refine m_ask ⟨_, rfl, (br_t (by assumption) ?_)⟩
  refine d_call (d_cons (d_op (d_var (by with_unfolding_all rfl) ?_)))
  refine d_c (by with_unfolding_all rfl) ?_
  refine r_ix (.inr (r_ixT (by with_unfolding_all rfl) ?_))
  refine d_nil (m_body hd.b hd.depth hd.size ?_)
  with_reducible assumption
  all_goals exact q
theorem look_kinds : ∀ s ∈ deedsS, PyData.strOk s = true := by decide +kernel
theorem look_cells : ∀ s ∈ cellsS, PyData.strOk s = true := by decide +kernel
def nm0 : D → Str
  | .tup (.str x :: _) => x
  | _ => Str.empty
theorem rk_deed : RowK (fun r => ∃ d : Dd, r = d.toD ∧ d.ok) nm0 M_is_deed where
  tup := fun r ⟨d, e, _⟩ => by subst e; exact ⟨_, rfl⟩
  yes := fun r ⟨d, e, h⟩ kk q => by subst e; exact ⟨d, rfl, h, q⟩
  txt := fun r ⟨d, e, h⟩ => by subst e; exact look_kinds _ h.n
theorem rk_ask : RowK (fun r => ∃ a : Str × Str × Str, r = askD a ∧ a.1 ∈ deedsS ∧ a.2.1 ∈ kindsS ∧ a.2.2 ∈ kindsS) nm0 M_is_ask where
  tup := fun r ⟨d, e, _⟩ => by subst e; exact ⟨_, rfl⟩
  yes := fun r ⟨d, e, h1, h2, h3⟩ kk q => by
    subst e
    refine ⟨d.1, d.2.1, d.2.2, rfl, ?_⟩
    rw [decide_eq_true h1, decide_eq_true h2, decide_eq_true h3]
    exact q
  txt := fun r ⟨d, e, h⟩ => by subst e; exact look_kinds _ h.1
theorem rk_cell : RowK (fun r => ∃ a : Str × Str, r = celD a ∧ a.1 ∈ cellsS ∧ a.2 ∈ kindsS) nm0 M_is_cell where
  tup := fun r ⟨d, e, _⟩ => by subst e; exact ⟨_, rfl⟩
  yes := fun r ⟨d, e, h1, h2⟩ kk q => by
    subst e
    refine ⟨d.1, d.2, rfl, ?_⟩
    rw [decide_eq_true h1, decide_eq_true h2]
    exact q
  txt := fun r ⟨d, e, h⟩ => by subst e; exact look_cells _ h.1
end
end Pr
set_option Elab.async false
set_option linter.all false
set_option maxRecDepth 100000
set_option maxHeartbeats 2000000
namespace Pr
open PySem L2 PD
section
variable {P : Program} {w : World} {K : PySem.W.Frag} {mg : Str → Option Value} {base : Heap}
abbrev okDeed : D → Prop := fun r => ∃ d : Dd, r = d.toD ∧ d.ok
abbrev okAsk : D → Prop := fun r => ∃ a : Str × Str × Str, r = askD a ∧ a.1 ∈ deedsS ∧ a.2.1 ∈ kindsS ∧ a.2.2 ∈ kindsS
abbrev okCell : D → Prop := fun r => ∃ a : Str × Str, r = celD a ∧ a.1 ∈ cellsS ∧ a.2 ∈ kindsS
theorem nm_deeds (l : List Dd) : (l.map Dd.toD).map nm0 = l.map Dd.name := by rw [List.map_map]; rfl
theorem nm_asks (l : CT) : (l.map askD).map nm0 = l.map (·.1) := by rw [List.map_map]; rfl
theorem nm_cells (l : ET) : (l.map celD).map nm0 = l.map (·.1) := by rw [List.map_map]; rfl
theorem m_rows {ok : D → Prop} {nm : D → Str} {fr : Addr} {rows : List D} {most : Int} {k : D → Prop} (h1 : (rows.length : Int) ≤ most) (h2 : rows.length ≤ 60) (h3 : ∀ r ∈ rows, ok r) (h4 : (rows.map nm).Pairwise up) (h : k (.bl true)) : M_rows ok nm fr [.tup rows, .int most, .adr fr] k := ⟨rows, most, rfl, h1, h2, h3, h4, h⟩
def M_asks : List D → (D → Prop) → Prop := fun ds k => ∃ p : Pt, ds = [.tup (p.asks.map askD), .tup (p.deeds.map Dd.toD)] ∧ p.ok ∧ k (.bl true)
theorem ok_asks (T : Txt w K mg) : Cal P w K mg base 3 "are_asks" ["rows", "deeds"] none M_asks := by
  obtain ⟨fa, fda, Ca⟩ := ok_is_ask (P := P) (base := base) T
  have C_are_rows := ok_rows rk_ask T Ca
  refine okF T.f_are_asks sc_are_asks (fun _ _ _ _ _ _ us hl => match us, hl with | [_, _], _ => rfl) (fun ds k h => ?_) (fun f cdv A outer s H E ds kk hr h => ?_)
  · obtain ⟨_, rfl, _⟩ := h
    rfl
  obtain ⟨p, rfl, hp, q⟩ := h
  obtain ⟨tm, gM⟩ := T.MDEEDS
  have ga := Ca.at_
  refine ⟨_, (pss_cons (ps_if (pt_not (pt_val (pe_calK (K := K) rfl C_are_rows (hr.mono (by first | decide | omega)) rfl (pa_cons (pv 0) (pa_cons (pe_gint rfl gM) (pa_cons (pe_gref rfl ga) pa_nil)))))) (pss_one (ps_ret pe_bl)) pss_nil)
      (pss_cons (ps_set (i := 2) sc_are_asks.nd rfl (by first | exact Or.inl rfl | exact Or.inr rfl) (pe_lc (own := [("deed", 3)]) (g := gName 3) (tt := tYes) rfl sc_are_asks.nd (pi_tup (pv 1)) (blkOk_by (own := [("deed", 3)]) (N := N_are_asks) (sc := defScope s_are_asks) (by decide +kernel)) (fun _ _ _ _ _ => (pg_name (i := 3) sc_are_asks.nd rfl (by first | exact Or.inl rfl | exact Or.inr rfl))) (fun _ _ _ _ _ => pts_nil) (fun _ _ _ _ _ => (pe_ix (r := rIx K) ix_seq (pv 3) pe_int (fun _ _ => rfl)))))
      (pss_one (ps_ret (pe_not (pe_callB (r := rAny K) (id := "any") (cr_any rfl) (by rfl) T.z_any (by decide +kernel) (pa_cons (pe_lc (own := [("row", 4)]) (g := gName 4) (tt := tYes) rfl sc_are_asks.nd (pi_tup (pv 0)) (blkOk_by (own := [("row", 4)]) (N := N_are_asks) (sc := defScope s_are_asks) (by decide +kernel)) (fun _ _ _ _ _ => (pg_name (i := 4) sc_are_asks.nd rfl (by first | exact Or.inl rfl | exact Or.inr rfl))) (fun _ _ _ _ _ => pts_nil) (fun _ _ _ _ _ => (pe_cmpR (r := rIn K false) op_in_seq (pe_ix (r := rIx K) ix_seq (pv 4) pe_int (fun _ _ => rfl)) (pv 2) rfl))) pa_nil))))))), ?_⟩
  try dsimp only [cxOf]
  change dS _ _ _ [Sl.d _, Sl.d _, Sl.un, Sl.un, Sl.un] _
  have ok3 : ∀ r ∈ p.asks.map askD, okAsk r := fun r h => by
    obtain ⟨a, ha, rfl⟩ := List.mem_map.mp h
    exact ⟨a, rfl, hp.a a ha⟩
  refine s_seq (s_if (d_not (d_tB (d_call (d_cons (d_var rfl (d_cons (d_c rfl (d_cons (d_c rfl (d_nil (m_rows (by rw [List.length_map]; have := hp.a8; omega) (by rw [List.length_map]; have := hp.a8; omega) ok3 (by rw [nm_asks]; exact hp.aup) ⟨true, rfl, br_f rfl ?_⟩))))))))))))
  refine s_next (s_seq (s_setL (i_tup (d_var rfl ⟨_, rfl, (by rw [List.length_map]; have := hp.d8; omega), ?_⟩))))
  refine lcW_fun (P := fun d => ∃ x rest, d = .tup (.str x :: rest)) (p := fun _ => true) (f := fun d => .str (nm0 d)) (fun d hd kx hx => g_nameV (by decide) (hx _ (fun kb q => d_yes q) fun _ k q => ?_)) _ [] ?_ ?_
  · obtain ⟨x, rest, rfl⟩ := hd
    exact d_op (d_var rfl (d_c rfl (r_ix (.inr (r_ixT (show atI _ ((0 : Nat) : Int) = _ from atI_nat rfl) q)))))
  · intro d hd
    obtain ⟨a, ha, rfl⟩ := List.mem_map.mp hd
    exact ⟨_, _, rfl⟩
  · have ef : (p.deeds.map Dd.toD).filter (fun _ => true) = p.deeds.map Dd.toD := List.filter_eq_self.mpr fun _ _ => rfl
    have es : (p.deeds.map Dd.toD).map (fun d => D.str (nm0 d)) = strsOf (p.deeds.map Dd.name) := by unfold strsOf; rw [List.map_map, List.map_map]; rfl
    rw [List.nil_append, ef, es]
    dsimp only
    refine s_ret (d_notV (d_cb (d_cons (d_lc (i_tup (d_var rfl ⟨_, rfl, (by rw [List.length_map]; have := hp.a8; omega), ?_⟩))))))
    refine lcW_fun (P := fun d => ∃ x rest, d = .tup (.str x :: rest)) (p := fun _ => true) (f := fun d => .bl (decide (nm0 d ∈ p.deeds.map Dd.name))) (fun d hd kx hx => g_nameV (by decide) (hx _ (fun kb q => d_yes q) fun _ k q => ?_)) _ [] ?_ ?_
    · obtain ⟨x, rest, rfl⟩ := hd
      exact d_op (d_op (d_var rfl (d_c rfl (r_ix (.inr (r_ixT (show atI _ ((0 : Nat) : Int) = _ from atI_nat rfl) (d_var rfl (r_in2 q))))))))
    · intro d hd
      obtain ⟨a, ha, rfl⟩ := List.mem_map.mp hd
      exact ⟨_, _, rfl⟩
    · have ef2 : (p.asks.map askD).filter (fun _ => true) = p.asks.map askD := List.filter_eq_self.mpr fun _ _ => rfl
      have es2 : (p.asks.map askD).map (fun d => D.bl (decide (nm0 d ∈ p.deeds.map Dd.name))) = (p.asks.map fun a => decide (a.1 ∈ p.deeds.map Dd.name)).map D.bl := by rw [List.map_map, List.map_map]; rfl
      have none : (p.asks.map fun a => decide (a.1 ∈ p.deeds.map Dd.name)).any id = false := by
        rw [List.any_eq_false]
        intro x hx
        obtain ⟨a, ha, rfl⟩ := List.mem_map.mp hx
        simp [hp.apart a ha]
      rw [List.nil_append, ef2, es2]
      refine d_nil (c_any ⟨_, rfl, ?_⟩)
      rw [none]
      exact q
/-! ### a part's first fault -/
def M_part (o : Pt → D) : List D → (D → Prop) → Prop := fun ds k => ∃ p : Pt, ds = [p.toD] ∧ p.ok ∧ k (o p)
theorem ok_fault (T : Txt w K mg) : Cal P w K mg base 17 "fault_of" ["part"] none (M_part fun _ => .non) := by
  obtain ⟨fd1, fdd1, Cd⟩ := ok_is_deed (P := P) (base := base) T
  obtain ⟨fc1, fdc1, Cc⟩ := ok_is_cell (P := P) (base := base) T
  have C_deeds := ok_rows rk_deed T Cd
  have C_cells := ok_rows rk_cell T Cc
  have C_are_asks := ok_asks (P := P) (base := base) T
  refine okF T.f_fault_of sc_fault_of (fun _ _ _ _ _ _ us hl => match us, hl with | [_], _ => rfl) (fun ds k h => ?_) (fun f cdv A outer s H E ds kk hr h => ?_)
  · obtain ⟨_, rfl, _⟩ := h
    rfl
  obtain ⟨p, rfl, hp, q⟩ := h
  obtain ⟨tm, gM⟩ := T.MDEEDS
  obtain ⟨tc, gC⟩ := T.MCELLS
  obtain ⟨aP, gP, rP⟩ := T.PARTS.ex
  have gd := Cd.at_
  have gc := Cc.at_
  refine ⟨_, (pss_cons (ps_if (PW.pt (pw_or (pt_not (pt_val (pe_callB (r := rIsi K) (id := "isinstance") call_isi (by rfl) T.z_isinstance (by decide +kernel) (pa_cons (pv 0) (pa_cons (pe_bty (n := "tuple") rfl T.z_tuple (by decide +kernel)) pa_nil))))) (pw_or (pt_cmpR op_lt (pe_callB (r := rLenQ K) (id := "len") call_len_seq (by rfl) T.z_len PySem.boot_len (pa_cons (pv 0) pa_nil)) pe_int (nomark _)) (pw_or1 (pt_cmpR (r := rIn K true) op_notIn_seq (pe_ix (r := rIx K) ix_seq (pv 0) pe_int (fun _ _ => rfl)) (pe_gref rfl gP) rfl))))) (pss_one (ps_ret pe_str)) pss_nil)
      (pss_cons (ps_if (PW.pt (pw_or (pt_cmpR op_lt (pe_callB (r := rLenQ K) (id := "len") call_len_seq (by rfl) T.z_len PySem.boot_len (pa_cons (pv 0) pa_nil)) pe_int (nomark _)) (pw_or1 (pt_not (pt_val (pe_calK (K := K) rfl C_deeds (hr.mono (by first | decide | omega)) rfl (pa_cons (pe_ix (r := rIx K) ix_seq (pv 0) pe_int (fun _ _ => rfl)) (pa_cons (pe_gint rfl gM) (pa_cons (pe_gref rfl gd) pa_nil))))))))) (pss_one (ps_ret pe_str)) pss_nil)
      (pss_cons (ps_if (PW.pt (pw_or (pt_cmpR op_lt (pe_callB (r := rLenQ K) (id := "len") call_len_seq (by rfl) T.z_len PySem.boot_len (pa_cons (pv 0) pa_nil)) pe_int (nomark _)) (pw_or1 (pt_not (pt_val (pe_calK (K := K) rfl C_are_asks (hr.mono (by first | decide | omega)) rfl (pa_cons (pe_ix (r := rIx K) ix_seq (pv 0) pe_int (fun _ _ => rfl)) (pa_cons (pe_ix (r := rIx K) ix_seq (pv 0) pe_int (fun _ _ => rfl)) pa_nil)))))))) (pss_one (ps_ret pe_str)) pss_nil)
      (pss_cons (ps_if (PW.pt (pw_or (pt_cmpR op_ne (pe_callB (r := rLenQ K) (id := "len") call_len_seq (by rfl) T.z_len PySem.boot_len (pa_cons (pv 0) pa_nil)) pe_int (nomark _)) (pw_or1 (pt_not (pt_val (pe_calK (K := K) rfl C_cells (hr.mono (by first | decide | omega)) rfl (pa_cons (pe_ix (r := rIx K) ix_seq (pv 0) pe_int (fun _ _ => rfl)) (pa_cons (pe_gint rfl gC) (pa_cons (pe_gref rfl gc) pa_nil))))))))) (pss_one (ps_ret pe_str)) pss_nil)
      (pss_one (ps_ret pe_non)))))), ?_⟩
  try dsimp only [cxOf]
  change dS _ _ _ [Sl.d _] _
  have n1 : (!decide (p.name ∈ partsS)) = false := by simp [hp.n]
  have okd : ∀ r ∈ p.deeds.map Dd.toD, okDeed r := fun r h => by
    obtain ⟨a, ha, rfl⟩ := List.mem_map.mp h
    exact ⟨a, rfl, hp.d a ha⟩
  have okc : ∀ r ∈ p.cells.map celD, okCell r := fun r h => by
    obtain ⟨a, ha, rfl⟩ := List.mem_map.mp h
    exact ⟨a, rfl, hp.c a ha⟩
  have ld := hp.d8
  have lc := hp.c4
  dsimp only [Pt.toD]
  refine s_seq (s_if (d_or (d_not (d_tB (d_cb (d_cons (d_var (by with_unfolding_all rfl) ?_)))))))
  refine d_cons (d_c (by with_unfolding_all rfl) ?_)
  refine d_nil (c_tup (by with_unfolding_all rfl) ?_)
  refine ⟨_, rfl, (br_f (by with_unfolding_all rfl) ?_)⟩
  refine d_or (d_test (d_op (d_cb (d_cons (d_var (by with_unfolding_all rfl) ?_)))))
  refine d_nil (c_lenS (.inr rfl) (d_c (by with_unfolding_all rfl) ?_))
  refine r_I0 (by with_unfolding_all rfl) ?_
  refine ⟨_, rfl, (br_f (by with_unfolding_all rfl) ?_)⟩
  refine d_test (d_op (d_op (d_var (by with_unfolding_all rfl) ?_)))
  refine d_c (by with_unfolding_all rfl) ?_
  refine r_ix (.inr (r_ixT (by with_unfolding_all rfl) ?_))
  refine d_cK (by assumption) ?_
  refine r_in1 ⟨_, rfl, (br_f (by assumption) ?_)⟩
  refine s_next (s_seq (s_if (d_or (d_test (d_op (d_cb (d_cons (d_var (by with_unfolding_all rfl) ?_))))))))
  refine d_nil (c_lenS (.inr rfl) (d_c (by with_unfolding_all rfl) ?_))
  refine r_I0 (by with_unfolding_all rfl) ?_
  refine ⟨_, rfl, (br_f (by with_unfolding_all rfl) ?_)⟩
  refine d_not (d_tB (d_call (d_cons (d_op (d_var (by with_unfolding_all rfl) ?_)))))
  refine d_c (by with_unfolding_all rfl) ?_
  refine r_ix (.inr (r_ixT (by with_unfolding_all rfl) ?_))
  refine d_cons (d_c (by with_unfolding_all rfl) ?_)
  refine d_cons (d_c (by with_unfolding_all rfl) ?_)
  refine d_nil ?_
  dsimp only
  refine m_rows (by rw [List.length_map]; omega) (by rw [List.length_map]; omega) okd (by rw [nm_deeds]; exact hp.dup) ?_
  refine ⟨_, rfl, (br_f (by with_unfolding_all rfl) ?_)⟩
  refine s_next (s_seq (s_if (d_or (d_test (d_op (d_cb (d_cons (d_var (by with_unfolding_all rfl) ?_))))))))
  refine d_nil (c_lenS (.inr rfl) (d_c (by with_unfolding_all rfl) ?_))
  refine r_I0 (by with_unfolding_all rfl) ?_
  refine ⟨_, rfl, (br_f (by with_unfolding_all rfl) ?_)⟩
  refine d_not (d_tB (d_call (d_cons (d_op (d_var (by with_unfolding_all rfl) ?_)))))
  refine d_c (by with_unfolding_all rfl) ?_
  refine r_ix (.inr (r_ixT (by with_unfolding_all rfl) ?_))
  refine d_cons (d_op (d_var (by with_unfolding_all rfl) ?_))
  refine d_c (by with_unfolding_all rfl) ?_
  refine r_ix (.inr (r_ixT (by with_unfolding_all rfl) ?_))
  refine d_nil ?_
  dsimp only
  refine (show M_asks _ _ from ⟨p, rfl, hp, ⟨_, rfl, (br_f (by with_unfolding_all rfl) ?_)⟩⟩)
  refine s_next (s_seq (s_if (d_or (d_test (d_op (d_cb (d_cons (d_var (by with_unfolding_all rfl) ?_))))))))
  refine d_nil (c_lenS (.inr rfl) (d_c (by with_unfolding_all rfl) ?_))
  refine r_neI ⟨_, rfl, (br_f (by with_unfolding_all rfl) ?_)⟩
  refine d_not (d_tB (d_call (d_cons (d_op (d_var (by with_unfolding_all rfl) ?_)))))
  refine d_c (by with_unfolding_all rfl) ?_
  refine r_ix (.inr (r_ixT (by with_unfolding_all rfl) ?_))
  refine d_cons (d_c (by with_unfolding_all rfl) ?_)
  refine d_cons (d_c (by with_unfolding_all rfl) ?_)
  refine d_nil ?_
  dsimp only
  refine m_rows (by rw [List.length_map]; omega) (by rw [List.length_map]; omega) okc (by rw [nm_cells]; exact hp.cup) ?_
  refine ⟨_, rfl, (br_f (by with_unfolding_all rfl) ?_)⟩
  refine s_next (s_ret (d_c (by with_unfolding_all rfl) ?_))
  with_reducible assumption
  all_goals exact q
theorem m_part {o : Pt → D} {p : Pt} {k : D → Prop} (h1 : p.ok) (h : k (o p)) : M_part o [p.toD] k := ⟨p, rfl, h1, h⟩
theorem ok_check (T : Txt w K mg) : Cal P w K mg base 18 "check_part" ["part"] none (M_part fun _ => .non) := by
  have C_fault_of := ok_fault (P := P) (base := base) T
  refine okF T.f_check_part sc_check_part (fun _ _ _ _ _ _ us hl => match us, hl with | [_], _ => rfl) (fun ds k h => ?_) (fun f cdv A outer s H E ds kk hr h => ?_)
  · obtain ⟨_, rfl, _⟩ := h
    rfl
  obtain ⟨p, rfl, hp, q⟩ := h
  refine ⟨_, (pss_cons (ps_set (i := 1) sc_check_part.nd rfl (by first | exact Or.inl rfl | exact Or.inr rfl) (pe_calK (K := K) rfl C_fault_of (hr.mono (by first | decide | omega)) rfl (pa_cons (pv 0) pa_nil)))
      (pss_one (ps_if (pt_cmpR op_notN (pv 1) pe_non (nomark _)) (pss_one ps_never) pss_nil))), ?_⟩
  try dsimp only [cxOf]
  change dS _ _ _ [Sl.d _, Sl.un] _
  refine s_seq (s_set (d_call (d_cons (d_var (by with_unfolding_all rfl) ?_))))
  refine d_nil ?_
  dsimp only
  refine m_part hp (s_if (d_test (d_op (d_var (by with_unfolding_all rfl) ?_))))
  refine d_c (by with_unfolding_all rfl) ?_
  refine r_notN ⟨_, rfl, (br_f (by with_unfolding_all rfl) ?_)⟩
  refine s_next ?_
  with_reducible assumption
  all_goals exact q
end
end Pr
set_option Elab.async false
set_option linter.all false
set_option maxRecDepth 100000
set_option maxHeartbeats 2000000
namespace Pr
open PySem L2 PD
section
variable {P : Program} {w : World} {K : PySem.W.Frag} {mg : Str → Option Value} {base : Heap}
def Pt.calls (p : Pt) : CT := p.deeds.map (fun d => (d.name, d.takes, d.tells)) ++ p.asks
theorem calls_nodup {p : Pt} (hp : p.ok) : (p.deeds.map Dd.name ++ p.asks.map (·.1)).Nodup := by
  have nd : ∀ {l : List Str}, l.Pairwise up → l.Nodup := fun {l} h => List.Pairwise.imp (fun {a b} q => by
    intro e
    subst e
    exact up_irr a q) h
  refine List.nodup_append.mpr ⟨nd hp.dup, nd hp.aup, fun a ha b hb e => ?_⟩
  subst e
  obtain ⟨x, hx, e⟩ := List.mem_map.mp hb
  exact hp.apart x hx (by rw [e]; exact ha)
theorem ok_calls (T : Txt w K mg) : Cal P w K mg base 1 "calls_of" ["part"] none (M_part fun p => ctD p.calls) := by
  refine okF T.f_calls_of sc_calls_of (fun _ _ _ _ _ _ us hl => match us, hl with | [_], _ => rfl) (fun ds k h => ?_) (fun f cdv A outer s H E ds kk hr h => ?_)
  · obtain ⟨_, rfl, _⟩ := h
    rfl
  obtain ⟨p, rfl, hp, q⟩ := h
  have ld := hp.d8
  have la := hp.a8
  refine ⟨_, (pss_one (ps_ret (pe_dc (own := [("row", 1)]) (g := gName 1) (tt := tYes) rfl sc_calls_of.nd (pi_tup (pe_op (r := rCatA K) op_catA (pe_ix (r := rIx K) ix_seq (pv 0) pe_int (fun _ _ => rfl)) (pe_ix (r := rIx K) ix_seq (pv 0) pe_int (fun _ _ => rfl)))) (blkOk_by (own := [("row", 1)]) (N := N_calls_of) (sc := defScope s_calls_of) (by decide +kernel)) (fun _ _ _ _ _ => (pg_name (i := 1) sc_calls_of.nd rfl (by first | exact Or.inl rfl | exact Or.inr rfl))) (fun _ _ _ _ _ => pts_nil) (fun _ _ _ _ _ => (pe_ix (r := rIx K) ix_seq (pv 1) pe_int (fun _ _ => rfl))) (fun _ _ _ _ _ => (pe_tup (pa_cons (pe_ix (r := rIx K) ix_seq (pv 1) pe_int (fun _ _ => rfl)) (pa_cons (pe_ix (r := rIx K) ix_seq (pv 1) pe_int (fun _ _ => rfl)) pa_nil))))))), ?_⟩
  try dsimp only [cxOf]
  change dS _ _ _ [Sl.d _, Sl.un] _
  dsimp only [Pt.toD]
  refine s_ret (d_dc (i_tup ?_))
  refine d_op (d_op (d_var (by with_unfolding_all rfl) ?_))
  refine d_c (by with_unfolding_all rfl) ?_
  refine r_ix (.inr (r_ixT (by with_unfolding_all rfl) ?_))
  refine d_op (d_var (by with_unfolding_all rfl) ?_)
  refine d_c (by with_unfolding_all rfl) ?_
  refine r_ix (.inr (r_ixT (by with_unfolding_all rfl) ?_))
  dsimp only
  refine r_catA (by rw [List.length_map, List.length_map]; omega) ?_
  refine ⟨_, rfl, ?_⟩
  (refine ⟨(by rw [List.length_append, List.length_map, List.length_map]; omega), ?_⟩)
  rotate_left
  refine dcW_fun (P := fun d => ∃ x t u rest, d = .tup (.str x :: .str t :: .str u :: rest)) (fk := nm0) (fv := fun d => match d with | .tup (_ :: t :: u :: _) => .tup [t, u] | _ => .non) (fun d hd kx hx => g_nameV (by decide) (hx _ (fun kb q => d_yes q) (fun k q => ?_) (fun k q => ?_))) _ [] ?_ ?_ ?_
  · obtain ⟨x, t, u, rest, rfl⟩ := hd
    exact d_op (d_var rfl (d_c rfl (r_ix (.inr (r_ixT (show atI _ ((0 : Nat) : Int) = _ from atI_nat rfl) q)))))
  · obtain ⟨x, t, u, rest, rfl⟩ := hd
    refine d_tup ?_
    refine d_cons (d_op (d_var (by with_unfolding_all rfl) ?_))
    refine d_c (by with_unfolding_all rfl) ?_
    refine r_ix (.inr (r_ixT (show atI _ ((1 : Nat) : Int) = _ from atI_nat rfl) (d_cons (d_op (d_var (by with_unfolding_all rfl) ?_)))))
    refine d_c (by with_unfolding_all rfl) ?_
    refine r_ix (.inr (r_ixT (show atI _ ((2 : Nat) : Int) = _ from atI_nat rfl) (d_nil (And.intro (show List.length _ ≤ 100000 by simp) ?_))))
    with_reducible assumption
    all_goals exact q
  · intro d hd
    rcases List.mem_append.mp hd with h | h
    · obtain ⟨a, ha, rfl⟩ := List.mem_map.mp h
      exact ⟨_, _, _, _, rfl⟩
    · obtain ⟨a, ha, rfl⟩ := List.mem_map.mp h
      exact ⟨_, _, _, _, rfl⟩
  · rw [List.map_append, nm_deeds, nm_asks]
    exact calls_nodup hp
  · have e : ([] : List (Str × D)) ++ (p.deeds.map Dd.toD ++ p.asks.map askD).map (fun d => (nm0 d, match d with | .tup (_ :: t :: u :: _) => D.tup [t, u] | _ => .non)) = p.calls.map fun q => (q.1, D.tup [.str q.2.1, .str q.2.2]) := by
      unfold Pt.calls
      rw [List.nil_append, List.map_append, List.map_append, List.map_map, List.map_map, List.map_map]
      rfl
    rw [e]
    exact q
/-! ### right -/
def firstWrong (calls : CT) (cells : ET) : List Dd → Option Str
  | [] => none
  | d :: r => if d.body.kind d.takes calls cells = some d.tells then firstWrong calls cells r else some d.name
def Pt.wrong (p : Pt) : Option Str := firstWrong p.calls p.cells p.deeds
theorem env_ok {p : Pt} (hp : p.ok) {d : Dd} (hd : d ∈ p.deeds) : EnvOk d.takes p.calls p.cells where
  t := (hp.d d hd).t
  c := fun q hq => by
    unfold Pt.calls at hq
    rcases List.mem_append.mp hq with h | h
    · obtain ⟨x, hx, rfl⟩ := List.mem_map.mp h
      exact ⟨(hp.d x hx).t, (hp.d x hx).u⟩
    · exact (hp.a q h).2
  e := fun q hq => (hp.c q hq).2
theorem ok_right (T : Txt w K mg) : Cal P w K mg base 19 "right" ["part"] none (M_part fun p => optD p.wrong) := by
  have C_check_part := ok_check (P := P) (base := base) T
  have C_calls_of := ok_calls (P := P) (base := base) T
  have C_kind_of := ok_kind (P := P) (base := base) T 10
  refine okF T.f_right sc_right (fun _ _ _ _ _ _ us hl => match us, hl with | [_], _ => rfl) (fun ds k h => ?_) (fun f cdv A outer s H E ds kk hr h => ?_)
  · obtain ⟨_, rfl, _⟩ := h
    rfl
  obtain ⟨p, rfl, hp, q⟩ := h
  have lc := hp.c4
  have hu := hu_of hr
  refine ⟨_, (pss_cons (ps_expr (pe_calK (K := K) rfl C_check_part (hr.mono (by first | decide | omega)) rfl (pa_cons (pv 0) pa_nil)))
      (pss_cons (ps_set (i := 1) sc_right.nd rfl (by first | exact Or.inl rfl | exact Or.inr rfl) (pe_calK (K := K) rfl C_calls_of (hr.mono (by first | decide | omega)) rfl (pa_cons (pv 0) pa_nil)))
      (pss_cons (ps_setDc (i := 2) (own := [("cell", 3), ("kind", 4)]) (tt := tYes) rfl sc_right.nd rfl rfl (sw_dict rfl rfl rfl (by decide +kernel)) (pi_tup (pe_ix (r := rIx K) ix_seq (pv 0) pe_int (fun _ _ => rfl))) (blkOk_by (own := [("cell", 3), ("kind", 4)]) (N := N_right) (sc := defScope s_right) (by decide +kernel)) (fun _ _ _ _ _ => (pg_tupK (K := K) (n := 2) rfl rfl (pgs_cons (pg_name (i := 3) sc_right.nd rfl (by first | exact Or.inl rfl | exact Or.inr rfl)) (pgs_cons (pg_name (i := 4) sc_right.nd rfl (by first | exact Or.inl rfl | exact Or.inr rfl)) pgs_nil)))) (fun _ _ _ _ _ => pts_nil) (fun _ _ _ _ _ => (pv 3)) (fun _ _ _ _ _ => (pv 4)))
      (pss_cons (ps_for PassesOwn.never rfl (pi_tup (pe_ix (r := rIx K) ix_seq (pv 0) pe_int (fun _ _ => rfl))) (pg_tupK (K := K) (n := 4) rfl rfl (pgs_cons (pg_name (i := 5) sc_right.nd rfl (by first | exact Or.inl rfl | exact Or.inr rfl)) (pgs_cons (pg_name (i := 6) sc_right.nd rfl (by first | exact Or.inl rfl | exact Or.inr rfl)) (pgs_cons (pg_name (i := 7) sc_right.nd rfl (by first | exact Or.inl rfl | exact Or.inr rfl)) (pgs_cons (pg_name (i := 8) sc_right.nd rfl (by first | exact Or.inl rfl | exact Or.inr rfl)) pgs_nil))))) (pss_one (ps_if (pt_cmpR op_ne (pe_calK (K := K) rfl C_kind_of (hr.mono (by first | decide | omega)) rfl (pa_cons (pv 8) (pa_cons (pv 6) (pa_cons (pv 1) (pa_cons (pv 2) pa_nil))))) (pv 7) (nomark _)) (pss_one (ps_ret (pv 5))) pss_nil)))
      (pss_one (ps_ret pe_non)))))), ?_⟩
  try dsimp only [cxOf]
  change dS _ _ _ [Sl.d _, Sl.un, Sl.un, Sl.un, Sl.un, Sl.un, Sl.un, Sl.un, Sl.un] _
  have cn : (p.cells.map (·.1)).Nodup := List.Pairwise.imp (fun {a b} q => by
    intro e
    subst e
    exact up_irr a q) hp.cup
  refine s_seq (s_drop (d_call (d_cons (d_var (by with_unfolding_all rfl) ?_))))
  refine d_nil ?_
  dsimp only
  refine m_part hp (s_seq (s_set (d_call (d_cons (d_var (by with_unfolding_all rfl) ?_)))))
  refine d_nil ?_
  dsimp only
  refine m_part hp (s_seq (s_setD (i_tup (d_op (d_var (by with_unfolding_all rfl) ?_)))))
  refine d_c (by with_unfolding_all rfl) ?_
  refine r_ix (.inr (r_ixT (by with_unfolding_all rfl) ?_))
  refine ⟨_, rfl, ?_⟩
  dsimp only
  (refine ⟨(by rw [List.length_map]; omega), ?_⟩)
  rotate_left
  refine dcW_fun (P := fun d => ∃ x t : Str, d = .tup [.str x, .str t]) (fk := nm0) (fv := fun d => match d with | .tup [_, t] => t | _ => .non) (fun d hd kx hx => ?_) _ [] ?_ ?_ ?_
  · obtain ⟨x, t, rfl⟩ := hd
    refine g_tup rfl (gs_cons (g_nameV (by decide) (gs_cons (g_nameV (by decide) (gs_nil (hx _ (fun kb q => d_yes q) (fun k q => d_var rfl q) (fun k q => d_var rfl q)))))))
  · intro d hd
    obtain ⟨a, ha, rfl⟩ := List.mem_map.mp hd
    exact ⟨_, _, rfl⟩
  · rw [nm_cells]
    exact cn
  · have e : ([] : List (Str × D)) ++ (p.cells.map celD).map (fun d => (nm0 d, match d with | .tup [_, t] => t | _ => .non)) = p.cells.map fun q => (q.1, D.str q.2) := by
      rw [List.nil_append, List.map_map]
      rfl
    rw [e]
    refine s_seq (s_for (i_tup ?_))
    refine d_op (d_var (by with_unfolding_all rfl) ?_)
    refine d_c (by with_unfolding_all rfl) ?_
    refine r_ix (.inr (r_ixT (by with_unfolding_all rfl) ?_))
    refine ⟨_, rfl, ?_⟩
    dsimp only
    rotate_left
    have loop : ∀ (r : List Dd) (ρ : List Sl), (∀ d ∈ r, d ∈ p.deeds) → kk (optD (firstWrong p.calls p.cells r)) → (∃ s5 s6 s7 s8, ρ = [Sl.d p.toD, Sl.d (ctD p.calls), Sl.d (etD p.cells), Sl.un, Sl.un, s5, s6, s7, s8]) →
        forW K none (gTup K 4 (gCons (gName 5) (gCons (gName 6) (gCons (gName 7) (gCons (gName 8) gNil))))) (tIfS (tTest (tOp rNe (tCall (spD K none (M_kind 10)) [] E0 (tCons (tVar 8) (tCons (tVar 6) (tCons (tVar 1) (tCons (tVar 2) tNil))))) (tVar 7))) (tRet (tVar 5)) tNext)
          { nx := fun ρ' => dS K none (tRet (tC V.non)) ρ' { nx := fun x => kk D.non, rt := kk }, rt := kk } (r.map Dd.toD) ρ := by
      intro r
      induction r with
      | nil =>
        rintro ρ _ qq ⟨s5, s6, s7, s8, rfl⟩
        exact s_ret (d_c rfl qq)
      | cons d r ih =>
        rintro ρ hm qq ⟨s5, s6, s7, s8, rfl⟩
        have hd := hm d List.mem_cons_self
        have od := hp.d d hd
        have eo := env_ok hp hd
        rw [List.map_cons]
        refine forW_cons ?_
        simp only [firstWrong] at qq
        refine g_tup (ds := [.str d.name, .str d.takes, .str d.tells, d.body.toD]) rfl ?_
        by_cases good : d.body.kind d.takes p.calls p.cells = some d.tells
        · rw [if_pos good] at qq
          have n0 : (!decide (d.tells = d.tells)) = false := by simp
          refine gs_cons (g_name (gs_cons (g_name (gs_cons (g_name (gs_cons (g_name (gs_nil (s_if (d_test (d_op (d_call (d_cons (d_var (by with_unfolding_all rfl) ?_))))))))))))))
          refine d_cons (d_var (by with_unfolding_all rfl) ?_)
          refine d_cons (d_var (by with_unfolding_all rfl) ?_)
          refine d_cons (d_var (by with_unfolding_all rfl) ?_)
          refine d_nil ?_
          dsimp only
          ((with_reducible refine m_kind od.b od.depth eo ?_); rw [good]; dsimp only [optD])
          refine d_var (by with_unfolding_all rfl) ?_
          refine r_neS ⟨_, rfl, (br_f (by assumption) ?_)⟩
          refine s_next ?_
          dsimp only
          rotate_left
          show forW K none _ _ _ _ [Sl.d p.toD, Sl.d (ctD p.calls), Sl.d (etD p.cells), Sl.un, Sl.un, .d (.str d.name), .d (.str d.takes), .d (.str d.tells), .d d.body.toD]
          exact ih _ (fun x hx => hm x (List.mem_cons_of_mem _ hx)) qq ⟨_, _, _, _, rfl⟩
        · rw [if_neg good] at qq
          cases ek : d.body.kind d.takes p.calls p.cells with
          | none =>
            refine gs_cons (g_name (gs_cons (g_name (gs_cons (g_name (gs_cons (g_name (gs_nil (s_if (d_test (d_op (d_call (d_cons (d_var (by with_unfolding_all rfl) ?_))))))))))))))
            refine d_cons (d_var (by with_unfolding_all rfl) ?_)
            refine d_cons (d_var (by with_unfolding_all rfl) ?_)
            refine d_cons (d_var (by with_unfolding_all rfl) ?_)
            refine d_nil ?_
            dsimp only
            ((with_reducible refine m_kind od.b od.depth eo ?_); rw [ek]; dsimp only [optD])
            refine d_var (by with_unfolding_all rfl) ?_
            refine r_ne (by with_unfolding_all rfl) (by with_unfolding_all rfl) (by with_unfolding_all rfl) ?_
            refine ⟨_, rfl, (br_t (by with_unfolding_all rfl) ?_)⟩
            refine s_ret (d_var (by with_unfolding_all rfl) ?_)
            dsimp only
            rotate_left
            exact qq
          | some t =>
            have nt : (!decide (t = d.tells)) = true := by
              rw [decide_eq_false fun e => good (by rw [ek, e])]
              rfl
            refine gs_cons (g_name (gs_cons (g_name (gs_cons (g_name (gs_cons (g_name (gs_nil (s_if (d_test (d_op (d_call (d_cons (d_var (by with_unfolding_all rfl) ?_))))))))))))))
            refine d_cons (d_var (by with_unfolding_all rfl) ?_)
            refine d_cons (d_var (by with_unfolding_all rfl) ?_)
            refine d_cons (d_var (by with_unfolding_all rfl) ?_)
            refine d_nil ?_
            dsimp only
            ((with_reducible refine m_kind od.b od.depth eo ?_); rw [ek]; dsimp only [optD])
            refine d_var (by with_unfolding_all rfl) ?_
            refine r_neS ⟨_, rfl, (br_t (by assumption) ?_)⟩
            refine s_ret (d_var (by with_unfolding_all rfl) ?_)
            dsimp only
            rotate_left
            exact qq
    exact loop _ _ (fun d h => h) q ⟨_, _, _, _, rfl⟩
end
end Pr
set_option Elab.async false
set_option linter.all false
set_option maxRecDepth 100000
set_option maxHeartbeats 1000000
namespace Pr
open PySem L2 PD
abbrev s_law_next : Stmt := top 38
abbrev N_law_next : List Str := ["_law_h", "_law_many", "_law_at", "_law_cell"]
theorem sc_law_next : FnScope N_law_next ["_law_h", "_law_many"] (defScope s_law_next) := ⟨rfl, rfl, rfl, by decide +kernel, rfl, by decide +kernel, by decide +kernel⟩

/-- the draws' state changes -/
theorem hstep {ah as : Addr} {G H H' : Hp} (f : Fr (some (ah, as)) G H) (h : ∀ a, a ≠ ah → a ≠ as → H' a = H a) (st : HSt (some (ah, as)) G H') : PD.Step (some (ah, as)) G H G H' := by
  obtain ⟨_, h1, h2, _⟩ := f.st
  refine ⟨fun a o q e => by rw [h a q.1 q.2]; exact e, Same.refl G, fun a o e => ?_, fun a o e n => (by rw [n] at e; cases e), st⟩
  have n1 : a ≠ ah := ne_of_none e h1
  have n2 : a ≠ as := ne_of_none e h2
  rw [h a n1 n2]
  exact f.sub a o e
theorem dp_ints {K : PySem.W.Frag} {H : Hp} : ∀ {ns : List Int}, DpAll K H (ns.map V.int) (ns.map PyData.int)
  | [] => .nil
  | n :: ns => .cons (.int n) dp_ints
theorem eqv_ints {ns : List Int} : PyData.eqv (.list (ns.map PyData.int)) (.list []) = decide (ns = []) := by
  cases ns <;> simp [PyData.eqv, PyData.eqvAll]
theorem canLay_ints : ∀ {ns : List Int}, PyData.canLayAll0 (ns.map PyData.int) = true ∧ PyData.depthAll (ns.map PyData.int) = 0
  | [] => ⟨rfl, rfl⟩
  | n :: ns => by
    obtain ⟨h1, h2⟩ := canLay_ints (ns := ns)
    rw [List.map_cons, PyData.canLayAll0, PyData.depthAll, h1, h2]
    exact ⟨rfl, rfl⟩
theorem shaped_ints {ns : List Int} : SeqAt.shaped (.list (ns.map PyData.int)) = true := by
  unfold SeqAt.shaped
  rw [PyData.canLay0, PyData.depth, canLay_ints.1, canLay_ints.2]
  rfl
section
variable {P : Program} {w : World} {K : PySem.W.Frag} {mg : Str → Option Value} {base : Heap}
def M_next (ah : Addr) : List D → (D → Prop) → Prop := fun ds k => ∃ many : Int, ds = [.adr ah, .int many] ∧ 1 ≤ many ∧ many ≤ 1000 ∧ ∀ r : Int, 0 ≤ r → r < many → k (.int r)
theorem ok_next {ah as : Addr} (F : DefT K mg "_law_next" s_law_next) (zl : mg "len" = none) (zm : mg "max" = none) : Cal P w K mg base 1 "_law_next" ["_law_h", "_law_many"] (some (ah, as)) (M_next ah) := by
  obtain ⟨f, fd, h1, h2⟩ := F
  refine ⟨f, fd, h1, h2.kp, h2.bindsN (fun _ _ _ _ _ _ us hl => match us, hl with | [_, _], _ => rfl), fd_look h2, ?_⟩
  refine h2.ok sc_law_next (fun vs H Q E h => ?_) (fun cdv A outer s H vs Q E hr h => ?_)
  · obtain ⟨G, ds, kk, _, r, ⟨_, rfl, _⟩, _⟩ := h
    rw [r.length]
    rfl
  obtain ⟨G, ds, kk, fr, r, ⟨many, rfl, m1, m2, hk⟩, z⟩ := h
  obtain ⟨ne, g1, g2, m, j, ns, e1, e2, l63, j0, b0, b1⟩ := fr.st
  have hu := hu_of hr
  refine ⟨_, PSs.nox ((pss_cons (ps_set (i := 2) sc_law_next.nd rfl (by first | exact Or.inl rfl | exact Or.inr rfl) (pe_op op_modN (pe_ix (r := rIx K) ix_seq (pv 0) pe_int (fun _ _ => rfl)) (pe_callB  (call_max2 rfl) (by rfl) zm (by decide +kernel) (pa_cons pe_int (pa_cons (pe_callB (r := rLenQ K) (id := "len")  call_len_seq (by rfl) zl PySem.boot_len (pa_cons (pe_ix (r := rIx K) ix_seq (pv 0) pe_int (fun _ _ => rfl)) pa_nil)) pa_nil)))))
      (pss_cons (ps_set (i := 3) sc_law_next.nd rfl (by first | exact Or.inl rfl | exact Or.inr rfl) (pe_ifExp (pt_cmpR (r := rNeD K) (op_neD hr.units) (pe_ix (r := rIx K) ix_seq (pv 0) pe_int (fun _ _ => rfl)) (pe_lst pa_nil) (nomark _)) (pe_ix (r := rIx K) ix_seq (pe_ix (r := rIx K) ix_seq (pv 0) pe_int (fun _ _ => rfl)) (pv 2) (fun _ _ => rfl)) pe_int))
      (pss_cons (ps_if (pt_cmpR op_ge (pv 3) (pe_op op_pow pe_int pe_int) (nomark _)) (pss_cons (ps_asg (pe_op op_fdivN (pv 3) (pv 1)) (pg_sub (pe_ix (r := rIx K) ix_seq (pv 0) pe_int (fun _ _ => rfl)) (pv 2) set_list))
      (pss_one (ps_ret (pe_op op_modN (pv 3) (pv 1))))) pss_nil)
      (pss_cons (ps_asg (pe_op op_modN (pe_op op_add (pe_op op_add (pe_op op_mul (pe_ix (r := rIx K) ix_seq (pv 0) pe_int (fun _ _ => rfl)) pe_int) (pe_op op_mul (pv 3) pe_int)) pe_int) pe_int) (pg_sub (pv 0) pe_int set_list))
      (pss_cons (ps_asg (pe_op op_add (pe_ix (r := rIx K) ix_seq (pv 0) pe_int (fun _ _ => rfl)) pe_int) (pg_sub (pv 0) pe_int set_list))
      (pss_one (ps_ret (pe_op op_modN (pe_op op_fdivN (pe_ix (r := rIx K) ix_seq (pv 0) pe_int (fun _ _ => rfl)) pe_int) (pv 1)))))))))), ?_⟩
  cases r with
  | cons r1 r2 =>
  cases r2 with
  | cons r2 r3 =>
  cases r3
  cases rel_adr r1
  cases rel_int r2
  have hn1 : ∀ x : Addr, ∀ p : Addr, ∀ o : HO, H x = some o → H p = none → x ≠ p := fun x p o a b => ne_of_none a b
  refine ⟨_, rfl, .inl ⟨_, _, _, _, rfl, rfl, SqL.of e1, rfl, _, rfl, .inl ⟨_, _, _, _, rfl, rfl, SqL.of e1, rfl, _, _, rfl, .inl (SqL.of e2), _, _, rfl, _, _, rfl, rfl, ?_, ?_⟩⟩⟩
  · rw [List.length_map]
    split <;> omega
  refine ⟨_, rfl, .inl ⟨_, _, _, _, rfl, rfl, SqL.of e1, rfl, Nat.zero_le _, fun p hp => ?_⟩⟩
  have na : ah ≠ p := hn1 _ _ _ e1 hp
  have ns' : as ≠ p := hn1 _ _ _ e2 hp
  have e1' : upd H p (.lst []) ah = _ := (upd_ne na).trans e1
  have e2' : upd H p (.lst []) as = _ := (upd_ne ns').trans e2
  refine ⟨.list (ns.map PyData.int), .list [], .lst (SqL.of e2') dp_ints, .lst (SqL.of upd_same) .nil, shaped_ints, rfl, ?_⟩
  refine ⟨_, rfl, ?_⟩
  rw [eqv_ints]
  have fr1 : Fr (some (ah, as)) G (upd H p (.lst [])) := (Step.fresh fr.sub fr.st hp).fr
  -- behind the choice of the cell
  by_cases hz : ns = []
  · rw [decide_eq_true hz]
    refine ⟨_, rfl, _, _, rfl, rfl, ⟨by decide, by decide, by decide⟩, _, _, rfl, rfl, _, rfl, ?_⟩
    refine ite2 (fun hb => absurd (of_decide_eq_true hb) (by decide)) (fun _ => ?_)
    refine ⟨_, rfl, .inl ⟨_, _, _, _, rfl, rfl, SqL.of e1', rfl, _, _, rfl, rfl, .inr (by decide), _, rfl, _, _, rfl, rfl, .inr (by decide), _, _, rfl, rfl, _, _, rfl, rfl, _, _, rfl, rfl, (show (2147483647 : Int) ≠ 0 by decide), ?_⟩⟩
    refine ⟨_, rfl, _, _, _, 0, rfl, rfl, e1', rfl, ?_⟩
    refine ⟨_, rfl, .inl ⟨_, _, _, _, rfl, rfl, SqL.of upd_same, rfl, _, _, rfl, rfl, _, rfl, _, _, _, 2, rfl, rfl, upd_same, rfl, ?_⟩⟩
    refine ⟨_, rfl, .inl ⟨_, _, _, _, rfl, rfl, SqL.of upd_same, rfl, _, _, rfl, rfl, ⟨by decide, by decide⟩, _, rfl, _, _, rfl, rfl, (by omega), ?_⟩⟩
    refine z (.int _) G _ (.int _) (PD.Step.trans (Step.fresh fr.sub fr.st hp) (hstep fr1 (fun a n1 n2 => (by rw [upd_ne n1, upd_ne n1])) ⟨ne, g1, g2, _, j + 1, ns, upd_same, (by rw [upd_ne ne.symm, upd_ne ne.symm]; exact e2'), l63, by omega, Int.fmod_nonneg_of_pos _ (by decide), Int.fmod_lt_of_pos _ (by decide)⟩)) .int (hk _ (Int.fmod_nonneg_of_pos _ (by omega)) (Int.fmod_lt_of_pos _ (by omega)))
  · rw [decide_eq_false hz]
    have hl : 0 < ns.length := List.length_pos_iff.mpr hz
    have eat : ∃ q : Nat, j.fmod (if ((ns.map V.int).length : Int) > 1 then ((ns.map V.int).length : Int) else 1) = (q : Int) ∧ q < ns.length := by
      rw [List.length_map]
      have p1 : (0 : Int) < (if (ns.length : Int) > 1 then (ns.length : Int) else 1) := by split <;> omega
      have h1 := Int.fmod_nonneg_of_pos j p1
      have h2 := Int.fmod_lt_of_pos j p1
      have h3 : (if (ns.length : Int) > 1 then (ns.length : Int) else 1) = ns.length := by split <;> omega
      rw [h3] at h1 h2 ⊢
      exact ⟨(j.fmod ns.length).toNat, by omega, by omega⟩
    obtain ⟨q, eq, hq⟩ := eat
    have hc : (ns.map V.int)[q]? = some (.int ns[q]) := by rw [List.getElem?_map, List.getElem?_eq_getElem hq]; rfl
    refine ⟨_, rfl, .inl ⟨_, _, _, _, rfl, rfl, SqL.of e1', rfl, _, rfl, .inl ⟨_, _, _, _, rfl, congrArg V.int eq, SqL.of e2', atI_nat hc, ?_⟩⟩⟩
    refine ⟨_, rfl, _, _, rfl, rfl, ⟨by decide, by decide, by decide⟩, _, _, rfl, rfl, _, rfl, ?_⟩
    refine ite2 (fun hb => ?_) (fun _ => ?_)
    · refine ⟨_, rfl, _, rfl, _, _, rfl, rfl, ⟨by omega, by omega⟩, ?_⟩
      refine ⟨_, rfl, .inl ⟨_, _, _, _, rfl, rfl, SqL.of e1', rfl, _, rfl, _, _, _, q, rfl, rfl, e2', (by rw [eq, List.length_map]; unfold ixN; rw [if_pos (by omega), if_pos (by omega)]; simp), ?_⟩⟩
      refine ⟨_, rfl, _, rfl, _, _, rfl, rfl, (by omega), ?_⟩
      refine z (.int _) G _ (.int _) (PD.Step.trans (Step.fresh fr.sub fr.st hp) (hstep fr1 (fun a n1 n2 => (by rw [upd_ne n2])) ⟨ne, g1, g2, m, j, ns.set q _, (by rw [upd_ne ne]; exact e1'), (by rw [upd_same, List.map_set]), (by rw [List.length_set]; exact l63), j0, b0, b1⟩)) .int (hk _ (Int.fmod_nonneg_of_pos _ (by omega)) (Int.fmod_lt_of_pos _ (by omega)))
    · show tNext _ _ _
      refine ⟨_, rfl, .inl ⟨_, _, _, _, rfl, rfl, SqL.of e1', rfl, _, _, rfl, rfl, .inr (by decide), _, rfl, _, _, rfl, rfl, .inr (by decide), _, _, rfl, rfl, _, _, rfl, rfl, _, _, rfl, rfl, (show (2147483647 : Int) ≠ 0 by decide), ?_⟩⟩
      refine ⟨_, rfl, _, _, _, 0, rfl, rfl, e1', rfl, ?_⟩
      refine ⟨_, rfl, .inl ⟨_, _, _, _, rfl, rfl, SqL.of upd_same, rfl, _, _, rfl, rfl, _, rfl, _, _, _, 2, rfl, rfl, upd_same, rfl, ?_⟩⟩
      refine ⟨_, rfl, .inl ⟨_, _, _, _, rfl, rfl, SqL.of upd_same, rfl, _, _, rfl, rfl, ⟨by decide, by decide⟩, _, rfl, _, _, rfl, rfl, (by omega), ?_⟩⟩
      refine z (.int _) G _ (.int _) (PD.Step.trans (Step.fresh fr.sub fr.st hp) (hstep fr1 (fun a n1 n2 => (by rw [upd_ne n1, upd_ne n1])) ⟨ne, g1, g2, _, j + 1, ns, upd_same, (by rw [upd_ne ne.symm, upd_ne ne.symm]; exact e2'), l63, by omega, Int.fmod_nonneg_of_pos _ (by decide), Int.fmod_lt_of_pos _ (by decide)⟩)) .int (hk _ (Int.fmod_nonneg_of_pos _ (by omega)) (Int.fmod_lt_of_pos _ (by omega)))
end
end Pr
set_option Elab.async false
set_option linter.all false
set_option maxRecDepth 100000
set_option maxHeartbeats 2000000
namespace Pr
open PySem L2 PD
abbrev s_law_leaf : Stmt := top 40
abbrev N_law_leaf : List Str := ["_law_h", "_law_e", "_law_kind", "_law_some", "_law_cell"]
theorem sc_law_leaf : FnScope N_law_leaf ["_law_h", "_law_e", "_law_kind"] (defScope s_law_leaf) := ⟨rfl, rfl, rfl, by decide +kernel, rfl, by decide +kernel, by decide +kernel⟩

def eD (takes : Str) (calls : CT) (cells : ET) : D := .dct [("takes", .str takes), ("deeds", ctD calls), ("cells", etD cells)]
/-- what a body may speak of -/
structure EnvG (takes : Str) (calls : CT) (cells : ET) : Prop extends EnvOk takes calls cells where
  cn : ∀ p ∈ calls, p.1 ∈ deedsS
  en : ∀ p ∈ cells, p.1 ∈ cellsS
  clen : calls.length ≤ 8
  elen : cells.length ≤ 4
  cnd : (calls.map (·.1)).Nodup
  ecd : (cells.map (·.1)).Nodup
section
variable {P : Program} {w : World} {K : PySem.W.Frag} {mg : Str → Option Value} {base : Heap}
def M_leaf (ah : Addr) : List D → (D → Prop) → Prop := fun ds k => ∃ (takes : Str) (calls : CT) (cells : ET) (kind : Str), ds = [.adr ah, eD takes calls cells, .str kind] ∧ EnvG takes calls cells ∧ kind ∈ kindsS ∧
  ∀ b : B, b.ok → b.depth = 1 → b.kind takes calls cells = some kind → k b.toD
theorem m_next {ah : Addr} {many : Int} {k : D → Prop} (h1 : 1 ≤ many) (h2 : many ≤ 1000) (h : ∀ r : Int, 0 ≤ r → r < many → k (.int r)) : M_next ah [.adr ah, .int many] k := ⟨many, rfl, h1, h2, h⟩
theorem d_next {ah : Addr} {hs : Option (Addr × Addr)} {ρ : List Sl} {i : Nat} {n : Int} {k : D → Prop} {X : XK} (e : ρ[i]? = some (.d (.adr ah))) (h1 : 1 ≤ n) (h2 : n ≤ 1000) (h : ∀ r : Int, 0 ≤ r → r < n → k (.int r)) :
    dE K hs (tCall (spD K hs (M_next ah)) [] X (tCons (tVar i) (tCons (tC (.int n)) tNil))) ρ k := d_call (d_cons (d_var e (d_cons (d_c rfl (d_nil (m_next h1 h2 h))))))
theorem look_in {α : Type} {l : List (Str × α)} (nd : (l.map (·.1)).Nodup) {s : Str} {x : α} (h : (s, x) ∈ l) : lookS l s = some x := by
  unfold lookS
  induction l with
  | nil => cases h
  | cons p r ih =>
    rw [List.map_cons, List.nodup_cons] at nd
    rw [List.find?_cons]
    rcases List.mem_cons.mp h with rfl | h
    · simp
    · have : ¬ p.1 = s := fun e => nd.1 (by rw [e]; exact List.mem_map.mpr ⟨_, h, rfl⟩)
      simp only [this, decide_false]
      exact ih nd.2 h
theorem ok_leaf {ah as : Addr} (F : DefT K mg "_law_leaf" s_law_leaf) (zl : mg "len" = none) (zs : mg "sorted" = none) (C_law_next : Cal P w K mg base 1 "_law_next" ["_law_h", "_law_many"] (some (ah, as)) (M_next ah)) :
    Cal P w K mg base 2 "_law_leaf" ["_law_h", "_law_e", "_law_kind"] (some (ah, as)) (M_leaf ah) := by
  refine okF F sc_law_leaf (fun _ _ _ _ _ _ us hl => match us, hl with | [_, _, _], _ => rfl) (fun ds k h => ?_) (fun f cdv A outer s H E ds kk hr h => ?_)
  · obtain ⟨_, _, _, _, rfl, _⟩ := h
    rfl
  obtain ⟨takes, calls, cells, kind, rfl, hg, hk, q⟩ := h
  have hu := hu_of hr
  refine ⟨_, (pss_cons (ps_set (i := 3) sc_law_leaf.nd rfl (by first | exact Or.inl rfl | exact Or.inr rfl) (pe_lst pa_nil))
      (pss_cons (ps_if (pt_cmpR op_eq (pe_dget hu (pv 1) pe_str (fun _ _ => rfl)) (pv 2) (nomark _)) (pss_one (ps_set (i := 3) sc_law_leaf.nd rfl (by first | exact Or.inl rfl | exact Or.inr rfl) (pe_op op_cat (pv 3) (pe_op op_rep (pe_lst (pa_cons (pe_tup (pa_cons pe_str pa_nil)) pa_nil)) pe_int)))) pss_nil)
      (pss_cons (ps_for PassesOwn.never rfl (pi_list (pe_callB (r := rSortD) (id := "sorted") (call_sortedD rfl) (by rfl) zs (by decide +kernel) (pa_cons (pe_dget hu (pv 1) pe_str (fun _ _ => rfl)) pa_nil))) (pg_name (i := 4) sc_law_leaf.nd rfl (by first | exact Or.inl rfl | exact Or.inr rfl)) (pss_one (ps_if (pt_cmpR op_eq (pe_dget hu (pe_dget hu (pv 1) pe_str (fun _ _ => rfl)) (pv 4) (fun _ _ => rfl)) (pv 2) (nomark _)) (pss_one (ps_set (i := 3) sc_law_leaf.nd rfl (by first | exact Or.inl rfl | exact Or.inr rfl) (pe_op op_cat (pv 3) (pe_op op_rep (pe_lst (pa_cons (pe_tup (pa_cons pe_str (pa_cons (pv 4) pa_nil))) pa_nil)) pe_int)))) pss_nil)))
      (pss_cons (ps_if (pt_cmpR op_eq (pv 2) pe_str (nomark _)) (pss_one (ps_expr (pe_bm PySem.F.plainAttrs_list PySem.F.slot_list_append PySem.F.type_list_append mt_append (pv 3) (pa_cons (pe_tup (pa_cons pe_str (pa_cons (pe_ix (r := rIx K) ix_seq (pe_lst (pa_cons (pe_op op_sub (pe_calK (K := K) rfl C_law_next (hr.mono (by first | decide | omega)) rfl (pa_cons (pv 0) (pa_cons pe_int pa_nil))) pe_int) (pa_cons (pe_op op_sub (pe_calK (K := K) rfl C_law_next (hr.mono (by first | decide | omega)) rfl (pa_cons (pv 0) (pa_cons pe_int pa_nil))) pe_int) pa_nil))) (pe_calK (K := K) rfl C_law_next (hr.mono (by first | decide | omega)) rfl (pa_cons (pv 0) (pa_cons pe_int pa_nil))) (fun _ _ => rfl)) pa_nil))) pa_nil)))) pss_nil)
      (pss_cons (ps_if (pt_cmpR op_eq (pv 2) pe_str (nomark _)) (pss_one (ps_expr (pe_bm PySem.F.plainAttrs_list PySem.F.slot_list_append PySem.F.type_list_append mt_append (pv 3) (pa_cons (pe_tup (pa_cons pe_str (pa_cons (pe_cmpR op_eq (pe_calK (K := K) rfl C_law_next (hr.mono (by first | decide | omega)) rfl (pa_cons (pv 0) (pa_cons pe_int pa_nil))) pe_int (nomark _)) pa_nil))) pa_nil)))) pss_nil)
      (pss_cons (ps_if (pt_cmpR op_eq (pv 2) pe_str (nomark _)) (pss_one (ps_expr (pe_bm PySem.F.plainAttrs_list PySem.F.slot_list_append PySem.F.type_list_append mt_append (pv 3) (pa_cons (pe_tup (pa_cons pe_str pa_nil)) pa_nil)))) pss_nil)
      (pss_one (ps_ret (pe_ix (r := rIx K) ix_seq (pv 3) (pe_calK (K := K) rfl C_law_next (hr.mono (by first | decide | omega)) rfl (pa_cons (pv 0) (pa_cons (pe_callB (r := rLenQ K) (id := "len")  call_len_seq (by rfl) zl PySem.boot_len (pa_cons (pv 3) pa_nil)) pa_nil))) (fun _ _ => rfl)))))))))), ?_⟩
  try dsimp only [cxOf]
  change dS _ _ _ [Sl.d _, Sl.d _, Sl.d _, Sl.un, Sl.un] _
  let I : Nat → List Sl → Prop := fun n ρ' => ∃ (bs : List B) (s4 : Sl), bs.length ≤ n ∧ (∀ b ∈ bs, b.ok ∧ b.depth = 1 ∧ b.kind takes calls cells = some kind) ∧ ρ' = [.d (.adr ah), .d (eD takes calls cells), .d (.str kind), .own (bs.map B.toD), s4]
  refine s_seq (s_own (l_lst (d_nil ⟨by simp, ?_⟩)))
  refine s_cut (I := I 3) ?_ ?_
  · refine s_if (d_test (d_op (d_dget (d_var rfl (d_c rfl ⟨_, _, _, rfl, rfl, rfl, d_var rfl (r_eqS ⟨_, rfl, fun e => ?_, fun e => ?_⟩)⟩)))))
    · refine s_keep (i := 3) rfl (s_own (l_cat (d_var rfl (d_ofL (l_rep ?_)))))
      refine d_lst (d_cons (d_tup (d_cons (d_c (by with_unfolding_all rfl) ?_))))
      refine d_nil (And.intro (show List.length _ ≤ 100000 by simp) ?_)
      refine d_nil (And.intro (show List.length _ ≤ 100000 by simp) ?_)
      refine d_c (by with_unfolding_all rfl) ?_
      dsimp only
      rotate_left
      refine ⟨_, 3, rfl, rfl, by simp, by omega, ⟨_, _, rfl, rfl, by simp, ?_⟩⟩
      have ek : takes = kind := of_decide_eq_true e
      exact ⟨[.arg, .arg, .arg], _, by simp, fun b hb => by
        simp only [List.mem_cons, List.not_mem_nil, or_false, or_self] at hb
        subst hb
        exact ⟨trivial, rfl, by rw [← ek]; rfl⟩, rfl⟩
    · refine s_next ?_
      exact ⟨[], _, by simp, fun b hb => (by cases hb), rfl⟩
  rintro ρ' ⟨bs, s4, hl, hb, rfl⟩
  refine s_cut (I := I 11) (s_for (i_list (d_ofL (l_sortedD (d_dget (d_var rfl (d_c rfl ⟨_, _, _, rfl, rfl, rfl, _, rfl, by rw [List.length_map]; have := hg.elen; omega, fun ys y1 y2 => ⟨_, rfl, ?_⟩⟩))))))) ?_
  · have yl : ys.length ≤ 4 := by rw [y1.length_eq, List.length_map, List.length_map]; exact hg.elen
    have ym : ∀ c ∈ ys, ∃ kd, (c, kd) ∈ cells := fun c hc => by
      have := y1.mem_iff.mp hc
      rw [List.map_map] at this
      obtain ⟨p, hp, rfl⟩ := List.mem_map.mp this
      exact ⟨p.2, hp⟩
    have loop : ∀ (r : List Str) (n : Nat) (ρ : List Sl), (∀ c ∈ r, c ∈ ys) → r.length ≤ n → I (3 + 2 * (4 - n)) ρ → n ≤ 4 → forW K (some (ah, as)) (gName 4) (tIfS (tTest (tOp rEq (tDGet (tDGet (tVar 1) (tC (V.str "cells"))) (tVar 4)) (tVar 2))) (tAsg (tOp rCat (tVar 3) (tOp rRep (tLst (tCons (tTup (tCons (tC (V.str "cell")) (tCons (tVar 4) tNil))) tNil)) (tC (V.int 2)))) (gName 3)) tNext) { nx := I 11, rt := kk } (strsOf r) ρ := by
      intro r
      induction r with
      | nil =>
        rintro n ρ _ _ ⟨bs, s4, h1, h2, h3⟩ _
        exact ⟨bs, s4, by omega, h2, h3⟩
      | cons c r ih =>
        rintro n ρ hm hn ⟨bs, s4, h1, h2, rfl⟩ n4
        rw [List.length_cons] at hn
        obtain ⟨kd, hc⟩ := ym c (hm c List.mem_cons_self)
        have lk := look_in hg.ecd hc
        have step : ∀ ρ', I (3 + 2 * (4 - (n - 1))) ρ' → forW K (some (ah, as)) (gName 4) _ _ (strsOf r) ρ' := fun ρ' h => ih (n - 1) ρ' (fun x hx => hm x (List.mem_cons_of_mem _ hx)) (by omega) h (by omega)
        refine forW_cons (g_name (s_if (d_test (d_op (d_dget ?_)))))
        refine d_dget (d_var rfl (d_c rfl ⟨_, _, _, rfl, rfl, rfl, ?_⟩))
        refine d_var rfl ⟨_, _, .str kd, rfl, rfl, (by rw [look_map D.str, lk]; rfl), ?_⟩
        refine d_var rfl (r_eqS ⟨_, rfl, fun e => ?_, fun e => ?_⟩)
        · refine s_keep (i := 3) rfl (s_own (l_cat (d_var rfl (d_ofL (l_rep ?_)))))
          refine d_lst (d_cons (d_tup (d_cons (d_c (by with_unfolding_all rfl) ?_))))
          refine d_cons (d_var (by with_unfolding_all rfl) ?_)
          refine d_nil (And.intro (show List.length _ ≤ 100000 by simp) ?_)
          refine d_nil (And.intro (show List.length _ ≤ 100000 by simp) ?_)
          refine d_c (by with_unfolding_all rfl) ?_
          dsimp only
          rotate_left
          refine ⟨_, 2, rfl, rfl, by simp, by omega, ⟨_, _, rfl, rfl, by simp; omega, ?_⟩⟩
          have ek : kd = kind := of_decide_eq_true e
          refine step _ ⟨bs ++ [.cel c, .cel c], _, by rw [List.length_append]; simp; omega, fun b hb => ?_, by rw [List.map_append]; rfl⟩
          rcases List.mem_append.mp hb with hb | hb
          · exact h2 b hb
          · simp only [List.mem_cons, List.not_mem_nil, or_false, or_self] at hb
            subst hb
            exact ⟨hg.en _ hc, rfl, by rw [← ek]; exact lk⟩
        · exact s_next (step _ ⟨bs, _, by omega, h2, rfl⟩)
    exact loop ys 4 _ (fun c h => h) yl ⟨bs, s4, by omega, hb, rfl⟩ (Nat.le_refl _)
  rintro ρ' ⟨bs, s4, hl, hb, rfl⟩
  -- at the end: one of them is drawn
  have last : ∀ (bs : List B) (s4 : Sl), bs.length ≤ 12 → 1 ≤ bs.length → (∀ b ∈ bs, b.ok ∧ b.depth = 1 ∧ b.kind takes calls cells = some kind) →
      dS K (some (ah, as)) (tRet (tOp (rIx K) (tVar 3) (tCall (spD K (some (ah, as)) (M_next ah)) [] E0 (tCons (tVar 0) (tCons (tCB (rLenQ K) (tCons (tVar 3) tNil)) tNil))))) [.d (.adr ah), .d (eD takes calls cells), .d (.str kind), .own (bs.map B.toD), s4] { nx := fun _ => kk .non, rt := kk } := by
    intro bs s4 h1 h2 h3
    refine s_keep (i := 3) rfl (s_ret (d_op (d_var rfl (d_call (d_cons (d_var rfl (d_cons (d_cb (d_cons (d_var rfl (d_nil (c_lenS (.inl rfl) (d_nil (m_next (by rw [List.length_map]; omega) (by rw [List.length_map]; omega) fun r r0 r1 => ?_))))))))))))))
    rw [List.length_map] at r1
    have hq : r.toNat < bs.length := by omega
    refine r_ix (.inl (r_ixL (d := (bs[r.toNat]).toD) (atI_get (j := r.toNat) (by omega) (by rw [List.getElem?_map, List.getElem?_eq_getElem hq]; rfl)) ?_))
    obtain ⟨o1, o2, o3⟩ := h3 _ (List.getElem_mem hq)
    exact q _ o1 o2 o3
  have add : ∀ b : B, (b.ok ∧ b.depth = 1 ∧ b.kind takes calls cells = some kind) → (∀ x ∈ bs ++ [b], x.ok ∧ x.depth = 1 ∧ x.kind takes calls cells = some kind) := fun b h x hx => by
    rcases List.mem_append.mp hx with z | z
    · exact hb x z
    · rw [List.mem_singleton.mp z]; exact h
  have app : ∀ b : B, bs.map B.toD ++ [b.toD] = (bs ++ [b]).map B.toD := fun b => by rw [List.map_append]; rfl
  have kk3 : kind = "number" ∨ kind = "truth" ∨ kind = "list" := by
    simpa only [kindsS, List.mem_cons, List.not_mem_nil, or_false] using hk
  rcases kk3 with rfl | rfl | rfl
  · refine s_seq (s_if (d_test (d_op (d_var rfl (d_c rfl (r_eqS ⟨_, rfl, br_t (by decide) ?_⟩))))))
    refine s_app (i := 3) rfl (by rw [List.length_map]; omega) ?_
    have numb : ∀ n : Int, -99 ≤ n → n ≤ 99 → (B.num n).ok ∧ (B.num n).depth = 1 ∧ (B.num n).kind takes calls cells = some ("number" : Str) := fun n h1 h2 => ⟨⟨h1, h2⟩, rfl, rfl⟩
    refine d_tup (d_cons (d_c rfl (d_cons (d_op (d_lst (d_cons (d_op ?_)))))))
    refine d_next rfl (by decide) (by decide) fun r1 a1 b1 => ?_
    refine d_c rfl (r_I0 rfl (d_cons (d_op ?_)))
    refine d_next rfl (by decide) (by decide) fun r2 a2 b2 => ?_
    refine d_c rfl (r_I0 rfl (d_nil ⟨by simp, ?_⟩))
    refine d_next rfl (by decide) (by decide) fun r3 a3 b3 => ?_
    have r3 : r3 = 0 ∨ r3 = 1 := by omega
    rcases r3 with rfl | rfl
    · refine r_ix (.inl (r_ixL rfl (d_nil ⟨by simp, ?_⟩)))
      refine s_seq (s_if (d_test (d_op (d_var rfl (d_c rfl (r_eqS ⟨_, rfl, br_f (by decide) ?_⟩))))))
      refine s_next ?_
      refine s_seq (s_if (d_test (d_op (d_var rfl (d_c rfl (r_eqS ⟨_, rfl, br_f (by decide) ?_⟩))))))
      refine s_next ?_
      have e := app (.num (r1 - 3))
      show dS _ _ _ [_, _, _, .own (bs.map B.toD ++ [(B.num (r1 - 3)).toD]), _] _
      rw [e]
      exact last _ _ (by simp; omega) (by simp) (add _ (numb _ (by omega) (by omega)))
    · refine r_ix (.inl (r_ixL rfl (d_nil ⟨by simp, ?_⟩)))
      refine s_seq (s_if (d_test (d_op (d_var rfl (d_c rfl (r_eqS ⟨_, rfl, br_f (by decide) ?_⟩))))))
      refine s_next ?_
      refine s_seq (s_if (d_test (d_op (d_var rfl (d_c rfl (r_eqS ⟨_, rfl, br_f (by decide) ?_⟩))))))
      refine s_next ?_
      have e := app (.num (r2 - 99))
      show dS _ _ _ [_, _, _, .own (bs.map B.toD ++ [(B.num (r2 - 99)).toD]), _] _
      rw [e]
      exact last _ _ (by simp; omega) (by simp) (add _ (numb _ (by omega) (by omega)))
  · refine s_seq (s_if (d_test (d_op (d_var rfl (d_c rfl (r_eqS ⟨_, rfl, br_f (by decide) ?_⟩))))))
    refine s_next ?_
    refine s_seq (s_if (d_test (d_op (d_var rfl (d_c rfl (r_eqS ⟨_, rfl, br_t (by decide) ?_⟩))))))
    refine s_app (i := 3) rfl (by rw [List.length_map]; omega) ?_
    refine d_tup (d_cons (d_c rfl (d_cons (d_op ?_))))
    refine d_next rfl (by decide) (by decide) fun r1 a1 b1 => ?_
    refine d_c rfl (r_eqI (d_nil ⟨by simp, ?_⟩))
    refine s_seq (s_if (d_test (d_op (d_var rfl (d_c rfl (r_eqS ⟨_, rfl, br_f (by decide) ?_⟩))))))
    refine s_next ?_
    have e := app (.tru (decide (r1 = 1)))
    show dS _ _ _ [_, _, _, .own (bs.map B.toD ++ [(B.tru (decide (r1 = 1))).toD]), _] _
    rw [e]
    exact last _ _ (by simp; omega) (by simp) (add _ ⟨trivial, rfl, rfl⟩)
  · refine s_seq (s_if (d_test (d_op (d_var rfl (d_c rfl (r_eqS ⟨_, rfl, br_f (by decide) ?_⟩))))))
    refine s_next ?_
    refine s_seq (s_if (d_test (d_op (d_var rfl (d_c rfl (r_eqS ⟨_, rfl, br_f (by decide) ?_⟩))))))
    refine s_next ?_
    refine s_seq (s_if (d_test (d_op (d_var rfl (d_c rfl (r_eqS ⟨_, rfl, br_t (by decide) ?_⟩))))))
    refine s_app (i := 3) rfl (by rw [List.length_map]; omega) ?_
    refine d_tup (d_cons (d_c rfl (d_nil ⟨by simp, ?_⟩)))
    have e := app .emp
    show dS _ _ _ [_, _, _, .own (bs.map B.toD ++ [B.emp.toD]), _] _
    rw [e]
    exact last _ _ (by simp; omega) (by simp) (add _ ⟨trivial, rfl, rfl⟩)
end
end Pr
set_option Elab.async false
set_option linter.all false
set_option maxRecDepth 100000
set_option maxHeartbeats 2000000
namespace Pr
open PySem L2 PD
abbrev s_law_call : Stmt := top 41
abbrev N_law_call : List Str := ["_law_h", "_law_e", "_law_kind", "_law_deep_here", "_law_deeds", "_law_deed", "_law_cells", "_law_cell"]
theorem sc_law_call : FnScope N_law_call ["_law_h", "_law_e", "_law_kind", "_law_deep_here"] (defScope s_law_call) := ⟨rfl, rfl, rfl, by decide +kernel, rfl, by decide +kernel, by decide +kernel⟩

abbrev s_law_body : Stmt := top 42
abbrev N_law_body : List Str := ["_law_h", "_law_e", "_law_kind", "_law_deep_here", "_law_turn", "_law_other", "_law_arms"]
theorem sc_law_body : FnScope N_law_body ["_law_h", "_law_e", "_law_kind", "_law_deep_here"] (defScope s_law_body) := ⟨rfl, rfl, rfl, by decide +kernel, rfl, by decide +kernel, by decide +kernel⟩

abbrev s_law_reckons : Stmt := top 43
abbrev N_law_reckons : List Str := ["_law_h", "_law_e", "_law_kind", "_law_deep_here", "_law_word", "_law_more", "_law_other", "_law_one"]
theorem sc_law_reckons : FnScope N_law_reckons ["_law_h", "_law_e", "_law_kind", "_law_deep_here"] (defScope s_law_reckons) := ⟨rfl, rfl, rfl, by decide +kernel, rfl, by decide +kernel, by decide +kernel⟩

section
variable {P : Program} {w : World} {K : PySem.W.Frag} {mg : Str → Option Value} {base : Heap}
/-- a body of at most so many within one another, of this kind -/
def Gen (takes : Str) (calls : CT) (cells : ET) (kind : Str) (n : Nat) (b : B) : Prop := b.ok ∧ b.depth ≤ n ∧ b.kind takes calls cells = some kind
def M_gen (ah : Addr) (n m : Nat) : List D → (D → Prop) → Prop := fun ds k => ∃ (takes : Str) (calls : CT) (cells : ET) (kind : Str), ds = [.adr ah, eD takes calls cells, .str kind, .int (n : Int)] ∧ EnvG takes calls cells ∧ kind ∈ kindsS ∧ ∀ b : B, Gen takes calls cells kind m b → k b.toD
theorem m_gen {ah : Addr} {n m : Nat} {takes : Str} {calls : CT} {cells : ET} {kind : Str} {i : Int} {k : D → Prop} (hi : i = (n : Int)) (hg : EnvG takes calls cells) (hk : kind ∈ kindsS) (h : ∀ b : B, Gen takes calls cells kind m b → k b.toD) : M_gen ah n m [.adr ah, eD takes calls cells, .str kind, .int i] k := by
  subst hi
  exact ⟨takes, calls, cells, kind, rfl, hg, hk, h⟩
theorem m_leaf {ah : Addr} {takes : Str} {calls : CT} {cells : ET} {kind : Str} {k : D → Prop} (hg : EnvG takes calls cells) (hk : kind ∈ kindsS) (h : ∀ b : B, Gen takes calls cells kind 1 b → k b.toD) : M_leaf ah [.adr ah, eD takes calls cells, .str kind] k :=
  ⟨takes, calls, cells, kind, rfl, hg, hk, fun b h1 h2 h3 => h b ⟨h1, Nat.le_of_eq h2, h3⟩⟩
theorem g1 {takes : Str} {calls : CT} {cells : ET} {v k k' : Str} {n : Nat} {b : B} (hv : v ∈ w1S) (hb : Gen takes calls cells k n b) (e : byArms v [k] = some k') : Gen takes calls cells k' (n + 1) (.op1 v b) :=
  ⟨⟨hv, hb.1⟩, by simp only [B.depth]; have := hb.2.1; omega, by simp only [B.kind, hb.2.2]; exact e⟩
theorem g2 {takes : Str} {calls : CT} {cells : ET} {v k l k' : Str} {n : Nat} {b c : B} (hv : v ∈ w2S) (hb : Gen takes calls cells k n b) (hc : Gen takes calls cells l n c) (e : byArms v [k, l] = some k') : Gen takes calls cells k' (n + 1) (.op2 v b c) :=
  ⟨⟨hv, hb.1, hc.1⟩, by simp only [B.depth]; have := hb.2.1; have := hc.2.1; omega, by simp only [B.kind, hb.2.2, hc.2.2]; exact e⟩
theorem g3 {takes : Str} {calls : CT} {cells : ET} {k : Str} {n : Nat} {a b c : B} (ha : Gen takes calls cells "truth" n a) (hb : Gen takes calls cells k n b) (hc : Gen takes calls cells k n c) : Gen takes calls cells k (n + 1) (.ite a b c) :=
  ⟨⟨ha.1, hb.1, hc.1⟩, by simp only [B.depth]; have := ha.2.1; have := hb.2.1; have := hc.2.1; omega, by
    simp only [B.kind, ha.2.2, hb.2.2, hc.2.2]
    show (if some _ = some _ ∧ some k = some k then some k else none) = some k
    rw [if_pos ⟨rfl, rfl⟩]⟩
theorem gThen {takes : Str} {calls : CT} {cells : ET} {k l : Str} {n : Nat} {b c : B} (hb : Gen takes calls cells k n b) (hc : Gen takes calls cells l n c) : Gen takes calls cells l (n + 1) (.op2 "then" b c) := g2 (by decide) hb hc rfl
theorem gSame {takes : Str} {calls : CT} {cells : ET} {k : Str} {n : Nat} {b c : B} (hb : Gen takes calls cells k n b) (hc : Gen takes calls cells k n c) : Gen takes calls cells "truth" (n + 1) (.op2 "same" b c) := g2 (by decide) hb hc (by
  show (if some k = some k then some ("truth" : Str) else none) = _
  rw [if_pos rfl])
theorem Gen.up {takes : Str} {calls : CT} {cells : ET} {k : Str} {n m : Nat} {b : B} (h : Gen takes calls cells k n b) (l : n ≤ m) : Gen takes calls cells k m b := ⟨h.1, Nat.le_trans h.2.1 l, h.2.2⟩
/-- one of the list's, drawn -/
theorem r_pick {hs : Option (Addr × Addr)} {ds : List D} {r : Int} {k : D → Prop} (h0 : 0 ≤ r) (h1 : r < (ds.length : Int)) (q : ∀ d ∈ ds, k d) : dR K hs (rIx K) (.lst ds) (.int r) k := by
  have hq : r.toNat < ds.length := by omega
  exact r_ix (.inl (r_ixL (d := ds[r.toNat]) (atI_get (j := r.toNat) (by omega) (List.getElem?_eq_getElem hq)) (q _ (List.getElem_mem hq))))
theorem d_dget2s {hs : Option (Addr × Addr)} {ρ : List Sl} {k : D → Prop} {ta tb tc : TE} (h : dE K hs ta ρ fun x => ∃ ks, x = .dct ks ∧ dE K hs tb ρ fun y => dE K hs tc ρ fun x' => ∃ s d, y = .str s ∧ (lookD ks s).getD x' = d ∧ k d) : dE K hs (tDGet2 ta tb tc) ρ k :=
  d_dget2 fun H0 σ G H Q f R z => h H0 σ G H Q f R fun v G' H' x s r ⟨c, e, q⟩ => z v G' H' x s r ⟨_, e, fun H0 σ G H Q f R z => q H0 σ G H Q f R fun v G' H' y s r q => z v G' H' y s r fun H0 σ G H Q f R z => q H0 σ G H Q f R fun v G' H' x' s r ⟨t, d, e, e2, q⟩ => z v G' H' x' s r ⟨t, e, by rw [e2]; exact q⟩⟩
theorem dP_cons {hs : Option (Addr × Addr)} {ρ : List Sl} {tk tv : TE} {r : List (TE × TE)} {kp : List (Str × D) → Prop} (h : dE K hs tk ρ fun x => ∃ s, x = .str s ∧ dE K hs tv ρ fun y => dP K hs r ρ fun ps => kp ((s, y) :: ps)) : dP K hs ((tk, tv) :: r) ρ kp := h
theorem dP_nil {hs : Option (Addr × Addr)} {ρ : List Sl} {kp : List (Str × D) → Prop} (h : kp []) : dP K hs [] ρ kp := h
/-- of a def that is never reached -/
def M_no : List D → (D → Prop) → Prop := fun _ _ => False
theorem calNo {x : Str} {st : Stmt} {N ps : List Str} {hs : Option (Addr × Addr)} (F : DefT K mg x st) (S : FnScope N ps (defScope st))
    (hb : ∀ (kV doc pm : Value) (an : Option Addr) (cdv ct : Value) (us : List Value), us.length = ps.length → bindArgs (PySem.W.fnOf x x (defArgs st) (defBody st) (defScope st) .none kV doc pm an cdv ct) ⟨us, []⟩ = pure (ps.zip us)) : Cal P w K mg base 1 x ps hs M_no :=
  okF F S hb (fun _ _ h => h.elim) fun _ _ _ _ _ _ _ _ _ _ h => h.elim
theorem ok_reck {ah as : Addr} (F : DefT K mg "_law_reckons" s_law_reckons) (n j : Nat) (hj : 1 ≤ j) (C_law_next : Cal P w K mg base 1 "_law_next" ["_law_h", "_law_many"] (some (ah, as)) (M_next ah))
    (C_law_body : Cal P w K mg base j "_law_body" ["_law_h", "_law_e", "_law_kind", "_law_deep_here"] (some (ah, as)) (M_gen ah n (n + 1))) : Cal P w K mg base (j + 1) "_law_reckons" ["_law_h", "_law_e", "_law_kind", "_law_deep_here"] (some (ah, as)) (M_gen ah n (n + 2)) := by
  refine okF F sc_law_reckons (fun _ _ _ _ _ _ us hl => match us, hl with | [_, _, _, _], _ => rfl) (fun ds k h => ?_) (fun f cdv A outer s H E ds kk hr h => ?_)
  · obtain ⟨_, _, _, _, rfl, _⟩ := h
    rfl
  obtain ⟨takes, calls, cells, kind, rfl, hg, hk, q⟩ := h
  have hu := hu_of hr
  refine ⟨_, (pss_cons (ps_if (pt_cmpR op_eq (pv 2) pe_str (nomark _)) (pss_cons (ps_set (i := 4) sc_law_reckons.nd rfl (by first | exact Or.inl rfl | exact Or.inr rfl) (pe_ix (r := rIx K) ix_seq (pe_lst (pa_cons pe_str (pa_cons pe_str pa_nil))) (pe_calK (K := K) rfl C_law_next (hr.mono (by first | decide | omega)) rfl (pa_cons (pv 0) (pa_cons pe_int pa_nil))) (fun _ _ => rfl)))
      (pss_cons (ps_set (i := 5) sc_law_reckons.nd rfl (by first | exact Or.inl rfl | exact Or.inr rfl) (pe_calK (K := K) rfl C_law_body (hr.mono (by first | decide | omega)) rfl (pa_cons (pv 0) (pa_cons (pv 1) (pa_cons pe_str (pa_cons (pv 3) pa_nil))))))
      (pss_one (ps_ret (pe_ifExp (pt_cmpR op_eq (pv 4) pe_str (nomark _)) (pe_tup (pa_cons (pv 4) (pa_cons (pe_calK (K := K) rfl C_law_body (hr.mono (by first | decide | omega)) rfl (pa_cons (pv 0) (pa_cons (pv 1) (pa_cons pe_str (pa_cons (pv 3) pa_nil))))) (pa_cons (pv 5) pa_nil)))) (pe_tup (pa_cons (pv 4) (pa_cons (pv 5) pa_nil)))))))) pss_nil)
      (pss_cons (ps_if (pt_cmpR op_eq (pv 2) pe_str (nomark _)) (pss_cons (ps_set (i := 4) sc_law_reckons.nd rfl (by first | exact Or.inl rfl | exact Or.inr rfl) (pe_ix (r := rIx K) ix_seq (pe_lst (pa_cons pe_str (pa_cons pe_str (pa_cons pe_str (pa_cons pe_str pa_nil))))) (pe_calK (K := K) rfl C_law_next (hr.mono (by first | decide | omega)) rfl (pa_cons (pv 0) (pa_cons pe_int pa_nil))) (fun _ _ => rfl)))
      (pss_cons (ps_set (i := 6) sc_law_reckons.nd rfl (by first | exact Or.inl rfl | exact Or.inr rfl) (pe_dget2 hu (pe_disp (pps_cons pe_str pe_str (pps_cons pe_str pe_str (pps_cons pe_str pe_str pps_nil))) (by rfl) (by rfl) (fun z => by cases z) (by decide)) (pv 4) pe_str ⟨rfl, rfl, rfl, rfl⟩))
      (pss_cons (ps_if (pt_cmpR op_eq (pv 6) pe_str (nomark _)) (pss_one (ps_set (i := 6) sc_law_reckons.nd rfl (by first | exact Or.inl rfl | exact Or.inr rfl) (pe_ix (r := rIx K) ix_seq (pe_lst (pa_cons pe_str (pa_cons pe_str (pa_cons pe_str pa_nil)))) (pe_calK (K := K) rfl C_law_next (hr.mono (by first | decide | omega)) rfl (pa_cons (pv 0) (pa_cons pe_int pa_nil))) (fun _ _ => rfl)))) pss_nil)
      (pss_cons (ps_set (i := 7) sc_law_reckons.nd rfl (by first | exact Or.inl rfl | exact Or.inr rfl) (pe_calK (K := K) rfl C_law_body (hr.mono (by first | decide | omega)) rfl (pa_cons (pv 0) (pa_cons (pv 1) (pa_cons (pv 6) (pa_cons (pv 3) pa_nil))))))
      (pss_one (ps_ret (pe_ifExp (pt_cmpR op_eq (pv 4) pe_str (nomark _)) (pe_tup (pa_cons (pv 4) (pa_cons (pv 7) pa_nil))) (pe_tup (pa_cons (pv 4) (pa_cons (pv 7) (pa_cons (pe_calK (K := K) rfl C_law_body (hr.mono (by first | decide | omega)) rfl (pa_cons (pv 0) (pa_cons (pv 1) (pa_cons (pv 6) (pa_cons (pv 3) pa_nil))))) pa_nil))))))))))) pss_nil)
      (pss_cons (ps_set (i := 4) sc_law_reckons.nd rfl (by first | exact Or.inl rfl | exact Or.inr rfl) (pe_ix (r := rIx K) ix_seq (pe_lst (pa_cons pe_str (pa_cons pe_str (pa_cons pe_str (pa_cons pe_str (pa_cons pe_str pa_nil)))))) (pe_calK (K := K) rfl C_law_next (hr.mono (by first | decide | omega)) rfl (pa_cons (pv 0) (pa_cons pe_int pa_nil))) (fun _ _ => rfl)))
      (pss_cons (ps_if (pt_cmpR (r := rIn K false) op_in_seq (pv 4) (pe_tup (pa_cons pe_str (pa_cons pe_str pa_nil))) rfl) (pss_one (ps_ret (pe_tup (pa_cons (pv 4) (pa_cons (pe_calK (K := K) rfl C_law_body (hr.mono (by first | decide | omega)) rfl (pa_cons (pv 0) (pa_cons (pv 1) (pa_cons pe_str (pa_cons (pv 3) pa_nil))))) pa_nil))))) pss_nil)
      (pss_one (ps_ret (pe_tup (pa_cons (pv 4) (pa_cons (pe_calK (K := K) rfl C_law_body (hr.mono (by first | decide | omega)) rfl (pa_cons (pv 0) (pa_cons (pv 1) (pa_cons pe_str (pa_cons (pv 3) pa_nil))))) (pa_cons (pe_calK (K := K) rfl C_law_body (hr.mono (by first | decide | omega)) rfl (pa_cons (pv 0) (pa_cons (pv 1) (pa_cons pe_str (pa_cons (pv 3) pa_nil))))) pa_nil)))))))))), ?_⟩
  try dsimp only [cxOf]
  change dS _ _ _ [Sl.d _, Sl.d _, Sl.d _, Sl.d _, Sl.un, Sl.un, Sl.un, Sl.un] _
  have nk : ("number" : Str) ∈ kindsS := by decide
  have tk : ("truth" : Str) ∈ kindsS := by decide
  have lk : ("list" : Str) ∈ kindsS := by decide
  have kk3 : kind = "number" ∨ kind = "truth" ∨ kind = "list" := by
    simpa only [kindsS, List.mem_cons, List.not_mem_nil, or_false] using hk
  rcases kk3 with rfl | rfl | rfl
  · refine s_seq (s_if (d_test (d_op (d_var (by with_unfolding_all rfl) ?_))))
    refine d_c (by with_unfolding_all rfl) ?_
    refine r_eqS ⟨_, rfl, (br_f (by with_unfolding_all rfl) ?_)⟩
    refine s_next (s_seq (s_if (d_test (d_op (d_var (by with_unfolding_all rfl) ?_)))))
    refine d_c (by with_unfolding_all rfl) ?_
    refine r_eqS ⟨_, rfl, (br_f (by with_unfolding_all rfl) ?_)⟩
    refine s_next (s_seq (s_set (d_op (d_lst (d_cons (d_c (by with_unfolding_all rfl) ?_))))))
    refine d_cons (d_c (by with_unfolding_all rfl) ?_)
    refine d_cons (d_c (by with_unfolding_all rfl) ?_)
    refine d_cons (d_c (by with_unfolding_all rfl) ?_)
    refine d_cons (d_c (by with_unfolding_all rfl) ?_)
    refine d_nil (And.intro (show List.length _ ≤ 100000 by simp) ?_)
    refine d_next (by with_unfolding_all rfl) (by decide) (by decide) (fun r r0 r1 => ?_)
    dsimp only
    rotate_left
    refine r_pick (by assumption) (by assumption) fun d hd => ?_
    simp only [List.mem_cons, List.not_mem_nil, or_false] at hd
    rcases hd with rfl | rfl | rfl | rfl | rfl
    refine s_seq (s_if (d_test (d_op (d_var (by with_unfolding_all rfl) ?_))))
    refine d_tup (d_cons (d_c (by with_unfolding_all rfl) ?_))
    refine d_cons (d_c (by with_unfolding_all rfl) ?_)
    refine d_nil (And.intro (show List.length _ ≤ 100000 by simp) ?_)
    refine r_in0 (ss := ["first", "many"]) ⟨_, rfl, (br_f (by with_unfolding_all rfl) ?_)⟩
    refine s_next (s_ret (d_tup (d_cons (d_var (by with_unfolding_all rfl) ?_))))
    refine d_cons (d_call (d_cons (d_var (by with_unfolding_all rfl) ?_)))
    refine d_cons (d_var (by with_unfolding_all rfl) ?_)
    refine d_cons (d_c (by with_unfolding_all rfl) ?_)
    refine d_cons (d_var (by with_unfolding_all rfl) ?_)
    refine d_nil ?_
    (with_reducible refine m_gen rfl hg (by assumption) (fun b hb => ?_))
    refine d_cons (d_call (d_cons (d_var (by with_unfolding_all rfl) ?_)))
    refine d_cons (d_var (by with_unfolding_all rfl) ?_)
    refine d_cons (d_c (by with_unfolding_all rfl) ?_)
    refine d_cons (d_var (by with_unfolding_all rfl) ?_)
    refine d_nil ?_
    (with_reducible refine m_gen rfl hg (by assumption) (fun b hb => ?_))
    refine d_nil (And.intro (show List.length _ ≤ 100000 by simp) ?_)
    dsimp only
    rotate_left
    refine s_seq (s_if (d_test (d_op (d_var (by with_unfolding_all rfl) ?_))))
    refine d_tup (d_cons (d_c (by with_unfolding_all rfl) ?_))
    refine d_cons (d_c (by with_unfolding_all rfl) ?_)
    refine d_nil (And.intro (show List.length _ ≤ 100000 by simp) ?_)
    refine r_in0 (ss := ["first", "many"]) ⟨_, rfl, (br_f (by with_unfolding_all rfl) ?_)⟩
    refine s_next (s_ret (d_tup (d_cons (d_var (by with_unfolding_all rfl) ?_))))
    refine d_cons (d_call (d_cons (d_var (by with_unfolding_all rfl) ?_)))
    refine d_cons (d_var (by with_unfolding_all rfl) ?_)
    refine d_cons (d_c (by with_unfolding_all rfl) ?_)
    refine d_cons (d_var (by with_unfolding_all rfl) ?_)
    refine d_nil ?_
    (with_reducible refine m_gen rfl hg (by assumption) (fun b hb => ?_))
    refine d_cons (d_call (d_cons (d_var (by with_unfolding_all rfl) ?_)))
    refine d_cons (d_var (by with_unfolding_all rfl) ?_)
    refine d_cons (d_c (by with_unfolding_all rfl) ?_)
    refine d_cons (d_var (by with_unfolding_all rfl) ?_)
    refine d_nil ?_
    (with_reducible refine m_gen rfl hg (by assumption) (fun b hb => ?_))
    refine d_nil (And.intro (show List.length _ ≤ 100000 by simp) ?_)
    dsimp only
    rotate_left
    refine s_seq (s_if (d_test (d_op (d_var (by with_unfolding_all rfl) ?_))))
    refine d_tup (d_cons (d_c (by with_unfolding_all rfl) ?_))
    refine d_cons (d_c (by with_unfolding_all rfl) ?_)
    refine d_nil (And.intro (show List.length _ ≤ 100000 by simp) ?_)
    refine r_in0 (ss := ["first", "many"]) ⟨_, rfl, (br_f (by with_unfolding_all rfl) ?_)⟩
    refine s_next (s_ret (d_tup (d_cons (d_var (by with_unfolding_all rfl) ?_))))
    refine d_cons (d_call (d_cons (d_var (by with_unfolding_all rfl) ?_)))
    refine d_cons (d_var (by with_unfolding_all rfl) ?_)
    refine d_cons (d_c (by with_unfolding_all rfl) ?_)
    refine d_cons (d_var (by with_unfolding_all rfl) ?_)
    refine d_nil ?_
    (with_reducible refine m_gen rfl hg (by assumption) (fun b hb => ?_))
    refine d_cons (d_call (d_cons (d_var (by with_unfolding_all rfl) ?_)))
    refine d_cons (d_var (by with_unfolding_all rfl) ?_)
    refine d_cons (d_c (by with_unfolding_all rfl) ?_)
    refine d_cons (d_var (by with_unfolding_all rfl) ?_)
    refine d_nil ?_
    (with_reducible refine m_gen rfl hg (by assumption) (fun b hb => ?_))
    refine d_nil (And.intro (show List.length _ ≤ 100000 by simp) ?_)
    dsimp only
    rotate_left
    refine s_seq (s_if (d_test (d_op (d_var (by with_unfolding_all rfl) ?_))))
    refine d_tup (d_cons (d_c (by with_unfolding_all rfl) ?_))
    refine d_cons (d_c (by with_unfolding_all rfl) ?_)
    refine d_nil (And.intro (show List.length _ ≤ 100000 by simp) ?_)
    refine r_in0 (ss := ["first", "many"]) ⟨_, rfl, (br_t (by with_unfolding_all rfl) ?_)⟩
    refine s_ret (d_tup (d_cons (d_var (by with_unfolding_all rfl) ?_)))
    refine d_cons (d_call (d_cons (d_var (by with_unfolding_all rfl) ?_)))
    refine d_cons (d_var (by with_unfolding_all rfl) ?_)
    refine d_cons (d_c (by with_unfolding_all rfl) ?_)
    refine d_cons (d_var (by with_unfolding_all rfl) ?_)
    refine d_nil ?_
    (with_reducible refine m_gen rfl hg (by assumption) (fun b hb => ?_))
    refine d_nil (And.intro (show List.length _ ≤ 100000 by simp) ?_)
    dsimp only
    rotate_left
    refine s_seq (s_if (d_test (d_op (d_var (by with_unfolding_all rfl) ?_))))
    refine d_tup (d_cons (d_c (by with_unfolding_all rfl) ?_))
    refine d_cons (d_c (by with_unfolding_all rfl) ?_)
    refine d_nil (And.intro (show List.length _ ≤ 100000 by simp) ?_)
    refine r_in0 (ss := ["first", "many"]) ⟨_, rfl, (br_t (by with_unfolding_all rfl) ?_)⟩
    refine s_ret (d_tup (d_cons (d_var (by with_unfolding_all rfl) ?_)))
    refine d_cons (d_call (d_cons (d_var (by with_unfolding_all rfl) ?_)))
    refine d_cons (d_var (by with_unfolding_all rfl) ?_)
    refine d_cons (d_c (by with_unfolding_all rfl) ?_)
    refine d_cons (d_var (by with_unfolding_all rfl) ?_)
    refine d_nil ?_
    (with_reducible refine m_gen rfl hg (by assumption) (fun b hb => ?_))
    refine d_nil (And.intro (show List.length _ ≤ 100000 by simp) ?_)
    dsimp only
    rotate_left
    all_goals (first | exact q (.op1 _ b) (g1 (by decide) hb (by decide +kernel)) | (rename_i b0 hb0; exact q (.op2 _ b0 b) (g2 (by decide) hb0 hb (by decide +kernel))) | (rename_i b0 hb0; exact q (.op2 _ b b0) (g2 (by decide) hb hb0 (by decide +kernel))))
  · refine s_seq (s_if (d_test (d_op (d_var (by with_unfolding_all rfl) ?_))))
    refine d_c (by with_unfolding_all rfl) ?_
    refine r_eqS ⟨_, rfl, (br_f (by with_unfolding_all rfl) ?_)⟩
    refine s_next (s_seq (s_if (d_test (d_op (d_var (by with_unfolding_all rfl) ?_)))))
    refine d_c (by with_unfolding_all rfl) ?_
    refine r_eqS ⟨_, rfl, (br_t (by with_unfolding_all rfl) ?_)⟩
    refine s_seq (s_set (d_op (d_lst (d_cons (d_c (by with_unfolding_all rfl) ?_)))))
    refine d_cons (d_c (by with_unfolding_all rfl) ?_)
    refine d_cons (d_c (by with_unfolding_all rfl) ?_)
    refine d_cons (d_c (by with_unfolding_all rfl) ?_)
    refine d_nil (And.intro (show List.length _ ≤ 100000 by simp) ?_)
    refine d_next (by with_unfolding_all rfl) (by decide) (by decide) (fun r r0 r1 => ?_)
    dsimp only
    rotate_left
    refine r_pick (by assumption) (by assumption) fun d hd => ?_
    simp only [List.mem_cons, List.not_mem_nil, or_false] at hd
    rcases hd with rfl | rfl | rfl | rfl
    · refine s_seq (s_set (d_dget2s (d_disp (dP_cons (d_c (by with_unfolding_all rfl) ?_)))))
      refine ⟨_, rfl, (d_c (by with_unfolding_all rfl) ?_)⟩
      refine dP_cons (d_c (by with_unfolding_all rfl) ?_)
      refine ⟨_, rfl, (d_c (by with_unfolding_all rfl) ?_)⟩
      refine dP_cons (d_c (by with_unfolding_all rfl) ?_)
      refine ⟨_, rfl, (d_c (by with_unfolding_all rfl) ?_)⟩
      refine dP_nil (And.intro (show List.length _ ≤ 15 by simp) ?_)
      refine ⟨_, rfl, (d_var (by with_unfolding_all rfl) ?_)⟩
      refine d_c (by with_unfolding_all rfl) ?_
      refine ⟨_, D.str "number", rfl, rfl, (s_seq (s_if (d_test (d_op (d_var (by with_unfolding_all rfl) ?_)))))⟩
      refine d_c (by with_unfolding_all rfl) ?_
      refine r_eqS ⟨_, rfl, (br_f (by with_unfolding_all rfl) ?_)⟩
      refine s_next (s_seq (s_set (d_call (d_cons (d_var (by with_unfolding_all rfl) ?_)))))
      refine d_cons (d_var (by with_unfolding_all rfl) ?_)
      refine d_cons (d_var (by with_unfolding_all rfl) ?_)
      refine d_cons (d_var (by with_unfolding_all rfl) ?_)
      refine d_nil ?_
      (with_reducible refine m_gen rfl hg (by assumption) (fun b hb => ?_))
      refine s_ret (d_ifE (d_test (d_op (d_var (by with_unfolding_all rfl) ?_))))
      refine d_c (by with_unfolding_all rfl) ?_
      refine r_eqS ⟨_, rfl, (br_f (by with_unfolding_all rfl) ?_)⟩
      refine d_tup (d_cons (d_var (by with_unfolding_all rfl) ?_))
      refine d_cons (d_var (by with_unfolding_all rfl) ?_)
      refine d_cons (d_call (d_cons (d_var (by with_unfolding_all rfl) ?_)))
      refine d_cons (d_var (by with_unfolding_all rfl) ?_)
      refine d_cons (d_var (by with_unfolding_all rfl) ?_)
      refine d_cons (d_var (by with_unfolding_all rfl) ?_)
      refine d_nil ?_
      (with_reducible refine m_gen rfl hg (by assumption) (fun b hb => ?_))
      refine d_nil (And.intro (show List.length _ ≤ 100000 by simp) ?_)
      dsimp only
      rotate_left
      rename_i b0 hb0
      exact q (.op2 _ b0 b) (g2 (by decide) hb0 hb (by decide +kernel))
    · refine s_seq (s_set (d_dget2s (d_disp (dP_cons (d_c (by with_unfolding_all rfl) ?_)))))
      refine ⟨_, rfl, (d_c (by with_unfolding_all rfl) ?_)⟩
      refine dP_cons (d_c (by with_unfolding_all rfl) ?_)
      refine ⟨_, rfl, (d_c (by with_unfolding_all rfl) ?_)⟩
      refine dP_cons (d_c (by with_unfolding_all rfl) ?_)
      refine ⟨_, rfl, (d_c (by with_unfolding_all rfl) ?_)⟩
      refine dP_nil (And.intro (show List.length _ ≤ 15 by simp) ?_)
      refine ⟨_, rfl, (d_var (by with_unfolding_all rfl) ?_)⟩
      refine d_c (by with_unfolding_all rfl) ?_
      refine ⟨_, D.str "", rfl, rfl, (s_seq (s_if (d_test (d_op (d_var (by with_unfolding_all rfl) ?_)))))⟩
      refine d_c (by with_unfolding_all rfl) ?_
      refine r_eqS ⟨_, rfl, (br_t (by with_unfolding_all rfl) ?_)⟩
      refine s_set (d_op (d_lst (d_cons (d_c (by with_unfolding_all rfl) ?_))))
      refine d_cons (d_c (by with_unfolding_all rfl) ?_)
      refine d_cons (d_c (by with_unfolding_all rfl) ?_)
      refine d_nil (And.intro (show List.length _ ≤ 100000 by simp) ?_)
      refine d_next (by with_unfolding_all rfl) (by decide) (by decide) (fun r r0 r1 => ?_)
      dsimp only
      rotate_left
      refine r_pick (by assumption) (by assumption) fun d hd => ?_
      simp only [List.mem_cons, List.not_mem_nil, or_false] at hd
      rcases hd with rfl | rfl | rfl
      refine s_seq (s_set (d_call (d_cons (d_var (by with_unfolding_all rfl) ?_))))
      refine d_cons (d_var (by with_unfolding_all rfl) ?_)
      refine d_cons (d_var (by with_unfolding_all rfl) ?_)
      refine d_cons (d_var (by with_unfolding_all rfl) ?_)
      refine d_nil ?_
      (with_reducible refine m_gen rfl hg (by assumption) (fun b hb => ?_))
      refine s_ret (d_ifE (d_test (d_op (d_var (by with_unfolding_all rfl) ?_))))
      refine d_c (by with_unfolding_all rfl) ?_
      refine r_eqS ⟨_, rfl, (br_f (by with_unfolding_all rfl) ?_)⟩
      refine d_tup (d_cons (d_var (by with_unfolding_all rfl) ?_))
      refine d_cons (d_var (by with_unfolding_all rfl) ?_)
      refine d_cons (d_call (d_cons (d_var (by with_unfolding_all rfl) ?_)))
      refine d_cons (d_var (by with_unfolding_all rfl) ?_)
      refine d_cons (d_var (by with_unfolding_all rfl) ?_)
      refine d_cons (d_var (by with_unfolding_all rfl) ?_)
      refine d_nil ?_
      (with_reducible refine m_gen rfl hg (by assumption) (fun b hb => ?_))
      refine d_nil (And.intro (show List.length _ ≤ 100000 by simp) ?_)
      dsimp only
      rotate_left
      refine s_seq (s_set (d_call (d_cons (d_var (by with_unfolding_all rfl) ?_))))
      refine d_cons (d_var (by with_unfolding_all rfl) ?_)
      refine d_cons (d_var (by with_unfolding_all rfl) ?_)
      refine d_cons (d_var (by with_unfolding_all rfl) ?_)
      refine d_nil ?_
      (with_reducible refine m_gen rfl hg (by assumption) (fun b hb => ?_))
      refine s_ret (d_ifE (d_test (d_op (d_var (by with_unfolding_all rfl) ?_))))
      refine d_c (by with_unfolding_all rfl) ?_
      refine r_eqS ⟨_, rfl, (br_f (by with_unfolding_all rfl) ?_)⟩
      refine d_tup (d_cons (d_var (by with_unfolding_all rfl) ?_))
      refine d_cons (d_var (by with_unfolding_all rfl) ?_)
      refine d_cons (d_call (d_cons (d_var (by with_unfolding_all rfl) ?_)))
      refine d_cons (d_var (by with_unfolding_all rfl) ?_)
      refine d_cons (d_var (by with_unfolding_all rfl) ?_)
      refine d_cons (d_var (by with_unfolding_all rfl) ?_)
      refine d_nil ?_
      (with_reducible refine m_gen rfl hg (by assumption) (fun b hb => ?_))
      refine d_nil (And.intro (show List.length _ ≤ 100000 by simp) ?_)
      dsimp only
      rotate_left
      refine s_seq (s_set (d_call (d_cons (d_var (by with_unfolding_all rfl) ?_))))
      refine d_cons (d_var (by with_unfolding_all rfl) ?_)
      refine d_cons (d_var (by with_unfolding_all rfl) ?_)
      refine d_cons (d_var (by with_unfolding_all rfl) ?_)
      refine d_nil ?_
      (with_reducible refine m_gen rfl hg (by assumption) (fun b hb => ?_))
      refine s_ret (d_ifE (d_test (d_op (d_var (by with_unfolding_all rfl) ?_))))
      refine d_c (by with_unfolding_all rfl) ?_
      refine r_eqS ⟨_, rfl, (br_f (by with_unfolding_all rfl) ?_)⟩
      refine d_tup (d_cons (d_var (by with_unfolding_all rfl) ?_))
      refine d_cons (d_var (by with_unfolding_all rfl) ?_)
      refine d_cons (d_call (d_cons (d_var (by with_unfolding_all rfl) ?_)))
      refine d_cons (d_var (by with_unfolding_all rfl) ?_)
      refine d_cons (d_var (by with_unfolding_all rfl) ?_)
      refine d_cons (d_var (by with_unfolding_all rfl) ?_)
      refine d_nil ?_
      (with_reducible refine m_gen rfl hg (by assumption) (fun b hb => ?_))
      refine d_nil (And.intro (show List.length _ ≤ 100000 by simp) ?_)
      dsimp only
      rotate_left
      all_goals (rename_i b0 hb0; exact q (.op2 _ b0 b) (gSame hb0 hb))
    · refine s_seq (s_set (d_dget2s (d_disp (dP_cons (d_c (by with_unfolding_all rfl) ?_)))))
      refine ⟨_, rfl, (d_c (by with_unfolding_all rfl) ?_)⟩
      refine dP_cons (d_c (by with_unfolding_all rfl) ?_)
      refine ⟨_, rfl, (d_c (by with_unfolding_all rfl) ?_)⟩
      refine dP_cons (d_c (by with_unfolding_all rfl) ?_)
      refine ⟨_, rfl, (d_c (by with_unfolding_all rfl) ?_)⟩
      refine dP_nil (And.intro (show List.length _ ≤ 15 by simp) ?_)
      refine ⟨_, rfl, (d_var (by with_unfolding_all rfl) ?_)⟩
      refine d_c (by with_unfolding_all rfl) ?_
      refine ⟨_, D.str "truth", rfl, rfl, (s_seq (s_if (d_test (d_op (d_var (by with_unfolding_all rfl) ?_)))))⟩
      refine d_c (by with_unfolding_all rfl) ?_
      refine r_eqS ⟨_, rfl, (br_f (by with_unfolding_all rfl) ?_)⟩
      refine s_next (s_seq (s_set (d_call (d_cons (d_var (by with_unfolding_all rfl) ?_)))))
      refine d_cons (d_var (by with_unfolding_all rfl) ?_)
      refine d_cons (d_var (by with_unfolding_all rfl) ?_)
      refine d_cons (d_var (by with_unfolding_all rfl) ?_)
      refine d_nil ?_
      (with_reducible refine m_gen rfl hg (by assumption) (fun b hb => ?_))
      refine s_ret (d_ifE (d_test (d_op (d_var (by with_unfolding_all rfl) ?_))))
      refine d_c (by with_unfolding_all rfl) ?_
      refine r_eqS ⟨_, rfl, (br_t (by with_unfolding_all rfl) ?_)⟩
      refine d_tup (d_cons (d_var (by with_unfolding_all rfl) ?_))
      refine d_cons (d_var (by with_unfolding_all rfl) ?_)
      refine d_nil (And.intro (show List.length _ ≤ 100000 by simp) ?_)
      dsimp only
      rotate_left
      exact q (.op1 _ b) (g1 (by decide) hb (by decide +kernel))
    · refine s_seq (s_set (d_dget2s (d_disp (dP_cons (d_c (by with_unfolding_all rfl) ?_)))))
      refine ⟨_, rfl, (d_c (by with_unfolding_all rfl) ?_)⟩
      refine dP_cons (d_c (by with_unfolding_all rfl) ?_)
      refine ⟨_, rfl, (d_c (by with_unfolding_all rfl) ?_)⟩
      refine dP_cons (d_c (by with_unfolding_all rfl) ?_)
      refine ⟨_, rfl, (d_c (by with_unfolding_all rfl) ?_)⟩
      refine dP_nil (And.intro (show List.length _ ≤ 15 by simp) ?_)
      refine ⟨_, rfl, (d_var (by with_unfolding_all rfl) ?_)⟩
      refine d_c (by with_unfolding_all rfl) ?_
      refine ⟨_, D.str "truth", rfl, rfl, (s_seq (s_if (d_test (d_op (d_var (by with_unfolding_all rfl) ?_)))))⟩
      refine d_c (by with_unfolding_all rfl) ?_
      refine r_eqS ⟨_, rfl, (br_f (by with_unfolding_all rfl) ?_)⟩
      refine s_next (s_seq (s_set (d_call (d_cons (d_var (by with_unfolding_all rfl) ?_)))))
      refine d_cons (d_var (by with_unfolding_all rfl) ?_)
      refine d_cons (d_var (by with_unfolding_all rfl) ?_)
      refine d_cons (d_var (by with_unfolding_all rfl) ?_)
      refine d_nil ?_
      (with_reducible refine m_gen rfl hg (by assumption) (fun b hb => ?_))
      refine s_ret (d_ifE (d_test (d_op (d_var (by with_unfolding_all rfl) ?_))))
      refine d_c (by with_unfolding_all rfl) ?_
      refine r_eqS ⟨_, rfl, (br_f (by with_unfolding_all rfl) ?_)⟩
      refine d_tup (d_cons (d_var (by with_unfolding_all rfl) ?_))
      refine d_cons (d_var (by with_unfolding_all rfl) ?_)
      refine d_cons (d_call (d_cons (d_var (by with_unfolding_all rfl) ?_)))
      refine d_cons (d_var (by with_unfolding_all rfl) ?_)
      refine d_cons (d_var (by with_unfolding_all rfl) ?_)
      refine d_cons (d_var (by with_unfolding_all rfl) ?_)
      refine d_nil ?_
      (with_reducible refine m_gen rfl hg (by assumption) (fun b hb => ?_))
      refine d_nil (And.intro (show List.length _ ≤ 100000 by simp) ?_)
      dsimp only
      rotate_left
      rename_i b0 hb0
      exact q (.op2 _ b0 b) (g2 (by decide) hb0 hb (by decide +kernel))
  · refine s_seq (s_if (d_test (d_op (d_var (by with_unfolding_all rfl) ?_))))
    refine d_c (by with_unfolding_all rfl) ?_
    refine r_eqS ⟨_, rfl, (br_t (by with_unfolding_all rfl) ?_)⟩
    refine s_seq (s_set (d_op (d_lst (d_cons (d_c (by with_unfolding_all rfl) ?_)))))
    refine d_cons (d_c (by with_unfolding_all rfl) ?_)
    refine d_nil (And.intro (show List.length _ ≤ 100000 by simp) ?_)
    refine d_next (by with_unfolding_all rfl) (by decide) (by decide) (fun r r0 r1 => ?_)
    dsimp only
    rotate_left
    refine r_pick (by assumption) (by assumption) fun d hd => ?_
    simp only [List.mem_cons, List.not_mem_nil, or_false] at hd
    rcases hd with rfl | rfl
    refine s_seq (s_set (d_call (d_cons (d_var (by with_unfolding_all rfl) ?_))))
    refine d_cons (d_var (by with_unfolding_all rfl) ?_)
    refine d_cons (d_c (by with_unfolding_all rfl) ?_)
    refine d_cons (d_var (by with_unfolding_all rfl) ?_)
    refine d_nil ?_
    (with_reducible refine m_gen rfl hg (by assumption) (fun b hb => ?_))
    refine s_ret (d_ifE (d_test (d_op (d_var (by with_unfolding_all rfl) ?_))))
    refine d_c (by with_unfolding_all rfl) ?_
    refine r_eqS ⟨_, rfl, (br_t (by with_unfolding_all rfl) ?_)⟩
    refine d_tup (d_cons (d_var (by with_unfolding_all rfl) ?_))
    refine d_cons (d_call (d_cons (d_var (by with_unfolding_all rfl) ?_)))
    refine d_cons (d_var (by with_unfolding_all rfl) ?_)
    refine d_cons (d_c (by with_unfolding_all rfl) ?_)
    refine d_cons (d_var (by with_unfolding_all rfl) ?_)
    refine d_nil ?_
    (with_reducible refine m_gen rfl hg (by assumption) (fun b hb => ?_))
    refine d_cons (d_var (by with_unfolding_all rfl) ?_)
    refine d_nil (And.intro (show List.length _ ≤ 100000 by simp) ?_)
    dsimp only
    rotate_left
    refine s_seq (s_set (d_call (d_cons (d_var (by with_unfolding_all rfl) ?_))))
    refine d_cons (d_var (by with_unfolding_all rfl) ?_)
    refine d_cons (d_c (by with_unfolding_all rfl) ?_)
    refine d_cons (d_var (by with_unfolding_all rfl) ?_)
    refine d_nil ?_
    (with_reducible refine m_gen rfl hg (by assumption) (fun b hb => ?_))
    refine s_ret (d_ifE (d_test (d_op (d_var (by with_unfolding_all rfl) ?_))))
    refine d_c (by with_unfolding_all rfl) ?_
    refine r_eqS ⟨_, rfl, (br_f (by with_unfolding_all rfl) ?_)⟩
    refine d_tup (d_cons (d_var (by with_unfolding_all rfl) ?_))
    refine d_cons (d_var (by with_unfolding_all rfl) ?_)
    refine d_nil (And.intro (show List.length _ ≤ 100000 by simp) ?_)
    dsimp only
    rotate_left
    all_goals (first | exact q (.op1 _ b) (g1 (by decide) hb (by decide +kernel)) | (rename_i b0 hb0; exact q (.op2 _ b0 b) (g2 (by decide) hb0 hb (by decide +kernel))) | (rename_i b0 hb0; exact q (.op2 _ b b0) (g2 (by decide) hb hb0 (by decide +kernel))))
end
end Pr
set_option Elab.async false
set_option linter.all false
set_option maxRecDepth 100000
set_option maxHeartbeats 2000000
namespace Pr
open PySem L2 PD
section
variable {P : Program} {w : World} {K : PySem.W.Frag} {mg : Str → Option Value} {base : Heap}
theorem ok_call {ah as : Addr} (F : DefT K mg "_law_call" s_law_call) (zl : mg "len" = none) (zs : mg "sorted" = none) (n j : Nat) (hj : 2 ≤ j) (C_law_next : Cal P w K mg base 1 "_law_next" ["_law_h", "_law_many"] (some (ah, as)) (M_next ah))
    (C_law_leaf : Cal P w K mg base 2 "_law_leaf" ["_law_h", "_law_e", "_law_kind"] (some (ah, as)) (M_leaf ah))
    (C_law_body : Cal P w K mg base j "_law_body" ["_law_h", "_law_e", "_law_kind", "_law_deep_here"] (some (ah, as)) (M_gen ah n (n + 1))) : Cal P w K mg base (j + 1) "_law_call" ["_law_h", "_law_e", "_law_kind", "_law_deep_here"] (some (ah, as)) (M_gen ah (n + 1) (n + 2)) := by
  refine okF F sc_law_call (fun _ _ _ _ _ _ us hl => match us, hl with | [_, _, _, _], _ => rfl) (fun ds k h => ?_) (fun f cdv A outer s H E ds kk hr h => ?_)
  · obtain ⟨_, _, _, _, rfl, _⟩ := h
    rfl
  obtain ⟨takes, calls, cells, kind, rfl, hg, hk, q⟩ := h
  have hu := hu_of hr
  refine ⟨_, (pss_cons (ps_setLc (i := 4) (own := [("_law_deed", 5)]) (g := gName 5) rfl sc_law_call.nd rfl rfl (sw_true rfl rfl rfl (by decide +kernel)) (pi_list (pe_callB (r := rSortD) (id := "sorted") (call_sortedD rfl) (by rfl) zs (by decide +kernel) (pa_cons (pe_dget hu (pv 1) pe_str (fun _ _ => rfl)) pa_nil))) (blkOk_by (own := [("_law_deed", 5)]) (N := N_law_call) (sc := defScope s_law_call) (by decide +kernel)) (fun _ _ _ _ _ => (pg_name (i := 5) sc_law_call.nd rfl (by first | exact Or.inl rfl | exact Or.inr rfl))) (fun _ _ _ _ _ => (pts_one (pt_cmpR op_eq (pe_ix (r := rIx K) ix_seq (pe_dget hu (pe_dget hu (pv 1) pe_str (fun _ _ => rfl)) (pv 5) (fun _ _ => rfl)) pe_int (fun _ _ => rfl)) (pv 2) (nomark _)))) (fun _ _ _ _ _ => (pv 5)))
      (pss_cons (ps_setLc (i := 6) (own := [("_law_cell", 7)]) (g := gName 7) rfl sc_law_call.nd rfl rfl (sw_true rfl rfl rfl (by decide +kernel)) (pi_list (pe_callB (r := rSortD) (id := "sorted") (call_sortedD rfl) (by rfl) zs (by decide +kernel) (pa_cons (pe_dget hu (pv 1) pe_str (fun _ _ => rfl)) pa_nil))) (blkOk_by (own := [("_law_cell", 7)]) (N := N_law_call) (sc := defScope s_law_call) (by decide +kernel)) (fun _ _ _ _ _ => (pg_name (i := 7) sc_law_call.nd rfl (by first | exact Or.inl rfl | exact Or.inr rfl))) (fun _ _ _ _ _ => (pts_one (pt_cmpR op_eq (pe_dget hu (pe_dget hu (pv 1) pe_str (fun _ _ => rfl)) (pv 7) (fun _ _ => rfl)) (pv 2) (nomark _)))) (fun _ _ _ _ _ => (pv 7)))
      (pss_cons (ps_if (PW.pt (pw_and (pt_cmpR (r := rNeD K) (op_neD hr.units) (pv 4) (pe_lst pa_nil) (nomark _)) (pw_and1 (pt_cmpR op_gt (pe_calK (K := K) rfl C_law_next (hr.mono (by first | decide | omega)) rfl (pa_cons (pv 0) (pa_cons pe_int pa_nil))) pe_int (nomark _))))) (pss_cons (ps_set (i := 5) sc_law_call.nd rfl (by first | exact Or.inl rfl | exact Or.inr rfl) (pe_ix (r := rIx K) ix_seq (pv 4) (pe_calK (K := K) rfl C_law_next (hr.mono (by first | decide | omega)) rfl (pa_cons (pv 0) (pa_cons (pe_callB (r := rLenQ K) (id := "len")  call_len_seq (by rfl) zl PySem.boot_len (pa_cons (pv 4) pa_nil)) pa_nil))) (fun _ _ => rfl)))
      (pss_one (ps_ret (pe_tup (pa_cons pe_str (pa_cons (pv 5) (pa_cons (pe_calK (K := K) rfl C_law_body (hr.mono (by first | decide | omega)) rfl (pa_cons (pv 0) (pa_cons (pv 1) (pa_cons (pe_ix (r := rIx K) ix_seq (pe_dget hu (pe_dget hu (pv 1) pe_str (fun _ _ => rfl)) (pv 5) (fun _ _ => rfl)) pe_int (fun _ _ => rfl)) (pa_cons (pe_op op_sub (pv 3) pe_int) pa_nil))))) pa_nil))))))) pss_nil)
      (pss_cons (ps_if (pt_cmpR (r := rNeD K) (op_neD hr.units) (pv 6) (pe_lst pa_nil) (nomark _)) (pss_one (ps_ret (pe_tup (pa_cons pe_str (pa_cons (pe_ix (r := rIx K) ix_seq (pv 6) (pe_calK (K := K) rfl C_law_next (hr.mono (by first | decide | omega)) rfl (pa_cons (pv 0) (pa_cons (pe_callB (r := rLenQ K) (id := "len")  call_len_seq (by rfl) zl PySem.boot_len (pa_cons (pv 6) pa_nil)) pa_nil))) (fun _ _ => rfl)) (pa_cons (pe_calK (K := K) rfl C_law_body (hr.mono (by first | decide | omega)) rfl (pa_cons (pv 0) (pa_cons (pv 1) (pa_cons (pv 2) (pa_cons (pe_op op_sub (pv 3) pe_int) pa_nil))))) pa_nil)))))) pss_nil)
      (pss_one (ps_ret (pe_calK (K := K) rfl C_law_leaf (hr.mono (by first | decide | omega)) rfl (pa_cons (pv 0) (pa_cons (pv 1) (pa_cons (pv 2) pa_nil)))))))))), ?_⟩
  try dsimp only [cxOf]
  change dS _ _ _ [Sl.d _, Sl.d _, Sl.d _, Sl.d _, Sl.un, Sl.un, Sl.un, Sl.un] _
  have dep : ((n + 1 : Nat) : Int) - 1 = (n : Int) := by omega
  have pd : ∀ c ∈ calls.map (·.1), ∃ t u, lookS calls c = some (t, u) ∧ t ∈ kindsS := fun c hc => by
    obtain ⟨p, hp, rfl⟩ := List.mem_map.mp hc
    exact ⟨p.2.1, p.2.2, look_in hg.cnd hp, (hg.c p hp).1⟩
  let pc : D → Bool := fun d => match d with
    | .str c => (match lookS calls c with | some (_, u) => decide (u = kind) | none => false)
    | _ => false
  let pe : D → Bool := fun d => match d with
    | .str c => decide (lookS cells c = some kind)
    | _ => false
  refine s_seq (s_setL (i_list (d_ofL (l_sortedD (d_dget (d_var rfl (d_c rfl ⟨_, _, _, rfl, rfl, rfl, _, rfl, (by rw [List.length_map]; have := hg.clen; omega), fun ys y1 y2 => ⟨_, rfl, ?_, ?_⟩⟩)))))))
  · unfold strsOf
    rw [List.length_map, y1.length_eq, List.length_map, List.length_map]
    have := hg.clen
    omega
  have ym : ∀ c ∈ ys, c ∈ calls.map (·.1) := fun c hc => by
    have := y1.mem_iff.mp hc
    rw [List.map_map] at this
    exact this
  refine lcW_fun (P := fun d => ∃ c t u, d = .str c ∧ lookS calls c = some (t, u)) (p := pc) (f := fun d => d) (fun d hd kx hx => g_nameV (by decide) (hx _ (fun kb qb => ?_) (fun _ k qk => d_var rfl qk))) (strsOf ys) [] ?_ ?_
  · obtain ⟨c, t, u, rfl, lk⟩ := hd
    have e : pc (.str c) = decide (u = kind) := by simp only [pc, lk]
    rw [e] at qb
    refine d_test (d_op (d_op ?_))
    refine d_dget (d_dget (d_var rfl (d_c rfl ⟨_, _, _, rfl, rfl, rfl, ?_⟩)))
    refine d_var rfl ⟨_, _, .tup [.str t, .str u], rfl, rfl, (by rw [look_map (fun p : Str × Str => D.tup [.str p.1, .str p.2]), lk]; rfl), ?_⟩
    exact d_c rfl (r_ix (.inr (r_ixT rfl (d_var rfl (r_eqS ⟨_, rfl, qb⟩)))))
  · intro d hd
    obtain ⟨c, hc, rfl⟩ := List.mem_map.mp hd
    obtain ⟨t, u, lk, _⟩ := pd c (ym c hc)
    exact ⟨c, t, u, rfl, lk⟩
  rw [List.nil_append, filter_strs]
  have dl : ∀ c ∈ ys.filter (fun s => pc (.str s)), c ∈ deedsS ∧ ∃ t, lookS calls c = some (t, kind) ∧ t ∈ kindsS := fun c hc => by
    obtain ⟨h1, h2⟩ := List.mem_filter.mp hc
    obtain ⟨t, u, lk, ht⟩ := pd c (ym c h1)
    simp only [pc, lk, decide_eq_true_eq] at h2
    subst h2
    obtain ⟨p, hp, e⟩ := List.mem_map.mp (ym c h1)
    exact ⟨by rw [← e]; exact hg.cn p hp, t, lk, ht⟩
  have dlen : (ys.filter (fun s => pc (.str s))).length ≤ 8 := by
    have h1 := List.length_filter_le (fun s => pc (.str s)) ys
    have h2 := y1.length_eq
    rw [List.length_map, List.length_map] at h2
    have := hg.clen
    omega
  revert dl dlen
  generalize ys.filter (fun s => pc (.str s)) = DL
  intro dl dlen
  dsimp only
  refine s_seq (s_setL (i_list (d_ofL (l_sortedD (d_dget (d_var rfl (d_c rfl ⟨_, _, _, rfl, rfl, rfl, _, rfl, (by rw [List.length_map]; have := hg.elen; omega), fun zs z1 z2 => ⟨_, rfl, ?_, ?_⟩⟩)))))))
  · unfold strsOf
    rw [List.length_map, z1.length_eq, List.length_map, List.length_map]
    have := hg.elen
    omega
  have zm : ∀ c ∈ zs, c ∈ cells.map (·.1) := fun c hc => by
    have := z1.mem_iff.mp hc
    rw [List.map_map] at this
    exact this
  refine lcW_fun (P := fun d => ∃ c u, d = .str c ∧ lookS cells c = some u) (p := pe) (f := fun d => d) (fun d hd kx hx => g_nameV (by decide) (hx _ (fun kb qb => ?_) (fun _ k qk => d_var rfl qk))) (strsOf zs) [] ?_ ?_
  · obtain ⟨c, u, rfl, lk⟩ := hd
    have e : pe (.str c) = decide (u = kind) := by
      simp only [pe, lk]
      by_cases h : u = kind
      · rw [h]; simp
      · simp [h]
    rw [e] at qb
    refine d_test (d_op (d_dget ?_))
    refine d_dget (d_var rfl (d_c rfl ⟨_, _, _, rfl, rfl, rfl, ?_⟩))
    refine d_var rfl ⟨_, _, .str u, rfl, rfl, (by rw [look_map D.str, lk]; rfl), ?_⟩
    exact d_var rfl (r_eqS ⟨_, rfl, qb⟩)
  · intro d hd
    obtain ⟨c, hc, rfl⟩ := List.mem_map.mp hd
    obtain ⟨p, hp, e⟩ := List.mem_map.mp (zm c hc)
    exact ⟨c, p.2, rfl, look_in hg.ecd (by rw [← e]; exact hp)⟩
  rw [List.nil_append, filter_strs]
  have el : ∀ c ∈ zs.filter (fun s => pe (.str s)), c ∈ cellsS ∧ lookS cells c = some kind := fun c hc => by
    obtain ⟨h1, h2⟩ := List.mem_filter.mp hc
    obtain ⟨p, hp, e⟩ := List.mem_map.mp (zm c h1)
    exact ⟨by rw [← e]; exact hg.en p hp, of_decide_eq_true h2⟩
  have elen : (zs.filter (fun s => pe (.str s))).length ≤ 4 := by
    have h1 := List.length_filter_le (fun s => pe (.str s)) zs
    have h2 := z1.length_eq
    rw [List.length_map, List.length_map] at h2
    have := hg.elen
    omega
  revert el elen
  generalize zs.filter (fun s => pe (.str s)) = EL
  intro el elen
  dsimp only
  have txtD : ∀ s ∈ DL, PyData.strOk s = true := fun s h => look_kinds s (dl s h).1
  have txtE : ∀ s ∈ EL, PyData.strOk s = true := fun s h => look_cells s (el s h).1
  have nilT : ∀ s ∈ ([] : List Str), PyData.strOk s = true := fun s h => by cases h
  refine s_cut (I := fun ρ' => ∃ s5, ρ' = [.d (.adr ah), .d (eD takes calls cells), .d (.str kind), .d (.int ((n + 1 : Nat) : Int)), .d (.lst (strsOf DL)), s5, .d (.lst (strsOf EL)), .un]) ?_ ?_
  · refine s_if (d_and (d_test (d_op (d_var rfl (d_lst (d_nil ⟨by simp, ?_⟩))))))
    refine r_neL (ts := []) txtD nilT ⟨_, rfl, fun ne => ?_, fun _ => ?_⟩
    · have ne' : DL ≠ [] := by simpa using ne
      refine d_test (d_op (d_next rfl (by decide) (by decide) fun r _ _ => d_c rfl (r_I0 rfl ⟨_, rfl, fun _ => ?_, fun _ => ?_⟩)))
      · have pos : 0 < DL.length := List.length_pos_iff.mpr ne'
        have ll : (strsOf DL).length = DL.length := by unfold strsOf; rw [List.length_map]
        refine s_seq (s_set (d_op ?_))
        refine d_var rfl (d_call (d_cons (d_var rfl (d_cons (d_cb (d_cons ?_))))))
        refine d_var rfl (d_nil (c_lenS (.inl rfl) (d_nil ?_)))
        refine m_next (by omega) (by omega) fun r r0 r1 => r_pick r0 r1 fun d hd => ?_
        obtain ⟨c, hc, rfl⟩ := List.mem_map.mp hd
        obtain ⟨oc, t, lk, ht⟩ := dl c hc
        dsimp only
        refine s_ret (d_tup (d_cons (d_c rfl (d_cons (d_var rfl (d_cons (d_call ?_)))))))
        refine d_cons (d_var rfl (d_cons (d_var rfl (d_cons (d_op (d_dget ?_))))))
        refine d_dget (d_var rfl (d_c rfl ⟨_, _, _, rfl, rfl, rfl, ?_⟩))
        refine d_var rfl ⟨_, _, .tup [.str t, .str kind], rfl, rfl, (by rw [look_map (fun p : Str × Str => D.tup [.str p.1, .str p.2]), lk]; rfl), ?_⟩
        refine d_c rfl (r_ix (.inr (r_ixT rfl (d_cons (d_op ?_)))))
        refine d_var rfl (d_c rfl (r_I0 rfl (d_nil ?_)))
        refine m_gen dep hg ht fun b hb => d_nil ⟨by simp, ?_⟩
        exact q (.call c b) ⟨⟨oc, hb.1⟩, by simp only [B.depth]; have := hb.2.1; omega, by simp only [B.kind, hb.2.2, lk, if_true]⟩
      · (refine s_next ?_; exact ⟨_, rfl⟩)
    · refine br_f rfl (s_next ?_)
      exact ⟨_, rfl⟩
  rintro ρ' ⟨s5, rfl⟩
  refine s_cut (I := fun ρ' => ρ' = [.d (.adr ah), .d (eD takes calls cells), .d (.str kind), .d (.int ((n + 1 : Nat) : Int)), .d (.lst (strsOf DL)), s5, .d (.lst (strsOf EL)), .un]) ?_ ?_
  · refine s_if (d_test (d_op (d_var rfl (d_lst (d_nil ⟨by simp, ?_⟩)))))
    refine r_neL (ts := []) txtE nilT ⟨_, rfl, fun ne => ?_, fun _ => ?_⟩
    · have ne' : EL ≠ [] := by simpa using ne
      have pos : 0 < EL.length := List.length_pos_iff.mpr ne'
      have ll : (strsOf EL).length = EL.length := by unfold strsOf; rw [List.length_map]
      refine s_ret (d_tup (d_cons (d_c rfl (d_cons (d_op ?_)))))
      refine d_var rfl (d_call (d_cons (d_var rfl (d_cons (d_cb (d_cons ?_))))))
      refine d_var rfl (d_nil (c_lenS (.inl rfl) (d_nil ?_)))
      refine m_next (by omega) (by omega) fun r r0 r1 => r_pick r0 r1 fun d hd => ?_
      obtain ⟨c, hc, rfl⟩ := List.mem_map.mp hd
      obtain ⟨oc, lk⟩ := el c hc
      refine d_cons (d_call (d_cons (d_var rfl (d_cons (d_var rfl (d_cons (d_var rfl (d_cons (d_op ?_)))))))))
      refine d_var rfl (d_c rfl (r_I0 rfl (d_nil ?_)))
      refine m_gen dep hg hk fun b hb => d_nil ⟨by simp, ?_⟩
      exact q (.set c b) ⟨⟨oc, hb.1⟩, by simp only [B.depth]; have := hb.2.1; omega, by simp only [B.kind, hb.2.2, lk, if_true]⟩
    · exact s_next rfl
  rintro ρ' rfl
  refine s_ret (d_call (d_cons ?_))
  refine d_var rfl (d_cons (d_var rfl (d_cons (d_var rfl (d_nil ?_)))))
  exact m_leaf hg hk fun b hb => q b (hb.up (by omega))
end
end Pr
set_option Elab.async false
set_option linter.all false
set_option maxRecDepth 100000
set_option maxHeartbeats 2000000
namespace Pr
open PySem L2 PD
section
variable {P : Program} {w : World} {K : PySem.W.Frag} {mg : Str → Option Value} {base : Heap}
theorem ok_body0 {ah as : Addr} (F : DefT K mg "_law_body" s_law_body) (Fc : DefT K mg "_law_call" s_law_call) (Fr : DefT K mg "_law_reckons" s_law_reckons) (C_law_next : Cal P w K mg base 1 "_law_next" ["_law_h", "_law_many"] (some (ah, as)) (M_next ah))
    (C_law_leaf : Cal P w K mg base 2 "_law_leaf" ["_law_h", "_law_e", "_law_kind"] (some (ah, as)) (M_leaf ah)) : Cal P w K mg base 3 "_law_body" ["_law_h", "_law_e", "_law_kind", "_law_deep_here"] (some (ah, as)) (M_gen ah 0 1) := by
  have C_law_call : Cal P w K mg base 1 "_law_call" ["_law_h", "_law_e", "_law_kind", "_law_deep_here"] (some (ah, as)) M_no := calNo Fc sc_law_call (fun _ _ _ _ _ _ us hl => match us, hl with | [_, _, _, _], _ => rfl)
  have C_law_reckons : Cal P w K mg base 1 "_law_reckons" ["_law_h", "_law_e", "_law_kind", "_law_deep_here"] (some (ah, as)) M_no := calNo Fr sc_law_reckons (fun _ _ _ _ _ _ us hl => match us, hl with | [_, _, _, _], _ => rfl)
  have C_law_body : Cal P w K mg base 1 "_law_body" ["_law_h", "_law_e", "_law_kind", "_law_deep_here"] (some (ah, as)) M_no := calNo F sc_law_body (fun _ _ _ _ _ _ us hl => match us, hl with | [_, _, _, _], _ => rfl)
  refine okF F sc_law_body (fun _ _ _ _ _ _ us hl => match us, hl with | [_, _, _, _], _ => rfl) (fun ds k h => ?_) (fun f cdv A outer s H E ds kk hr h => ?_)
  · obtain ⟨_, _, _, _, rfl, _⟩ := h
    rfl
  obtain ⟨takes, calls, cells, kind, rfl, hg, hk, q⟩ := h
  refine ⟨_, (pss_cons (ps_set (i := 4) sc_law_body.nd rfl (by first | exact Or.inl rfl | exact Or.inr rfl) (pe_calK (K := K) rfl C_law_next (hr.mono (by first | decide | omega)) rfl (pa_cons (pv 0) (pa_cons pe_int pa_nil))))
      (pss_cons (ps_if (PW.pt (pw_or (pt_cmpR op_eq (pv 3) pe_int (nomark _)) (pw_or1 (pt_cmpR op_lt (pv 4) pe_int (nomark _))))) (pss_one (ps_ret (pe_calK (K := K) rfl C_law_leaf (hr.mono (by first | decide | omega)) rfl (pa_cons (pv 0) (pa_cons (pv 1) (pa_cons (pv 2) pa_nil)))))) pss_nil)
      (pss_cons (ps_if (pt_cmpR op_lt (pv 4) pe_int (nomark _)) (pss_one (ps_ret (pe_calK (K := K) rfl C_law_call (hr.mono (by first | decide | omega)) rfl (pa_cons (pv 0) (pa_cons (pv 1) (pa_cons (pv 2) (pa_cons (pv 3) pa_nil))))))) pss_nil)
      (pss_cons (ps_if (pt_cmpR op_eq (pv 4) pe_int (nomark _)) (pss_cons (ps_set (i := 5) sc_law_body.nd rfl (by first | exact Or.inl rfl | exact Or.inr rfl) (pe_ix (r := rIx K) ix_seq (pe_lst (pa_cons pe_str (pa_cons pe_str (pa_cons pe_str pa_nil)))) (pe_calK (K := K) rfl C_law_next (hr.mono (by first | decide | omega)) rfl (pa_cons (pv 0) (pa_cons pe_int pa_nil))) (fun _ _ => rfl)))
      (pss_one (ps_ret (pe_tup (pa_cons pe_str (pa_cons (pe_calK (K := K) rfl C_law_body (hr.mono (by first | decide | omega)) rfl (pa_cons (pv 0) (pa_cons (pv 1) (pa_cons (pv 5) (pa_cons (pe_op op_sub (pv 3) pe_int) pa_nil))))) (pa_cons (pe_calK (K := K) rfl C_law_body (hr.mono (by first | decide | omega)) rfl (pa_cons (pv 0) (pa_cons (pv 1) (pa_cons (pv 2) (pa_cons (pe_op op_sub (pv 3) pe_int) pa_nil))))) pa_nil))))))) pss_nil)
      (pss_cons (ps_if (pt_cmpR op_eq (pv 4) pe_int (nomark _)) (pss_cons (ps_set (i := 6) sc_law_body.nd rfl (by first | exact Or.inl rfl | exact Or.inr rfl) (pe_lst (pa_cons (pe_calK (K := K) rfl C_law_body (hr.mono (by first | decide | omega)) rfl (pa_cons (pv 0) (pa_cons (pv 1) (pa_cons (pv 2) (pa_cons (pe_op op_sub (pv 3) pe_int) pa_nil))))) (pa_cons (pe_calK (K := K) rfl C_law_body (hr.mono (by first | decide | omega)) rfl (pa_cons (pv 0) (pa_cons (pv 1) (pa_cons (pv 2) (pa_cons (pe_op op_sub (pv 3) pe_int) pa_nil))))) pa_nil))))
      (pss_one (ps_ret (pe_tup (pa_cons pe_str (pa_cons (pe_calK (K := K) rfl C_law_body (hr.mono (by first | decide | omega)) rfl (pa_cons (pv 0) (pa_cons (pv 1) (pa_cons pe_str (pa_cons (pe_op op_sub (pv 3) pe_int) pa_nil))))) (pa_cons (pe_ix (r := rIx K) ix_seq (pv 6) pe_int (fun _ _ => rfl)) (pa_cons (pe_ix (r := rIx K) ix_seq (pv 6) pe_int (fun _ _ => rfl)) pa_nil)))))))) pss_nil)
      (pss_one (ps_ret (pe_calK (K := K) rfl C_law_reckons (hr.mono (by first | decide | omega)) rfl (pa_cons (pv 0) (pa_cons (pv 1) (pa_cons (pv 2) (pa_cons (pe_op op_sub (pv 3) pe_int) pa_nil)))))))))))), ?_⟩
  try dsimp only [cxOf]
  change dS _ _ _ [Sl.d _, Sl.d _, Sl.d _, Sl.d _, Sl.un, Sl.un, Sl.un] _
  refine s_seq (s_set ?_)
  refine d_next rfl (by decide) (by decide) fun r r0 r1 => ?_
  refine s_seq (s_if (d_or (d_test (d_op (d_var rfl (d_c rfl ?_))))))
  refine r_eqI ⟨_, rfl, br_t (by decide) (br_t rfl ?_)⟩
  refine s_ret (d_call (d_cons ?_))
  refine d_var rfl (d_cons (d_var rfl (d_cons (d_var rfl (d_nil ?_)))))
  exact m_leaf hg hk q
theorem bodyS_core {ah as : Addr} (F : DefT K mg "_law_body" s_law_body) (n j : Nat) (hj : 2 ≤ j) (C_law_next : Cal P w K mg base 1 "_law_next" ["_law_h", "_law_many"] (some (ah, as)) (M_next ah))
    (C_law_leaf : Cal P w K mg base 2 "_law_leaf" ["_law_h", "_law_e", "_law_kind"] (some (ah, as)) (M_leaf ah)) (C_law_body : Cal P w K mg base j "_law_body" ["_law_h", "_law_e", "_law_kind", "_law_deep_here"] (some (ah, as)) (M_gen ah n (n + 1)))
    (C_law_call : Cal P w K mg base (j + 1) "_law_call" ["_law_h", "_law_e", "_law_kind", "_law_deep_here"] (some (ah, as)) (M_gen ah (n + 1) (n + 2))) (C_law_reckons : Cal P w K mg base (j + 1) "_law_reckons" ["_law_h", "_law_e", "_law_kind", "_law_deep_here"] (some (ah, as)) (M_gen ah n (n + 2))) 
    (f : Addr) (cdv : Value) (A : Around) (outer : List Env) (s : Shared) (H : Hp) (E : XK) (ds : List D) (kk : D → Prop) (hr : Room (j + 1) (A.deeper (PyProof.Rows.envOfC "_law_body" (defScope s_law_body) s.heap.objs.size f cdv))) (h : M_gen ah (n + 1) (n + 2) ds kk) :
    ∃ t, PSs (cxOf CX0 P w K mg base N_law_body "_law_body" (defScope s_law_body) f cdv A outer s H E).nox (defBody s_law_body) t ∧ dS K (some (ah, as)) t (startD N_law_body ds) { nx := fun _ => kk .non, rt := kk } := by
  obtain ⟨takes, calls, cells, kind, rfl, hg, hk, q⟩ := h
  refine ⟨_, (pss_cons (ps_set (i := 4) sc_law_body.nd rfl (by first | exact Or.inl rfl | exact Or.inr rfl) (pe_calK (K := K) rfl C_law_next (hr.mono (by first | decide | omega)) rfl (pa_cons (pv 0) (pa_cons pe_int pa_nil))))
      (pss_cons (ps_if (PW.pt (pw_or (pt_cmpR op_eq (pv 3) pe_int (nomark _)) (pw_or1 (pt_cmpR op_lt (pv 4) pe_int (nomark _))))) (pss_one (ps_ret (pe_calK (K := K) rfl C_law_leaf (hr.mono (by first | decide | omega)) rfl (pa_cons (pv 0) (pa_cons (pv 1) (pa_cons (pv 2) pa_nil)))))) pss_nil)
      (pss_cons (ps_if (pt_cmpR op_lt (pv 4) pe_int (nomark _)) (pss_one (ps_ret (pe_calK (K := K) rfl C_law_call (hr.mono (by first | decide | omega)) rfl (pa_cons (pv 0) (pa_cons (pv 1) (pa_cons (pv 2) (pa_cons (pv 3) pa_nil))))))) pss_nil)
      (pss_cons (ps_if (pt_cmpR op_eq (pv 4) pe_int (nomark _)) (pss_cons (ps_set (i := 5) sc_law_body.nd rfl (by first | exact Or.inl rfl | exact Or.inr rfl) (pe_ix (r := rIx K) ix_seq (pe_lst (pa_cons pe_str (pa_cons pe_str (pa_cons pe_str pa_nil)))) (pe_calK (K := K) rfl C_law_next (hr.mono (by first | decide | omega)) rfl (pa_cons (pv 0) (pa_cons pe_int pa_nil))) (fun _ _ => rfl)))
      (pss_one (ps_ret (pe_tup (pa_cons pe_str (pa_cons (pe_calK (K := K) rfl C_law_body (hr.mono (by first | decide | omega)) rfl (pa_cons (pv 0) (pa_cons (pv 1) (pa_cons (pv 5) (pa_cons (pe_op op_sub (pv 3) pe_int) pa_nil))))) (pa_cons (pe_calK (K := K) rfl C_law_body (hr.mono (by first | decide | omega)) rfl (pa_cons (pv 0) (pa_cons (pv 1) (pa_cons (pv 2) (pa_cons (pe_op op_sub (pv 3) pe_int) pa_nil))))) pa_nil))))))) pss_nil)
      (pss_cons (ps_if (pt_cmpR op_eq (pv 4) pe_int (nomark _)) (pss_cons (ps_set (i := 6) sc_law_body.nd rfl (by first | exact Or.inl rfl | exact Or.inr rfl) (pe_lst (pa_cons (pe_calK (K := K) rfl C_law_body (hr.mono (by first | decide | omega)) rfl (pa_cons (pv 0) (pa_cons (pv 1) (pa_cons (pv 2) (pa_cons (pe_op op_sub (pv 3) pe_int) pa_nil))))) (pa_cons (pe_calK (K := K) rfl C_law_body (hr.mono (by first | decide | omega)) rfl (pa_cons (pv 0) (pa_cons (pv 1) (pa_cons (pv 2) (pa_cons (pe_op op_sub (pv 3) pe_int) pa_nil))))) pa_nil))))
      (pss_one (ps_ret (pe_tup (pa_cons pe_str (pa_cons (pe_calK (K := K) rfl C_law_body (hr.mono (by first | decide | omega)) rfl (pa_cons (pv 0) (pa_cons (pv 1) (pa_cons pe_str (pa_cons (pe_op op_sub (pv 3) pe_int) pa_nil))))) (pa_cons (pe_ix (r := rIx K) ix_seq (pv 6) pe_int (fun _ _ => rfl)) (pa_cons (pe_ix (r := rIx K) ix_seq (pv 6) pe_int (fun _ _ => rfl)) pa_nil)))))))) pss_nil)
      (pss_one (ps_ret (pe_calK (K := K) rfl C_law_reckons (hr.mono (by first | decide | omega)) rfl (pa_cons (pv 0) (pa_cons (pv 1) (pa_cons (pv 2) (pa_cons (pe_op op_sub (pv 3) pe_int) pa_nil)))))))))))), ?_⟩
  try dsimp only [cxOf]
  change dS _ _ _ [Sl.d _, Sl.d _, Sl.d _, Sl.d _, Sl.un, Sl.un, Sl.un] _
  have dep : ((n + 1 : Nat) : Int) - 1 = (n : Int) := by omega
  have tk : ("truth" : Str) ∈ kindsS := by decide
  have n0 : decide (((n + 1 : Nat) : Int) = 0) = false := decide_eq_false (by omega)
  refine s_seq (s_set ?_)
  refine d_next rfl (by decide) (by decide) fun r r0 r1 => ?_
  refine s_seq (s_if (d_or (d_test (d_op (d_var rfl (d_c rfl ?_))))))
  refine r_eqI ⟨_, rfl, br_f n0 (d_test (d_op (d_var rfl (d_c rfl (r_I0 rfl ⟨_, rfl, fun _ => ?_, fun _ => ?_⟩)))))⟩
  · refine s_ret (d_call (d_cons ?_))
    refine d_var rfl (d_cons (d_var rfl (d_cons (d_var rfl (d_nil ?_)))))
    exact m_leaf hg hk fun b hb => q b (hb.up (by omega))
  refine s_next (s_seq (s_if (d_test (d_op (d_var rfl (d_c rfl (r_I0 rfl ⟨_, rfl, fun _ => ?_, fun _ => ?_⟩)))))))
  · refine s_ret (d_call (d_cons ?_))
    refine d_var rfl (d_cons (d_var rfl (d_cons (d_var rfl (d_cons (d_var rfl (d_nil ?_)))))))
    exact m_gen rfl hg hk q
  refine s_next (s_seq (s_if (d_test (d_op (d_var rfl (d_c rfl (r_eqI ⟨_, rfl, fun _ => ?_, fun _ => ?_⟩)))))))
  · refine s_seq (s_set (d_op (d_lst (d_cons (d_c rfl (d_cons (d_c rfl (d_cons (d_c rfl (d_nil ⟨by simp, ?_⟩)))))))))) 
    refine d_next rfl (by decide) (by decide) fun r2 a0 a1 => r_pick a0 a1 fun d hd => ?_
    obtain ⟨ok2, ek, rfl⟩ : ∃ o : Str, o ∈ kindsS ∧ d = .str o := by
      simp only [List.mem_cons, List.not_mem_nil, or_false] at hd
      rcases hd with rfl | rfl | rfl
      · exact ⟨_, by decide, rfl⟩
      · exact ⟨_, by decide, rfl⟩
      · exact ⟨_, by decide, rfl⟩
    refine s_ret (d_tup (d_cons (d_c (by with_unfolding_all rfl) ?_)))
    refine d_cons (d_call (d_cons (d_var (by with_unfolding_all rfl) ?_)))
    refine d_cons (d_var (by with_unfolding_all rfl) ?_)
    refine d_cons (d_var (by with_unfolding_all rfl) ?_)
    refine d_cons (d_op (d_var (by with_unfolding_all rfl) ?_))
    refine d_c (by with_unfolding_all rfl) ?_
    refine r_I0 (by with_unfolding_all rfl) ?_
    refine d_nil ?_
    (with_reducible refine m_gen dep hg (by assumption) (fun b hb => ?_))
    refine d_cons (d_call (d_cons (d_var (by with_unfolding_all rfl) ?_)))
    refine d_cons (d_var (by with_unfolding_all rfl) ?_)
    refine d_cons (d_var (by with_unfolding_all rfl) ?_)
    refine d_cons (d_op (d_var (by with_unfolding_all rfl) ?_))
    refine d_c (by with_unfolding_all rfl) ?_
    refine r_I0 (by with_unfolding_all rfl) ?_
    refine d_nil ?_
    (with_reducible refine m_gen dep hg (by assumption) (fun b hb => ?_))
    refine d_nil (And.intro (show List.length _ ≤ 100000 by simp) ?_)
    dsimp only
    rotate_left
    rename_i b0 hb0
    exact q (.op2 _ b0 b) (gThen hb0 hb)
  refine s_next (s_seq (s_if (d_test (d_op (d_var rfl (d_c rfl (r_eqI ⟨_, rfl, fun _ => ?_, fun _ => ?_⟩)))))))
  · refine s_seq (s_set (d_lst (d_cons (d_call (d_cons (d_var (by with_unfolding_all rfl) ?_))))))
    refine d_cons (d_var (by with_unfolding_all rfl) ?_)
    refine d_cons (d_var (by with_unfolding_all rfl) ?_)
    refine d_cons (d_op (d_var (by with_unfolding_all rfl) ?_))
    refine d_c (by with_unfolding_all rfl) ?_
    refine r_I0 (by with_unfolding_all rfl) ?_
    refine d_nil ?_
    (with_reducible refine m_gen dep hg (by assumption) (fun b hb => ?_))
    refine d_cons (d_call (d_cons (d_var (by with_unfolding_all rfl) ?_)))
    refine d_cons (d_var (by with_unfolding_all rfl) ?_)
    refine d_cons (d_var (by with_unfolding_all rfl) ?_)
    refine d_cons (d_op (d_var (by with_unfolding_all rfl) ?_))
    refine d_c (by with_unfolding_all rfl) ?_
    refine r_I0 (by with_unfolding_all rfl) ?_
    refine d_nil ?_
    (with_reducible refine m_gen dep hg (by assumption) (fun b hb => ?_))
    refine d_nil (And.intro (show List.length _ ≤ 100000 by simp) ?_)
    refine s_ret (d_tup (d_cons (d_c (by with_unfolding_all rfl) ?_)))
    refine d_cons (d_call (d_cons (d_var (by with_unfolding_all rfl) ?_)))
    refine d_cons (d_var (by with_unfolding_all rfl) ?_)
    refine d_cons (d_c (by with_unfolding_all rfl) ?_)
    refine d_cons (d_op (d_var (by with_unfolding_all rfl) ?_))
    refine d_c (by with_unfolding_all rfl) ?_
    refine r_I0 (by with_unfolding_all rfl) ?_
    refine d_nil ?_
    (with_reducible refine m_gen dep hg (by assumption) (fun b hb => ?_))
    refine d_cons (d_op (d_var (by with_unfolding_all rfl) ?_))
    refine d_c (by with_unfolding_all rfl) ?_
    refine r_ix (.inl (r_ixL (by with_unfolding_all rfl) ?_))
    refine d_cons (d_op (d_var (by with_unfolding_all rfl) ?_))
    refine d_c (by with_unfolding_all rfl) ?_
    refine r_ix (.inl (r_ixL (by with_unfolding_all rfl) ?_))
    refine d_nil (And.intro (show List.length _ ≤ 100000 by simp) ?_)
    dsimp only
    rotate_left
    rename_i b1 hb1 b2 hb2
    exact q (.ite b b1 b2) (g3 hb hb1 hb2)
  refine s_next ?_
  refine s_ret (d_call (d_cons (d_var (by with_unfolding_all rfl) ?_)))
  refine d_cons (d_var (by with_unfolding_all rfl) ?_)
  refine d_cons (d_var (by with_unfolding_all rfl) ?_)
  refine d_cons (d_op (d_var (by with_unfolding_all rfl) ?_))
  refine d_c (by with_unfolding_all rfl) ?_
  refine r_I0 (by with_unfolding_all rfl) ?_
  refine d_nil ?_
  (with_reducible refine m_gen dep hg (by assumption) (fun b hb => ?_))
  dsimp only
  rotate_left
  exact q b hb
theorem ok_bodyS {ah as : Addr} (F : DefT K mg "_law_body" s_law_body) (n j : Nat) (hj : 2 ≤ j) (C_law_next : Cal P w K mg base 1 "_law_next" ["_law_h", "_law_many"] (some (ah, as)) (M_next ah))
    (C_law_leaf : Cal P w K mg base 2 "_law_leaf" ["_law_h", "_law_e", "_law_kind"] (some (ah, as)) (M_leaf ah)) (C_law_body : Cal P w K mg base j "_law_body" ["_law_h", "_law_e", "_law_kind", "_law_deep_here"] (some (ah, as)) (M_gen ah n (n + 1)))
    (C_law_call : Cal P w K mg base (j + 1) "_law_call" ["_law_h", "_law_e", "_law_kind", "_law_deep_here"] (some (ah, as)) (M_gen ah (n + 1) (n + 2))) (C_law_reckons : Cal P w K mg base (j + 1) "_law_reckons" ["_law_h", "_law_e", "_law_kind", "_law_deep_here"] (some (ah, as)) (M_gen ah n (n + 2))) :
    Cal P w K mg base (j + 2) "_law_body" ["_law_h", "_law_e", "_law_kind", "_law_deep_here"] (some (ah, as)) (M_gen ah (n + 1) (n + 2)) := by
  refine okF F sc_law_body (fun _ _ _ _ _ _ us hl => match us, hl with | [_, _, _, _], _ => rfl) (fun ds k h => ?_) (fun f cdv A outer s H E ds kk hr h => ?_)
  · obtain ⟨_, _, _, _, rfl, _⟩ := h
    rfl
  exact bodyS_core F n j hj C_law_next C_law_leaf C_law_body C_law_call C_law_reckons f cdv A outer s H E ds kk hr h
/-- the draws of bodies, to any depth -/
theorem ok_bodies {ah as : Addr} (F : DefT K mg "_law_body" s_law_body) (Fc : DefT K mg "_law_call" s_law_call) (Fr : DefT K mg "_law_reckons" s_law_reckons) (zl : mg "len" = none) (zs : mg "sorted" = none)
    (C_law_next : Cal P w K mg base 1 "_law_next" ["_law_h", "_law_many"] (some (ah, as)) (M_next ah)) (C_law_leaf : Cal P w K mg base 2 "_law_leaf" ["_law_h", "_law_e", "_law_kind"] (some (ah, as)) (M_leaf ah)) :
    ∀ n : Nat, Cal P w K mg base (3 + 2 * n) "_law_body" ["_law_h", "_law_e", "_law_kind", "_law_deep_here"] (some (ah, as)) (M_gen ah n (n + 1)) := by
  intro n
  induction n with
  | zero => exact ok_body0 F Fc Fr C_law_next C_law_leaf
  | succ n ih => exact ok_bodyS F n (3 + 2 * n) (by omega) C_law_next C_law_leaf ih (ok_call Fc zl zs n _ (by omega) C_law_next C_law_leaf ih) (ok_reck Fr n _ (by omega) C_law_next ih)
def M_gens (ah : Addr) : List D → (D → Prop) → Prop := fun ds k => M_gen ah 1 2 ds k ∨ M_gen ah 2 3 ds k ∨ M_gen ah 3 4 ds k
theorem ok_body123 {ah as : Addr} (F : DefT K mg "_law_body" s_law_body) (Fc : DefT K mg "_law_call" s_law_call) (Fr : DefT K mg "_law_reckons" s_law_reckons) (zl : mg "len" = none) (zs : mg "sorted" = none)
    (C_law_next : Cal P w K mg base 1 "_law_next" ["_law_h", "_law_many"] (some (ah, as)) (M_next ah)) (C_law_leaf : Cal P w K mg base 2 "_law_leaf" ["_law_h", "_law_e", "_law_kind"] (some (ah, as)) (M_leaf ah)) :
    Cal P w K mg base 9 "_law_body" ["_law_h", "_law_e", "_law_kind", "_law_deep_here"] (some (ah, as)) (M_gens ah) := by
  have I := fun n => ok_bodies F Fc Fr zl zs C_law_next C_law_leaf n
  have c := fun n => ok_call Fc zl zs n (3 + 2 * n) (by omega) C_law_next C_law_leaf (I n)
  have r := fun n => ok_reck Fr n (3 + 2 * n) (by omega) C_law_next (I n)
  refine okF F sc_law_body (fun _ _ _ _ _ _ us hl => match us, hl with | [_, _, _, _], _ => rfl) (fun ds k h => ?_) (fun f cdv A outer s H E ds kk hr h => ?_)
  · rcases h with ⟨_, _, _, _, rfl, _⟩ | ⟨_, _, _, _, rfl, _⟩ | ⟨_, _, _, _, rfl, _⟩ <;> rfl
  rcases h with h | h | h
  · exact bodyS_core F 0 3 (by omega) C_law_next C_law_leaf (I 0) (c 0) (r 0) f cdv A outer s H E ds kk (hr.mono (by omega)) h
  · exact bodyS_core F 1 5 (by omega) C_law_next C_law_leaf (I 1) (c 1) (r 1) f cdv A outer s H E ds kk (hr.mono (by omega)) h
  · exact bodyS_core F 2 7 (by omega) C_law_next C_law_leaf (I 2) (c 2) (r 2) f cdv A outer s H E ds kk (hr.mono (by omega)) h
end
end Pr
set_option Elab.async false
set_option linter.all false
set_option maxRecDepth 100000
set_option maxHeartbeats 2000000
namespace Pr
open PySem L2 PD
abbrev s_law_mix : Stmt := top 37
abbrev N_law_mix : List Str := ["_law_script", "_law_seed", "_law_mixed", "_law_cell"]
theorem sc_law_mix : FnScope N_law_mix ["_law_script", "_law_seed"] (defScope s_law_mix) := ⟨rfl, rfl, rfl, by decide +kernel, rfl, by decide +kernel, by decide +kernel⟩

abbrev s_law_big : Stmt := top 53
abbrev N_law_big : List Str := ["_law_body_here", "_law_arm"]
theorem sc_law_big : FnScope N_law_big ["_law_body_here"] (defScope s_law_big) := ⟨rfl, rfl, rfl, by decide +kernel, rfl, by decide +kernel, by decide +kernel⟩

abbrev s_law_calls : Stmt := top 44
abbrev N_law_calls : List Str := ["_law_body_here", "_law_found", "_law_arm", "_law_deed"]
theorem sc_law_calls : FnScope N_law_calls ["_law_body_here"] (defScope s_law_calls) := ⟨rfl, rfl, rfl, by decide +kernel, rfl, by decide +kernel, by decide +kernel⟩

abbrev s_law_used : Stmt := top 45
abbrev N_law_used : List Str := ["_law_body_here", "_law_found", "_law_arm"]
theorem sc_law_used : FnScope N_law_used ["_law_body_here"] (defScope s_law_used) := ⟨rfl, rfl, rfl, by decide +kernel, rfl, by decide +kernel, by decide +kernel⟩

section
variable {P : Program} {w : World} {K : PySem.W.Frag} {mg : Str → Option Value} {base : Heap}
theorem tg_toD (b : B) : tgD b.toD = some .tup := by cases b <;> rfl
def M_big (n : Nat) : List D → (D → Prop) → Prop := fun ds k => ∃ b : B, ds = [b.toD] ∧ b.depth ≤ n ∧ k (.int (b.size : Nat))
theorem m_big {n : Nat} {b : B} {k : D → Prop} (h1 : b.depth ≤ n) (h : k (.int (b.size : Nat))) : M_big n [b.toD] k := ⟨b, rfl, h1, h⟩
theorem ok_big (F : DefT K mg "_law_big" s_law_big) (zs : mg "sum" = none) (zi : mg "isinstance" = none) (zt : mg "tuple" = none) : ∀ n : Nat, Cal P w K mg base (n + 1) "_law_big" ["_law_body_here"] none (M_big n) := by
  intro n
  induction n with
  | zero =>
    refine okF F sc_law_big (fun _ _ _ _ _ _ us hl => match us, hl with | [_], _ => rfl) (fun ds k h => ?_) (fun f cdv A outer s H E ds kk hr h => ?_)
    · obtain ⟨_, rfl, _⟩ := h
      rfl
    · obtain ⟨b, _, h, _⟩ := h
      have := depth_pos b
      omega
  | succ n ih =>
    have C_law_big := ih
    refine okF F sc_law_big (fun _ _ _ _ _ _ us hl => match us, hl with | [_], _ => rfl) (fun ds k h => ?_) (fun f cdv A outer s H E ds kk hr h => ?_)
    · obtain ⟨_, rfl, _⟩ := h
      rfl
    obtain ⟨b, rfl, hd, q⟩ := h
    have T : Unit := ()
    refine ⟨_, (pss_one (ps_ret (pe_op op_add pe_int (pe_callB (r := rSum K) (id := "sum")  (cr_sum rfl) (by rfl) zs (by decide +kernel) (pa_cons (pe_lc (own := [("_law_arm", 1)]) (g := gName 1) rfl sc_law_big.nd (pi_tup (pv 0)) (blkOk_by (own := [("_law_arm", 1)]) (N := N_law_big) (sc := defScope s_law_big) (by decide +kernel)) (fun _ _ _ _ _ => (pg_name (i := 1) sc_law_big.nd rfl (by first | exact Or.inl rfl | exact Or.inr rfl))) (fun _ _ _ _ _ => (pts_one (pt_val (pe_callB (r := rIsi K) (id := "isinstance")  call_isi (by rfl) zi (by decide +kernel) (pa_cons (pv 1) (pa_cons (pe_bty (n := "tuple") rfl zt (by decide +kernel)) pa_nil)))))) (fun _ _ _ _ _ => (pe_calK (K := K) rfl C_law_big (hr.mono (by first | decide | omega)) rfl (pa_cons (pv 1) pa_nil)))) pa_nil))))), ?_⟩
    try dsimp only [cxOf]
    change dS _ _ _ [Sl.d _, Sl.un] _
    have fin : ∀ {i j : Int}, kk (.int i) → i = j → kk (.int j) := fun h e => e ▸ h
    cases b <;> simp only [B.depth] at hd <;> dsimp only [B.toD]
    refine s_ret (d_op (d_c (by with_unfolding_all rfl) ?_))
    refine d_cb (d_cons (d_lc (i_tup (d_var (by with_unfolding_all rfl) ?_))))
    refine ⟨_, rfl, ?_⟩
    (refine ⟨(show _ ≤ 50000 by simp), ?_⟩)
    refine lcW_cons (g_nameV (by decide) ?_)
    refine d_tB (d_cb (d_cons (d_var (by with_unfolding_all rfl) ?_)))
    refine d_cons (d_c (by with_unfolding_all rfl) ?_)
    refine d_nil (c_tup (by with_unfolding_all rfl) ?_)
    refine ⟨_, rfl, (br_f (by with_unfolding_all rfl) ?_)⟩
    refine lcW_cons (g_nameV (by decide) ?_)
    refine d_tB (d_cb (d_cons (d_var (by with_unfolding_all rfl) ?_)))
    refine d_cons (d_c (by with_unfolding_all rfl) ?_)
    refine d_nil (c_tup (by with_unfolding_all rfl) ?_)
    refine ⟨_, rfl, (br_f (by with_unfolding_all rfl) ?_)⟩
    refine lcW_nil (d_nil ?_)
    dsimp only
    rotate_left
    refine s_ret (d_op (d_c (by with_unfolding_all rfl) ?_))
    refine d_cb (d_cons (d_lc (i_tup (d_var (by with_unfolding_all rfl) ?_))))
    refine ⟨_, rfl, ?_⟩
    (refine ⟨(show _ ≤ 50000 by simp), ?_⟩)
    refine lcW_cons (g_nameV (by decide) ?_)
    refine d_tB (d_cb (d_cons (d_var (by with_unfolding_all rfl) ?_)))
    refine d_cons (d_c (by with_unfolding_all rfl) ?_)
    refine d_nil (c_tup (by with_unfolding_all rfl) ?_)
    refine ⟨_, rfl, (br_f (by with_unfolding_all rfl) ?_)⟩
    refine lcW_cons (g_nameV (by decide) ?_)
    refine d_tB (d_cb (d_cons (d_var (by with_unfolding_all rfl) ?_)))
    refine d_cons (d_c (by with_unfolding_all rfl) ?_)
    refine d_nil (c_tup (by with_unfolding_all rfl) ?_)
    refine ⟨_, rfl, (br_f (by with_unfolding_all rfl) ?_)⟩
    refine lcW_nil (d_nil ?_)
    dsimp only
    rotate_left
    refine s_ret (d_op (d_c (by with_unfolding_all rfl) ?_))
    refine d_cb (d_cons (d_lc (i_tup (d_var (by with_unfolding_all rfl) ?_))))
    refine ⟨_, rfl, ?_⟩
    (refine ⟨(show _ ≤ 50000 by simp), ?_⟩)
    refine lcW_cons (g_nameV (by decide) ?_)
    refine d_tB (d_cb (d_cons (d_var (by with_unfolding_all rfl) ?_)))
    refine d_cons (d_c (by with_unfolding_all rfl) ?_)
    refine d_nil (c_tup (by with_unfolding_all rfl) ?_)
    refine ⟨_, rfl, (br_f (by with_unfolding_all rfl) ?_)⟩
    refine lcW_nil (d_nil ?_)
    dsimp only
    rotate_left
    refine s_ret (d_op (d_c (by with_unfolding_all rfl) ?_))
    refine d_cb (d_cons (d_lc (i_tup (d_var (by with_unfolding_all rfl) ?_))))
    refine ⟨_, rfl, ?_⟩
    (refine ⟨(show _ ≤ 50000 by simp), ?_⟩)
    refine lcW_cons (g_nameV (by decide) ?_)
    refine d_tB (d_cb (d_cons (d_var (by with_unfolding_all rfl) ?_)))
    refine d_cons (d_c (by with_unfolding_all rfl) ?_)
    refine d_nil (c_tup (by with_unfolding_all rfl) ?_)
    refine ⟨_, rfl, (br_f (by with_unfolding_all rfl) ?_)⟩
    refine lcW_nil (d_nil ?_)
    dsimp only
    rotate_left
    refine s_ret (d_op (d_c (by with_unfolding_all rfl) ?_))
    refine d_cb (d_cons (d_lc (i_tup (d_var (by with_unfolding_all rfl) ?_))))
    refine ⟨_, rfl, ?_⟩
    (refine ⟨(show _ ≤ 50000 by simp), ?_⟩)
    refine lcW_cons (g_nameV (by decide) ?_)
    refine d_tB (d_cb (d_cons (d_var (by with_unfolding_all rfl) ?_)))
    refine d_cons (d_c (by with_unfolding_all rfl) ?_)
    refine d_nil (c_tup (by with_unfolding_all rfl) ?_)
    refine ⟨_, rfl, (br_f (by with_unfolding_all rfl) ?_)⟩
    refine lcW_cons (g_nameV (by decide) ?_)
    refine d_tB (d_cb (d_cons (d_var (by with_unfolding_all rfl) ?_)))
    refine d_cons (d_c (by with_unfolding_all rfl) ?_)
    refine d_nil (c_tup (by with_unfolding_all rfl) ?_)
    refine ⟨_, rfl, (br_f (by with_unfolding_all rfl) ?_)⟩
    refine lcW_nil (d_nil ?_)
    dsimp only
    rotate_left
    refine s_ret (d_op (d_c (by with_unfolding_all rfl) ?_))
    refine d_cb (d_cons (d_lc (i_tup (d_var (by with_unfolding_all rfl) ?_))))
    refine ⟨_, rfl, ?_⟩
    (refine ⟨(show _ ≤ 50000 by simp), ?_⟩)
    refine lcW_cons (g_nameV (by decide) ?_)
    refine d_tB (d_cb (d_cons (d_var (by with_unfolding_all rfl) ?_)))
    refine d_cons (d_c (by with_unfolding_all rfl) ?_)
    refine d_nil (c_tup (by with_unfolding_all rfl) ?_)
    refine ⟨_, rfl, (br_f (by with_unfolding_all rfl) ?_)⟩
    refine lcW_cons (g_nameV (by decide) ?_)
    refine d_tB (d_cb (d_cons (d_var (by with_unfolding_all rfl) ?_)))
    refine d_cons (d_c (by with_unfolding_all rfl) ?_)
    refine d_nil (c_tup (by with_unfolding_all rfl) ?_)
    refine ⟨_, rfl, (br_f (by with_unfolding_all rfl) ?_)⟩
    refine lcW_cons (g_nameV (by decide) ?_)
    refine d_tB (d_cb (d_cons (d_var (by with_unfolding_all rfl) ?_)))
    refine d_cons (d_c (by with_unfolding_all rfl) ?_)
    refine d_nil ?_
    refine c_tup (tg_toD _) ⟨_, rfl, (br_t (by with_unfolding_all rfl) ?_)⟩
    refine d_call (d_cons (d_var (by with_unfolding_all rfl) ?_))
    refine d_nil (m_big (by omega) ?_)
    refine lcW_nil (d_nil ?_)
    dsimp only
    rotate_left
    refine s_ret (d_op (d_c (by with_unfolding_all rfl) ?_))
    refine d_cb (d_cons (d_lc (i_tup (d_var (by with_unfolding_all rfl) ?_))))
    refine ⟨_, rfl, ?_⟩
    (refine ⟨(show _ ≤ 50000 by simp), ?_⟩)
    refine lcW_cons (g_nameV (by decide) ?_)
    refine d_tB (d_cb (d_cons (d_var (by with_unfolding_all rfl) ?_)))
    refine d_cons (d_c (by with_unfolding_all rfl) ?_)
    refine d_nil (c_tup (by with_unfolding_all rfl) ?_)
    refine ⟨_, rfl, (br_f (by with_unfolding_all rfl) ?_)⟩
    refine lcW_cons (g_nameV (by decide) ?_)
    refine d_tB (d_cb (d_cons (d_var (by with_unfolding_all rfl) ?_)))
    refine d_cons (d_c (by with_unfolding_all rfl) ?_)
    refine d_nil (c_tup (by with_unfolding_all rfl) ?_)
    refine ⟨_, rfl, (br_f (by with_unfolding_all rfl) ?_)⟩
    refine lcW_cons (g_nameV (by decide) ?_)
    refine d_tB (d_cb (d_cons (d_var (by with_unfolding_all rfl) ?_)))
    refine d_cons (d_c (by with_unfolding_all rfl) ?_)
    refine d_nil ?_
    refine c_tup (tg_toD _) ⟨_, rfl, (br_t (by with_unfolding_all rfl) ?_)⟩
    refine d_call (d_cons (d_var (by with_unfolding_all rfl) ?_))
    refine d_nil (m_big (by omega) ?_)
    refine lcW_nil (d_nil ?_)
    dsimp only
    rotate_left
    refine s_ret (d_op (d_c (by with_unfolding_all rfl) ?_))
    refine d_cb (d_cons (d_lc (i_tup (d_var (by with_unfolding_all rfl) ?_))))
    refine ⟨_, rfl, ?_⟩
    (refine ⟨(show _ ≤ 50000 by simp), ?_⟩)
    refine lcW_cons (g_nameV (by decide) ?_)
    refine d_tB (d_cb (d_cons (d_var (by with_unfolding_all rfl) ?_)))
    refine d_cons (d_c (by with_unfolding_all rfl) ?_)
    refine d_nil (c_tup (by with_unfolding_all rfl) ?_)
    refine ⟨_, rfl, (br_f (by with_unfolding_all rfl) ?_)⟩
    refine lcW_cons (g_nameV (by decide) ?_)
    refine d_tB (d_cb (d_cons (d_var (by with_unfolding_all rfl) ?_)))
    refine d_cons (d_c (by with_unfolding_all rfl) ?_)
    refine d_nil ?_
    refine c_tup (tg_toD _) ⟨_, rfl, (br_t (by with_unfolding_all rfl) ?_)⟩
    refine d_call (d_cons (d_var (by with_unfolding_all rfl) ?_))
    refine d_nil (m_big (by omega) ?_)
    refine lcW_nil (d_nil ?_)
    dsimp only
    rotate_left
    refine s_ret (d_op (d_c (by with_unfolding_all rfl) ?_))
    refine d_cb (d_cons (d_lc (i_tup (d_var (by with_unfolding_all rfl) ?_))))
    refine ⟨_, rfl, ?_⟩
    (refine ⟨(show _ ≤ 50000 by simp), ?_⟩)
    refine lcW_cons (g_nameV (by decide) ?_)
    refine d_tB (d_cb (d_cons (d_var (by with_unfolding_all rfl) ?_)))
    refine d_cons (d_c (by with_unfolding_all rfl) ?_)
    refine d_nil (c_tup (by with_unfolding_all rfl) ?_)
    refine ⟨_, rfl, (br_f (by with_unfolding_all rfl) ?_)⟩
    refine lcW_cons (g_nameV (by decide) ?_)
    refine d_tB (d_cb (d_cons (d_var (by with_unfolding_all rfl) ?_)))
    refine d_cons (d_c (by with_unfolding_all rfl) ?_)
    refine d_nil ?_
    refine c_tup (tg_toD _) ⟨_, rfl, (br_t (by with_unfolding_all rfl) ?_)⟩
    refine d_call (d_cons (d_var (by with_unfolding_all rfl) ?_))
    refine d_nil (m_big (by omega) ?_)
    refine lcW_cons (g_nameV (by decide) ?_)
    refine d_tB (d_cb (d_cons (d_var (by with_unfolding_all rfl) ?_)))
    refine d_cons (d_c (by with_unfolding_all rfl) ?_)
    refine d_nil ?_
    refine c_tup (tg_toD _) ⟨_, rfl, (br_t (by with_unfolding_all rfl) ?_)⟩
    refine d_call (d_cons (d_var (by with_unfolding_all rfl) ?_))
    refine d_nil (m_big (by omega) ?_)
    refine lcW_nil (d_nil ?_)
    dsimp only
    rotate_left
    refine s_ret (d_op (d_c (by with_unfolding_all rfl) ?_))
    refine d_cb (d_cons (d_lc (i_tup (d_var (by with_unfolding_all rfl) ?_))))
    refine ⟨_, rfl, ?_⟩
    (refine ⟨(show _ ≤ 50000 by simp), ?_⟩)
    refine lcW_cons (g_nameV (by decide) ?_)
    refine d_tB (d_cb (d_cons (d_var (by with_unfolding_all rfl) ?_)))
    refine d_cons (d_c (by with_unfolding_all rfl) ?_)
    refine d_nil (c_tup (by with_unfolding_all rfl) ?_)
    refine ⟨_, rfl, (br_f (by with_unfolding_all rfl) ?_)⟩
    refine lcW_cons (g_nameV (by decide) ?_)
    refine d_tB (d_cb (d_cons (d_var (by with_unfolding_all rfl) ?_)))
    refine d_cons (d_c (by with_unfolding_all rfl) ?_)
    refine d_nil ?_
    refine c_tup (tg_toD _) ⟨_, rfl, (br_t (by with_unfolding_all rfl) ?_)⟩
    refine d_call (d_cons (d_var (by with_unfolding_all rfl) ?_))
    refine d_nil (m_big (by omega) ?_)
    refine lcW_cons (g_nameV (by decide) ?_)
    refine d_tB (d_cb (d_cons (d_var (by with_unfolding_all rfl) ?_)))
    refine d_cons (d_c (by with_unfolding_all rfl) ?_)
    refine d_nil ?_
    refine c_tup (tg_toD _) ⟨_, rfl, (br_t (by with_unfolding_all rfl) ?_)⟩
    refine d_call (d_cons (d_var (by with_unfolding_all rfl) ?_))
    refine d_nil (m_big (by omega) ?_)
    refine lcW_cons (g_nameV (by decide) ?_)
    refine d_tB (d_cb (d_cons (d_var (by with_unfolding_all rfl) ?_)))
    refine d_cons (d_c (by with_unfolding_all rfl) ?_)
    refine d_nil ?_
    refine c_tup (tg_toD _) ⟨_, rfl, (br_t (by with_unfolding_all rfl) ?_)⟩
    refine d_call (d_cons (d_var (by with_unfolding_all rfl) ?_))
    refine d_nil (m_big (by omega) ?_)
    refine lcW_nil (d_nil ?_)
    dsimp only
    rotate_left
    all_goals first
      | (refine c_sum (ns := []) ?_; refine r_I0 rfl ?_; exact fin q (by simp [B.size]))
      | (refine c_sum (ns := [_]) ?_; refine r_I0 rfl ?_; refine fin q ?_; simp [B.size]; omega)
      | (refine c_sum (ns := [_, _]) ?_; refine r_I0 rfl ?_; refine fin q ?_; simp [B.size]; omega)
      | (refine c_sum (ns := [_, _, _]) ?_; refine r_I0 rfl ?_; refine fin q ?_; simp [B.size]; omega)
      | trace_state
end
end Pr
set_option Elab.async false
set_option linter.all false
set_option maxRecDepth 100000
set_option maxHeartbeats 2000000
namespace Pr
open PySem L2 PD
local macro_rules | `(tactic| walk_at "d1") => `(tactic| (first
  | with_reducible refine s_seq ?_ | with_reducible refine s_ret ?_ | with_reducible refine s_if ?_
  | with_reducible refine d_var (by with_unfolding_all rfl) ?_ | with_reducible refine d_cK (by assumption) ?_ | with_reducible refine d_c (by with_unfolding_all rfl) ?_
  | with_reducible refine d_op ?_ | with_reducible refine d_test ?_ | with_reducible refine d_cons ?_ | with_reducible refine d_nil ?_ | with_reducible refine d_cb ?_ | with_reducible refine d_call ?_ | with_reducible refine d_callP ?_ | with_reducible refine d_callV (fun _ => RelL.cons Rel.int RelL.nil) ?_
  | with_reducible refine br_t (by assumption) ?_ | with_reducible refine br_f (by assumption) ?_ | with_reducible refine br_t (by with_unfolding_all rfl) ?_ | with_reducible refine br_f (by with_unfolding_all rfl) ?_
  | with_reducible refine ⟨_, rfl, ?_⟩ | with_reducible refine ⟨_, _, rfl, ?_⟩ | with_reducible refine ⟨_, _, _, _, rfl, ?_⟩ | with_reducible refine ⟨_, rfl, ?_, ?_⟩
  | with_reducible refine r_I0 (by with_unfolding_all rfl) ?_ | with_reducible refine r_eqS ?_ | with_reducible refine r_eqI ?_ | with_reducible refine r_neI ?_ | with_reducible refine r_neS ?_ | with_reducible refine r_isN ?_ | with_reducible refine r_notN ?_ | with_reducible refine r_in0 ?_ | with_reducible refine r_in1 ?_ | with_reducible refine r_in2 ?_ | with_reducible refine r_in3 ?_ | with_reducible refine s_setD ?_ | with_reducible refine d_dc ?_
  | with_reducible refine r_ix (.inr (r_ixT (by with_unfolding_all rfl) ?_)) | with_reducible refine r_ix (.inl (r_ixL (by with_unfolding_all rfl) ?_)) | with_reducible refine c_lenS (.inr rfl) ?_ | with_reducible refine c_lenS (.inl rfl) ?_
  | with_reducible refine s_next ?_ | with_reducible refine d_andV ?_ | with_reducible refine d_orV ?_ | with_reducible refine d_notV ?_
  | with_reducible refine d_un ?_ | with_reducible refine d_tB ?_ | with_reducible refine d_and ?_ | with_reducible refine d_or ?_ | with_reducible refine d_not ?_
  | with_reducible refine d_yes ?_ | with_reducible refine d_ifE ?_
  | with_reducible refine d_tup ?_ | with_reducible refine d_lst ?_ | with_reducible refine d_slT1 ?_ | with_reducible refine d_slT3 ?_ | with_reducible refine d_slT13 ?_ | with_reducible refine d_slT ?_ | with_reducible refine o_no ?_ | with_reducible refine o_part ?_ | with_reducible refine d_chain ?_ | with_reducible refine d_truth ?_
  | with_reducible refine s_setL ?_ | with_reducible refine s_set ?_ | with_reducible refine s_for ?_ | with_reducible refine i_zipT ?_ | with_reducible refine i_tup ?_ | with_reducible refine i_list ?_
  | with_reducible refine g_name ?_ | with_reducible refine g_nameV (by decide) ?_ | with_reducible refine gs_cons ?_ | with_reducible refine gs_nil ?_ | ((with_reducible refine g_tid ?_); refine g_tup rfl ?_) | with_reducible refine s_aug (by with_unfolding_all rfl) ?_ | with_reducible refine s_asg ?_ | with_reducible refine s_drop ?_
  | with_reducible refine d_callLP (by with_unfolding_all rfl) ?_ | with_reducible refine d_lc ?_ | with_reducible refine forW_cons ?_ | with_reducible refine forW_nil ?_ | ((with_reducible refine forW_id ?_); refine forW_pair ?_) | ((with_reducible refine forW_id ?_); refine forW_pnil ?_) | with_reducible refine lcW_cons ?_ | with_reducible refine lcW_nil ?_
  | with_reducible refine d_dget ?_ | with_reducible refine d_dget1 ?_ | with_reducible refine d_dget2 ?_ | with_reducible refine d_kget ?_
  | with_reducible refine r_eq (by with_unfolding_all rfl) (by with_unfolding_all rfl) (by with_unfolding_all rfl) ?_ | with_reducible refine r_ne (by with_unfolding_all rfl) (by with_unfolding_all rfl) (by with_unfolding_all rfl) ?_
  | with_reducible refine u_I (by with_unfolding_all rfl) ?_
  | with_reducible refine c_bool (by with_unfolding_all rfl) ?_ | with_reducible refine c_int (by with_unfolding_all rfl) ?_ | with_reducible refine c_str (by with_unfolding_all rfl) ?_ | with_reducible refine c_tup (by with_unfolding_all rfl) ?_ | with_reducible refine c_lst (by with_unfolding_all rfl) ?_
  | with_reducible refine And.intro (show List.length _ ≤ 100000 by simp) ?_ | with_reducible refine truOk_tup ?_ | with_reducible refine truOk_lst ?_ | with_reducible assumption | with_reducible refine ⟨fun _ => ?_, fun _ => ?_⟩ | dsimp only | fail "stop"))
local macro_rules | `(tactic| walk_at "d") => `(tactic| repeat' walk_at "d1")

def B.uses : B → List Str
  | .cel c => [c]
  | .set c x => c :: x.uses
  | .call _ x => x.uses
  | .op1 _ x => x.uses
  | .op2 _ x y => x.uses ++ y.uses
  | .ite x y z => x.uses ++ y.uses ++ z.uses
  | _ => []
def addNew (xs ys : List Str) : List Str := xs ++ ys.filter fun s => !decide (s ∈ xs)
def B.called : B → List Str
  | .set _ x => addNew [] x.called
  | .call d x => addNew [d] x.called
  | .op1 _ x => addNew [] x.called
  | .op2 _ x y => addNew (addNew [] x.called) y.called
  | .ite x y z => addNew (addNew (addNew [] x.called) y.called) z.called
  | _ => []
theorem uses_len (b : B) : b.uses.length ≤ b.size := by
  induction b <;> simp only [B.uses, B.size, List.length_cons, List.length_append, List.length_nil] <;> omega
theorem addNew_len (xs ys : List Str) : (addNew xs ys).length ≤ xs.length + ys.length := by
  unfold addNew
  rw [List.length_append]
  exact Nat.add_le_add_left (List.length_filter_le _ _) _
theorem mem_addNew {s : Str} {xs ys : List Str} : s ∈ addNew xs ys ↔ s ∈ xs ∨ s ∈ ys := by
  unfold addNew
  rw [List.mem_append, List.mem_filter]
  by_cases h : s ∈ xs <;> simp [h]
theorem called_len (b : B) : b.called.length ≤ b.size := by
  induction b with
  | op2 w x y hx hy =>
    have h1 := addNew_len [] x.called
    have h2 := addNew_len (addNew [] x.called) y.called
    simp only [B.called, B.size, List.length_nil] at *
    omega
  | ite x y z hx hy hz =>
    have h1 := addNew_len [] x.called
    have h2 := addNew_len (addNew [] x.called) y.called
    have h3 := addNew_len (addNew (addNew [] x.called) y.called) z.called
    simp only [B.called, B.size, List.length_nil] at *
    omega
  | call d x hx =>
    have h1 := addNew_len [d] x.called
    simp only [B.called, B.size, List.length_cons, List.length_nil] at *
    omega
  | set c x hx =>
    have h1 := addNew_len [] x.called
    simp only [B.called, B.size, List.length_nil] at *
    omega
  | op1 c x hx =>
    have h1 := addNew_len [] x.called
    simp only [B.called, B.size, List.length_nil] at *
    omega
  | _ => simp [B.called]
section
variable {P : Program} {w : World} {K : PySem.W.Frag} {mg : Str → Option Value} {base : Heap}
def M_used (n : Nat) : List D → (D → Prop) → Prop := fun ds k => ∃ b : B, ds = [b.toD] ∧ b.ok ∧ b.depth ≤ n ∧ b.size ≤ 20000 ∧ k (.lst (strsOf b.uses))
def M_lcalls (n : Nat) : List D → (D → Prop) → Prop := fun ds k => ∃ b : B, ds = [b.toD] ∧ b.ok ∧ b.depth ≤ n ∧ b.size ≤ 20000 ∧ k (.lst (strsOf b.called))
theorem m_used {n : Nat} {b : B} {k : D → Prop} (h0 : b.ok) (h1 : b.depth ≤ n) (h2 : b.size ≤ 20000) (h : k (.lst (strsOf b.uses))) : M_used n [b.toD] k := ⟨b, rfl, h0, h1, h2, h⟩
theorem m_lcalls {n : Nat} {b : B} {k : D → Prop} (h0 : b.ok) (h1 : b.depth ≤ n) (h2 : b.size ≤ 20000) (h : k (.lst (strsOf b.called))) : M_lcalls n [b.toD] k := ⟨b, rfl, h0, h1, h2, h⟩
theorem w1_ne : ∀ v ∈ w1S, decide (v ∈ ([("cell" : Str), ("set" : Str)] : List Str)) = false ∧ decide (v = ("call" : Str)) = false := by decide +kernel
theorem w2_ne : ∀ v ∈ w2S, decide (v ∈ ([("cell" : Str), ("set" : Str)] : List Str)) = false ∧ decide (v = ("call" : Str)) = false := by decide +kernel
local macro_rules | `(tactic| walk_at "wk1") => `(tactic| (first | with_reducible refine m_used (by assumption) (by omega) (by omega) ?_ | with_reducible refine m_lcalls (by assumption) (by omega) (by omega) ?_ | refine c_tup (tg_toD _) ?_ | (refine ⟨(show _ ≤ 50000 by simp), ?_⟩) | (refine ⟨_, rfl, (by simp; omega), ?_⟩) | with_reducible refine l_lst ?_ | (with_reducible refine s_extDS (i := 1) (by with_unfolding_all rfl) ?_) | (with_reducible refine s_keep (i := 1) (by with_unfolding_all rfl) (s_ret ?_)) | (refine ⟨rfl, ?_⟩) | walk_at "d1" | fail "x"))
local macro_rules | `(tactic| walk_at "wk") => `(tactic| repeat' walk_at "wk1")
theorem ok_used (F : DefT K mg "_law_used" s_law_used) (zi : mg "isinstance" = none) (zt : mg "tuple" = none) : ∀ n : Nat, Cal P w K mg base (n + 1) "_law_used" ["_law_body_here"] none (M_used n) := by
  intro n
  induction n with
  | zero =>
    refine okF F sc_law_used (fun _ _ _ _ _ _ us hl => match us, hl with | [_], _ => rfl) (fun ds k h => ?_) (fun f cdv A outer s H E ds kk hr h => ?_)
    · obtain ⟨_, rfl, _⟩ := h
      rfl
    · obtain ⟨b, _, _, h, _⟩ := h
      have := depth_pos b
      omega
  | succ n ih =>
    have C_law_used := ih
    refine okF F sc_law_used (fun _ _ _ _ _ _ us hl => match us, hl with | [_], _ => rfl) (fun ds k h => ?_) (fun f cdv A outer s H E ds kk hr h => ?_)
    · obtain ⟨_, rfl, _⟩ := h
      rfl
    obtain ⟨b, rfl, ho, hd, hz, q⟩ := h
    have T : Unit := ()
    refine ⟨_, (pss_cons (ps_set (i := 1) sc_law_used.nd rfl (by first | exact Or.inl rfl | exact Or.inr rfl) (pe_ifExp (pt_cmpR (r := rIn K false) op_in_seq (pe_ix (r := rIx K) ix_seq (pv 0) pe_int (fun _ _ => rfl)) (pe_tup (pa_cons pe_str (pa_cons pe_str pa_nil))) rfl) (pe_lst (pa_cons (pe_ix (r := rIx K) ix_seq (pv 0) pe_int (fun _ _ => rfl)) pa_nil)) (pe_lst pa_nil)))
      (pss_cons (ps_for PassesOwn.never rfl (pi_tup (pe_slice (r := rSlA K) sl_tupA (pv 0) (po_some pe_int) po_none)) (pg_name (i := 2) sc_law_used.nd rfl (by first | exact Or.inl rfl | exact Or.inr rfl)) (pss_one (ps_if (pt_val (pe_callB (r := rIsi K) (id := "isinstance")  call_isi (by rfl) zi (by decide +kernel) (pa_cons (pv 2) (pa_cons (pe_bty (n := "tuple") rfl zt (by decide +kernel)) pa_nil)))) (pss_one (ps_expr (pe_bm PySem.F.plainAttrs_list PySem.F.slot_list_extend PySem.F.type_list_extend mt_extend (pv 1) (pa_cons (pe_calK (K := K) rfl C_law_used (hr.mono (by first | decide | omega)) rfl (pa_cons (pv 2) pa_nil)) pa_nil)))) pss_nil)))
      (pss_one (ps_ret (pv 1))))), ?_⟩
    try dsimp only [cxOf]
    change dS _ _ _ [Sl.d _, Sl.un, Sl.un] _
    have lx := uses_len
    cases b <;> simp only [B.depth] at hd <;> simp only [B.size] at hz <;> (try simp only [B.ok] at ho) <;> dsimp only [B.toD] <;> dsimp only [B.uses] at q
    case cel c =>
      refine s_seq (s_ownS [c] (l_ifE ?_))
      refine d_test (d_op (d_op (d_var (by with_unfolding_all rfl) ?_)))
      refine d_c (by with_unfolding_all rfl) ?_
      refine r_ix (.inr (r_ixT (by with_unfolding_all rfl) ?_))
      refine d_tup (d_cons (d_c (by with_unfolding_all rfl) ?_))
      refine d_cons (d_c (by with_unfolding_all rfl) ?_)
      refine d_nil (And.intro (show List.length _ ≤ 100000 by simp) ?_)
      dsimp only
      rotate_left
      refine r_in0 (ss := ["cell", "set"]) ⟨_, rfl, fun e => ?_, fun e => absurd e (by decide)⟩
      refine l_lst (d_cons (d_op (d_var (by with_unfolding_all rfl) ?_)))
      refine d_c (by with_unfolding_all rfl) ?_
      refine r_ix (.inr (r_ixT (by with_unfolding_all rfl) ?_))
      refine d_nil (And.intro (show List.length _ ≤ 100000 by simp) ?_)
      (refine ⟨rfl, ?_⟩)
      refine s_seq (s_for (i_tup (d_slT1 (d_var (by with_unfolding_all rfl) ?_))))
      refine ⟨_, _, rfl, ⟨_, rfl, ?_⟩⟩
      with_reducible refine forW_cons ?_
      refine g_name (s_if (d_tB (d_cb (d_cons (d_var (by with_unfolding_all rfl) ?_)))))
      refine d_cons (d_c (by with_unfolding_all rfl) ?_)
      refine d_nil (c_tup (by with_unfolding_all rfl) ?_)
      refine ⟨_, rfl, (br_f (by with_unfolding_all rfl) ?_)⟩
      refine s_next ?_
      with_reducible refine forW_nil ?_
      (with_reducible refine s_keep (i := 1) (by with_unfolding_all rfl) (s_ret ?_))
      refine d_var (by with_unfolding_all rfl) ?_
      with_reducible assumption
    case set c x =>
      obtain ⟨_, _⟩ := ho
      have lx := lx x
      refine s_seq (s_ownS [c] (l_ifE ?_))
      refine d_test (d_op (d_op (d_var (by with_unfolding_all rfl) ?_)))
      refine d_c (by with_unfolding_all rfl) ?_
      refine r_ix (.inr (r_ixT (by with_unfolding_all rfl) ?_))
      refine d_tup (d_cons (d_c (by with_unfolding_all rfl) ?_))
      refine d_cons (d_c (by with_unfolding_all rfl) ?_)
      refine d_nil (And.intro (show List.length _ ≤ 100000 by simp) ?_)
      dsimp only
      rotate_left
      refine r_in0 (ss := ["cell", "set"]) ⟨_, rfl, fun e => ?_, fun e => absurd e (by decide)⟩
      refine l_lst (d_cons (d_op (d_var (by with_unfolding_all rfl) ?_)))
      refine d_c (by with_unfolding_all rfl) ?_
      refine r_ix (.inr (r_ixT (by with_unfolding_all rfl) ?_))
      refine d_nil (And.intro (show List.length _ ≤ 100000 by simp) ?_)
      (refine ⟨rfl, ?_⟩)
      refine s_seq (s_for (i_tup (d_slT1 (d_var (by with_unfolding_all rfl) ?_))))
      refine ⟨_, _, rfl, ⟨_, rfl, ?_⟩⟩
      with_reducible refine forW_cons ?_
      refine g_name (s_if (d_tB (d_cb (d_cons (d_var (by with_unfolding_all rfl) ?_)))))
      refine d_cons (d_c (by with_unfolding_all rfl) ?_)
      refine d_nil (c_tup (by with_unfolding_all rfl) ?_)
      refine ⟨_, rfl, (br_f (by with_unfolding_all rfl) ?_)⟩
      refine s_next ?_
      with_reducible refine forW_cons ?_
      refine g_name (s_if (d_tB (d_cb (d_cons (d_var (by with_unfolding_all rfl) ?_)))))
      refine d_cons (d_c (by with_unfolding_all rfl) ?_)
      refine d_nil ?_
      refine c_tup (tg_toD _) ⟨_, rfl, (br_t (by with_unfolding_all rfl) ?_)⟩
      (with_reducible refine s_extDS (i := 1) (by with_unfolding_all rfl) ?_)
      refine d_call (d_cons (d_var (by with_unfolding_all rfl) ?_))
      refine d_nil (m_used (by assumption) (by omega) (by omega) ?_)
      (refine ⟨_, rfl, (by simp; omega), ?_⟩)
      with_reducible refine forW_nil ?_
      (with_reducible refine s_keep (i := 1) (by with_unfolding_all rfl) (s_ret ?_))
      refine d_var (by with_unfolding_all rfl) ?_
      dsimp only
      rotate_left
      exact q
    case call c x =>
      obtain ⟨_, _⟩ := ho
      have lx := lx x
      refine s_seq (s_ownS [] (l_ifE ?_))
      refine d_test (d_op (d_op (d_var (by with_unfolding_all rfl) ?_)))
      refine d_c (by with_unfolding_all rfl) ?_
      refine r_ix (.inr (r_ixT (by with_unfolding_all rfl) ?_))
      refine d_tup (d_cons (d_c (by with_unfolding_all rfl) ?_))
      refine d_cons (d_c (by with_unfolding_all rfl) ?_)
      refine d_nil (And.intro (show List.length _ ≤ 100000 by simp) ?_)
      dsimp only
      rotate_left
      refine r_in0 (ss := ["cell", "set"]) ⟨_, rfl, fun e => absurd e (by decide), fun e => ?_⟩
      refine l_lst (d_nil (And.intro (show List.length _ ≤ 100000 by simp) ?_))
      (refine ⟨rfl, ?_⟩)
      refine s_seq (s_for (i_tup (d_slT1 (d_var (by with_unfolding_all rfl) ?_))))
      refine ⟨_, _, rfl, ⟨_, rfl, ?_⟩⟩
      with_reducible refine forW_cons ?_
      refine g_name (s_if (d_tB (d_cb (d_cons (d_var (by with_unfolding_all rfl) ?_)))))
      refine d_cons (d_c (by with_unfolding_all rfl) ?_)
      refine d_nil (c_tup (by with_unfolding_all rfl) ?_)
      refine ⟨_, rfl, (br_f (by with_unfolding_all rfl) ?_)⟩
      refine s_next ?_
      with_reducible refine forW_cons ?_
      refine g_name (s_if (d_tB (d_cb (d_cons (d_var (by with_unfolding_all rfl) ?_)))))
      refine d_cons (d_c (by with_unfolding_all rfl) ?_)
      refine d_nil ?_
      refine c_tup (tg_toD _) ⟨_, rfl, (br_t (by with_unfolding_all rfl) ?_)⟩
      (with_reducible refine s_extDS (i := 1) (by with_unfolding_all rfl) ?_)
      refine d_call (d_cons (d_var (by with_unfolding_all rfl) ?_))
      refine d_nil (m_used (by assumption) (by omega) (by omega) ?_)
      (refine ⟨_, rfl, (by simp; omega), ?_⟩)
      with_reducible refine forW_nil ?_
      (with_reducible refine s_keep (i := 1) (by with_unfolding_all rfl) (s_ret ?_))
      refine d_var (by with_unfolding_all rfl) ?_
      dsimp only
      rotate_left
      exact q
    case op1 v x =>
      obtain ⟨hv, _⟩ := ho
      have nv := (w1_ne v hv).1
      have lx := lx x
      refine s_seq (s_ownS [] (l_ifE ?_))
      refine d_test (d_op (d_op (d_var (by with_unfolding_all rfl) ?_)))
      refine d_c (by with_unfolding_all rfl) ?_
      refine r_ix (.inr (r_ixT (by with_unfolding_all rfl) ?_))
      refine d_tup (d_cons (d_c (by with_unfolding_all rfl) ?_))
      refine d_cons (d_c (by with_unfolding_all rfl) ?_)
      refine d_nil (And.intro (show List.length _ ≤ 100000 by simp) ?_)
      dsimp only
      rotate_left
      refine r_in0 (ss := ["cell", "set"]) ⟨_, rfl, fun e => (by rw [nv] at e; cases e), fun e => ?_⟩
      refine l_lst (d_nil (And.intro (show List.length _ ≤ 100000 by simp) ?_))
      (refine ⟨rfl, ?_⟩)
      refine s_seq (s_for (i_tup (d_slT1 (d_var (by with_unfolding_all rfl) ?_))))
      refine ⟨_, _, rfl, ⟨_, rfl, ?_⟩⟩
      with_reducible refine forW_cons ?_
      refine g_name (s_if (d_tB (d_cb (d_cons (d_var (by with_unfolding_all rfl) ?_)))))
      refine d_cons (d_c (by with_unfolding_all rfl) ?_)
      refine d_nil ?_
      refine c_tup (tg_toD _) ⟨_, rfl, (br_t (by with_unfolding_all rfl) ?_)⟩
      (with_reducible refine s_extDS (i := 1) (by with_unfolding_all rfl) ?_)
      refine d_call (d_cons (d_var (by with_unfolding_all rfl) ?_))
      refine d_nil (m_used (by assumption) (by omega) (by omega) ?_)
      (refine ⟨_, rfl, (by simp; omega), ?_⟩)
      with_reducible refine forW_nil ?_
      (with_reducible refine s_keep (i := 1) (by with_unfolding_all rfl) (s_ret ?_))
      refine d_var (by with_unfolding_all rfl) ?_
      dsimp only
      rotate_left
      exact q
    case op2 v x y =>
      obtain ⟨hv, _, _⟩ := ho
      have nv := (w2_ne v hv).1
      have l1 := lx x
      have l2 := lx y
      refine s_seq (s_ownS [] (l_ifE ?_))
      refine d_test (d_op (d_op (d_var (by with_unfolding_all rfl) ?_)))
      refine d_c (by with_unfolding_all rfl) ?_
      refine r_ix (.inr (r_ixT (by with_unfolding_all rfl) ?_))
      refine d_tup (d_cons (d_c (by with_unfolding_all rfl) ?_))
      refine d_cons (d_c (by with_unfolding_all rfl) ?_)
      refine d_nil (And.intro (show List.length _ ≤ 100000 by simp) ?_)
      dsimp only
      rotate_left
      refine r_in0 (ss := ["cell", "set"]) ⟨_, rfl, fun e => (by rw [nv] at e; cases e), fun e => ?_⟩
      refine l_lst (d_nil (And.intro (show List.length _ ≤ 100000 by simp) ?_))
      (refine ⟨rfl, ?_⟩)
      refine s_seq (s_for (i_tup (d_slT1 (d_var (by with_unfolding_all rfl) ?_))))
      refine ⟨_, _, rfl, ⟨_, rfl, ?_⟩⟩
      with_reducible refine forW_cons ?_
      refine g_name (s_if (d_tB (d_cb (d_cons (d_var (by with_unfolding_all rfl) ?_)))))
      refine d_cons (d_c (by with_unfolding_all rfl) ?_)
      refine d_nil ?_
      refine c_tup (tg_toD _) ⟨_, rfl, (br_t (by with_unfolding_all rfl) ?_)⟩
      (with_reducible refine s_extDS (i := 1) (by with_unfolding_all rfl) ?_)
      refine d_call (d_cons (d_var (by with_unfolding_all rfl) ?_))
      refine d_nil (m_used (by assumption) (by omega) (by omega) ?_)
      (refine ⟨_, rfl, (by simp; omega), ?_⟩)
      with_reducible refine forW_cons ?_
      refine g_name (s_if (d_tB (d_cb (d_cons (d_var (by with_unfolding_all rfl) ?_)))))
      refine d_cons (d_c (by with_unfolding_all rfl) ?_)
      refine d_nil ?_
      refine c_tup (tg_toD _) ⟨_, rfl, (br_t (by with_unfolding_all rfl) ?_)⟩
      (with_reducible refine s_extDS (i := 1) (by with_unfolding_all rfl) ?_)
      refine d_call (d_cons (d_var (by with_unfolding_all rfl) ?_))
      refine d_nil (m_used (by assumption) (by omega) (by omega) ?_)
      (refine ⟨_, rfl, (by simp; omega), ?_⟩)
      with_reducible refine forW_nil ?_
      (with_reducible refine s_keep (i := 1) (by with_unfolding_all rfl) (s_ret ?_))
      refine d_var (by with_unfolding_all rfl) ?_
      dsimp only
      rotate_left
      exact q
    case ite x y z =>
      obtain ⟨_, _, _⟩ := ho
      have l1 := lx x
      have l2 := lx y
      have l3 := lx z
      refine s_seq (s_ownS [] (l_ifE ?_))
      refine d_test (d_op (d_op (d_var (by with_unfolding_all rfl) ?_)))
      refine d_c (by with_unfolding_all rfl) ?_
      refine r_ix (.inr (r_ixT (by with_unfolding_all rfl) ?_))
      refine d_tup (d_cons (d_c (by with_unfolding_all rfl) ?_))
      refine d_cons (d_c (by with_unfolding_all rfl) ?_)
      refine d_nil (And.intro (show List.length _ ≤ 100000 by simp) ?_)
      dsimp only
      rotate_left
      refine r_in0 (ss := ["cell", "set"]) ⟨_, rfl, fun e => absurd e (by decide), fun e => ?_⟩
      refine l_lst (d_nil (And.intro (show List.length _ ≤ 100000 by simp) ?_))
      (refine ⟨rfl, ?_⟩)
      refine s_seq (s_for (i_tup (d_slT1 (d_var (by with_unfolding_all rfl) ?_))))
      refine ⟨_, _, rfl, ⟨_, rfl, ?_⟩⟩
      with_reducible refine forW_cons ?_
      refine g_name (s_if (d_tB (d_cb (d_cons (d_var (by with_unfolding_all rfl) ?_)))))
      refine d_cons (d_c (by with_unfolding_all rfl) ?_)
      refine d_nil ?_
      refine c_tup (tg_toD _) ⟨_, rfl, (br_t (by with_unfolding_all rfl) ?_)⟩
      (with_reducible refine s_extDS (i := 1) (by with_unfolding_all rfl) ?_)
      refine d_call (d_cons (d_var (by with_unfolding_all rfl) ?_))
      refine d_nil (m_used (by assumption) (by omega) (by omega) ?_)
      (refine ⟨_, rfl, (by simp; omega), ?_⟩)
      with_reducible refine forW_cons ?_
      refine g_name (s_if (d_tB (d_cb (d_cons (d_var (by with_unfolding_all rfl) ?_)))))
      refine d_cons (d_c (by with_unfolding_all rfl) ?_)
      refine d_nil ?_
      refine c_tup (tg_toD _) ⟨_, rfl, (br_t (by with_unfolding_all rfl) ?_)⟩
      (with_reducible refine s_extDS (i := 1) (by with_unfolding_all rfl) ?_)
      refine d_call (d_cons (d_var (by with_unfolding_all rfl) ?_))
      refine d_nil (m_used (by assumption) (by omega) (by omega) ?_)
      (refine ⟨_, rfl, (by simp; omega), ?_⟩)
      with_reducible refine forW_cons ?_
      refine g_name (s_if (d_tB (d_cb (d_cons (d_var (by with_unfolding_all rfl) ?_)))))
      refine d_cons (d_c (by with_unfolding_all rfl) ?_)
      refine d_nil ?_
      refine c_tup (tg_toD _) ⟨_, rfl, (br_t (by with_unfolding_all rfl) ?_)⟩
      (with_reducible refine s_extDS (i := 1) (by with_unfolding_all rfl) ?_)
      refine d_call (d_cons (d_var (by with_unfolding_all rfl) ?_))
      refine d_nil (m_used (by assumption) (by omega) (by omega) ?_)
      (refine ⟨_, rfl, (by simp; omega), ?_⟩)
      with_reducible refine forW_nil ?_
      (with_reducible refine s_keep (i := 1) (by with_unfolding_all rfl) (s_ret ?_))
      refine d_var (by with_unfolding_all rfl) ?_
      dsimp only
      rotate_left
      exact q
    all_goals
      refine s_seq (s_ownS [] (l_ifE ?_))
      walk_at "wk"
      refine r_in0 (ss := ["cell", "set"]) ⟨_, rfl, fun e => absurd e (by decide), fun e => ?_⟩
      walk_at "wk"
theorem ok_lcalls (F : DefT K mg "_law_calls" s_law_calls) (zi : mg "isinstance" = none) (zt : mg "tuple" = none) : ∀ n : Nat, Cal P w K mg base (n + 1) "_law_calls" ["_law_body_here"] none (M_lcalls n) := by
  intro n
  induction n with
  | zero =>
    refine okF F sc_law_calls (fun _ _ _ _ _ _ us hl => match us, hl with | [_], _ => rfl) (fun ds k h => ?_) (fun f cdv A outer s H E ds kk hr h => ?_)
    · obtain ⟨_, rfl, _⟩ := h
      rfl
    · obtain ⟨b, _, _, h, _⟩ := h
      have := depth_pos b
      omega
  | succ n ih =>
    have C_law_calls := ih
    refine okF F sc_law_calls (fun _ _ _ _ _ _ us hl => match us, hl with | [_], _ => rfl) (fun ds k h => ?_) (fun f cdv A outer s H E ds kk hr h => ?_)
    · obtain ⟨_, rfl, _⟩ := h
      rfl
    obtain ⟨b, rfl, ho, hd, hz, q⟩ := h
    have T : Unit := ()
    refine ⟨_, (pss_cons (ps_set (i := 1) sc_law_calls.nd rfl (by first | exact Or.inl rfl | exact Or.inr rfl) (pe_ifExp (pt_cmpR op_eq (pe_ix (r := rIx K) ix_seq (pv 0) pe_int (fun _ _ => rfl)) pe_str (nomark _)) (pe_lst (pa_cons (pe_ix (r := rIx K) ix_seq (pv 0) pe_int (fun _ _ => rfl)) pa_nil)) (pe_lst pa_nil)))
      (pss_cons (ps_for PassesOwn.never rfl (pi_tup (pe_slice (r := rSlA K) sl_tupA (pv 0) (po_some pe_int) po_none)) (pg_name (i := 2) sc_law_calls.nd rfl (by first | exact Or.inl rfl | exact Or.inr rfl)) (pss_one (ps_if (pt_val (pe_callB (r := rIsi K) (id := "isinstance")  call_isi (by rfl) zi (by decide +kernel) (pa_cons (pv 2) (pa_cons (pe_bty (n := "tuple") rfl zt (by decide +kernel)) pa_nil)))) (pss_one (ps_expr (pe_bm PySem.F.plainAttrs_list PySem.F.slot_list_extend PySem.F.type_list_extend mt_extend (pv 1) (pa_cons (pe_lc (own := [("_law_deed", 3)]) (g := gName 3) rfl sc_law_calls.nd (pi_list (pe_calK (K := K) rfl C_law_calls (hr.mono (by first | decide | omega)) rfl (pa_cons (pv 2) pa_nil))) (blkOk_by (own := [("_law_deed", 3)]) (N := N_law_calls) (sc := defScope s_law_calls) (by decide +kernel)) (fun _ _ _ _ _ => (pg_name (i := 3) sc_law_calls.nd rfl (by first | exact Or.inl rfl | exact Or.inr rfl))) (fun _ _ _ _ _ => (pts_one (pt_cmpR (r := rIn K true) op_notIn_seq (pv 3) (pv 1) rfl))) (fun _ _ _ _ _ => (pv 3))) pa_nil)))) pss_nil)))
      (pss_one (ps_ret (pv 1))))), ?_⟩
    try dsimp only [cxOf]
    change dS _ _ _ [Sl.d _, Sl.un, Sl.un, Sl.un] _
    have lx := called_len
    cases b <;> simp only [B.depth] at hd <;> simp only [B.size] at hz <;> (try simp only [B.ok] at ho) <;> dsimp only [B.toD] <;> dsimp only [B.called] at q
    case call c x =>
      obtain ⟨_, _⟩ := ho
      have lx_ := lx x
      have f1 := addNew_len [c] x.called
      have f2 := f1
      have f3 := f1
      dsimp only [List.length_cons, List.length_nil] at f1 f2 f3
      refine s_seq (s_ownS [c] (l_ifE ?_))
      refine d_test (d_op (d_op (d_var (by with_unfolding_all rfl) ?_)))
      refine d_c (by with_unfolding_all rfl) ?_
      refine r_ix (.inr (r_ixT (by with_unfolding_all rfl) ?_))
      refine d_c (by with_unfolding_all rfl) ?_
      refine r_eqS ⟨_, rfl, (br_t (by with_unfolding_all rfl) ?_)⟩
      refine l_lst (d_cons (d_op (d_var (by with_unfolding_all rfl) ?_)))
      refine d_c (by with_unfolding_all rfl) ?_
      refine r_ix (.inr (r_ixT (by with_unfolding_all rfl) ?_))
      refine d_nil (And.intro (show List.length _ ≤ 100000 by simp) ?_)
      (refine ⟨rfl, ?_⟩)
      refine s_seq (s_for (i_tup (d_slT1 (d_var (by with_unfolding_all rfl) ?_))))
      refine ⟨_, _, rfl, ⟨_, rfl, ?_⟩⟩
      with_reducible refine forW_cons ?_
      refine g_name (s_if (d_tB (d_cb (d_cons (d_var (by with_unfolding_all rfl) ?_)))))
      refine d_cons (d_c (by with_unfolding_all rfl) ?_)
      refine d_nil (c_tup (by with_unfolding_all rfl) ?_)
      refine ⟨_, rfl, (br_f (by with_unfolding_all rfl) ?_)⟩
      refine s_next ?_
      with_reducible refine forW_cons ?_
      refine g_name (s_if (d_tB (d_cb (d_cons (d_var (by with_unfolding_all rfl) ?_)))))
      refine d_cons (d_c (by with_unfolding_all rfl) ?_)
      refine d_nil ?_
      refine c_tup (tg_toD _) ⟨_, rfl, (br_t (by with_unfolding_all rfl) ?_)⟩
      (with_reducible refine s_extDS (i := 1) (by with_unfolding_all rfl) ?_)
      refine d_lc (i_list (d_call (d_cons (d_var (by with_unfolding_all rfl) ?_))))
      refine d_nil (m_lcalls (by assumption) (by omega) (by omega) ?_)
      refine ⟨_, rfl, ?_⟩
      dsimp only
      rotate_left
      refine ⟨by rw [strsOf, List.length_map]; omega, ?_⟩
      refine lcW_txt _ (fun s kk hk => g_nameV (by decide) (hk _ (fun kb h => d_test (d_nin1 (i := 1) (by with_unfolding_all rfl) (d_var (by with_unfolding_all rfl) ⟨s, rfl, _, rfl, h⟩))) (fun _ k h => d_var (by with_unfolding_all rfl) h))) _ [] ⟨_, rfl, (by rw [← List.length_append]; first | exact Nat.le_trans f1 (by omega) | exact Nat.le_trans f2 (by omega) | exact Nat.le_trans f3 (by omega)), ?_⟩
      with_reducible refine forW_nil ?_
      (with_reducible refine s_keep (i := 1) (by with_unfolding_all rfl) (s_ret ?_))
      refine d_var (by with_unfolding_all rfl) ?_
      dsimp only
      rotate_left
      exact q
    case set c x =>
      obtain ⟨_, _⟩ := ho
      have lx_ := lx x
      have f1 := addNew_len [] x.called
      have f2 := f1
      have f3 := f1
      rw [List.length_nil] at f1
      refine s_seq (s_ownS [] (l_ifE ?_))
      refine d_test (d_op (d_op (d_var (by with_unfolding_all rfl) ?_)))
      refine d_c (by with_unfolding_all rfl) ?_
      refine r_ix (.inr (r_ixT (by with_unfolding_all rfl) ?_))
      refine d_c (by with_unfolding_all rfl) ?_
      refine r_eqS ⟨_, rfl, (br_f (by with_unfolding_all rfl) ?_)⟩
      refine l_lst (d_nil (And.intro (show List.length _ ≤ 100000 by simp) ?_))
      (refine ⟨rfl, ?_⟩)
      refine s_seq (s_for (i_tup (d_slT1 (d_var (by with_unfolding_all rfl) ?_))))
      refine ⟨_, _, rfl, ⟨_, rfl, ?_⟩⟩
      with_reducible refine forW_cons ?_
      refine g_name (s_if (d_tB (d_cb (d_cons (d_var (by with_unfolding_all rfl) ?_)))))
      refine d_cons (d_c (by with_unfolding_all rfl) ?_)
      refine d_nil (c_tup (by with_unfolding_all rfl) ?_)
      refine ⟨_, rfl, (br_f (by with_unfolding_all rfl) ?_)⟩
      refine s_next ?_
      with_reducible refine forW_cons ?_
      refine g_name (s_if (d_tB (d_cb (d_cons (d_var (by with_unfolding_all rfl) ?_)))))
      refine d_cons (d_c (by with_unfolding_all rfl) ?_)
      refine d_nil ?_
      refine c_tup (tg_toD _) ⟨_, rfl, (br_t (by with_unfolding_all rfl) ?_)⟩
      (with_reducible refine s_extDS (i := 1) (by with_unfolding_all rfl) ?_)
      refine d_lc (i_list (d_call (d_cons (d_var (by with_unfolding_all rfl) ?_))))
      refine d_nil (m_lcalls (by assumption) (by omega) (by omega) ?_)
      refine ⟨_, rfl, ?_⟩
      dsimp only
      rotate_left
      refine ⟨by rw [strsOf, List.length_map]; omega, ?_⟩
      refine lcW_txt _ (fun s kk hk => g_nameV (by decide) (hk _ (fun kb h => d_test (d_nin1 (i := 1) (by with_unfolding_all rfl) (d_var (by with_unfolding_all rfl) ⟨s, rfl, _, rfl, h⟩))) (fun _ k h => d_var (by with_unfolding_all rfl) h))) _ [] ⟨_, rfl, (by rw [← List.length_append]; first | exact Nat.le_trans f1 (by omega) | exact Nat.le_trans f2 (by omega) | exact Nat.le_trans f3 (by omega)), ?_⟩
      with_reducible refine forW_nil ?_
      (with_reducible refine s_keep (i := 1) (by with_unfolding_all rfl) (s_ret ?_))
      refine d_var (by with_unfolding_all rfl) ?_
      dsimp only
      rotate_left
      exact q
    case op1 v x =>
      obtain ⟨hv, _⟩ := ho
      have lx_ := lx x
      have f1 := addNew_len [] x.called
      have f2 := f1
      have f3 := f1
      rw [List.length_nil] at f1
      refine s_seq (s_ownS [] (l_ifE ?_))
      have nv := (w1_ne v hv).2
      refine d_test (d_op (d_op (d_var (by with_unfolding_all rfl) ?_)))
      refine d_c (by with_unfolding_all rfl) ?_
      refine r_ix (.inr (r_ixT (by with_unfolding_all rfl) ?_))
      refine d_c (by with_unfolding_all rfl) ?_
      refine r_eqS ⟨_, rfl, (br_f (by assumption) ?_)⟩
      refine l_lst (d_nil (And.intro (show List.length _ ≤ 100000 by simp) ?_))
      (refine ⟨rfl, ?_⟩)
      refine s_seq (s_for (i_tup (d_slT1 (d_var (by with_unfolding_all rfl) ?_))))
      refine ⟨_, _, rfl, ⟨_, rfl, ?_⟩⟩
      with_reducible refine forW_cons ?_
      refine g_name (s_if (d_tB (d_cb (d_cons (d_var (by with_unfolding_all rfl) ?_)))))
      refine d_cons (d_c (by with_unfolding_all rfl) ?_)
      refine d_nil ?_
      refine c_tup (tg_toD _) ⟨_, rfl, (br_t (by with_unfolding_all rfl) ?_)⟩
      (with_reducible refine s_extDS (i := 1) (by with_unfolding_all rfl) ?_)
      refine d_lc (i_list (d_call (d_cons (d_var (by with_unfolding_all rfl) ?_))))
      refine d_nil (m_lcalls (by assumption) (by omega) (by omega) ?_)
      refine ⟨_, rfl, ?_⟩
      dsimp only
      rotate_left
      all_goals try (exfalso; rename_i e; rw [nv] at e; cases e; done)
      refine ⟨by rw [strsOf, List.length_map]; omega, ?_⟩
      refine lcW_txt _ (fun s kk hk => g_nameV (by decide) (hk _ (fun kb h => d_test (d_nin1 (i := 1) (by with_unfolding_all rfl) (d_var (by with_unfolding_all rfl) ⟨s, rfl, _, rfl, h⟩))) (fun _ k h => d_var (by with_unfolding_all rfl) h))) _ [] ⟨_, rfl, (by rw [← List.length_append]; first | exact Nat.le_trans f1 (by omega) | exact Nat.le_trans f2 (by omega) | exact Nat.le_trans f3 (by omega)), ?_⟩
      with_reducible refine forW_nil ?_
      (with_reducible refine s_keep (i := 1) (by with_unfolding_all rfl) (s_ret ?_))
      refine d_var (by with_unfolding_all rfl) ?_
      dsimp only
      rotate_left
      exact q
    case op2 v x y =>
      obtain ⟨hv, _, _⟩ := ho
      have lx_ := lx x
      have ly_ := lx y
      have f1 := addNew_len [] x.called
      have f2 := addNew_len (addNew [] x.called) y.called
      have f3 := f1
      rw [List.length_nil] at f1
      refine s_seq (s_ownS [] (l_ifE ?_))
      have nv := (w2_ne v hv).2
      refine d_test (d_op (d_op (d_var (by with_unfolding_all rfl) ?_)))
      refine d_c (by with_unfolding_all rfl) ?_
      refine r_ix (.inr (r_ixT (by with_unfolding_all rfl) ?_))
      refine d_c (by with_unfolding_all rfl) ?_
      refine r_eqS ⟨_, rfl, (br_f (by assumption) ?_)⟩
      refine l_lst (d_nil (And.intro (show List.length _ ≤ 100000 by simp) ?_))
      (refine ⟨rfl, ?_⟩)
      refine s_seq (s_for (i_tup (d_slT1 (d_var (by with_unfolding_all rfl) ?_))))
      refine ⟨_, _, rfl, ⟨_, rfl, ?_⟩⟩
      with_reducible refine forW_cons ?_
      refine g_name (s_if (d_tB (d_cb (d_cons (d_var (by with_unfolding_all rfl) ?_)))))
      refine d_cons (d_c (by with_unfolding_all rfl) ?_)
      refine d_nil ?_
      refine c_tup (tg_toD _) ⟨_, rfl, (br_t (by with_unfolding_all rfl) ?_)⟩
      (with_reducible refine s_extDS (i := 1) (by with_unfolding_all rfl) ?_)
      refine d_lc (i_list (d_call (d_cons (d_var (by with_unfolding_all rfl) ?_))))
      refine d_nil (m_lcalls (by assumption) (by omega) (by omega) ?_)
      refine ⟨_, rfl, ?_⟩
      dsimp only
      rotate_left
      all_goals try (exfalso; rename_i e; rw [nv] at e; cases e; done)
      refine ⟨by rw [strsOf, List.length_map]; omega, ?_⟩
      refine lcW_txt _ (fun s kk hk => g_nameV (by decide) (hk _ (fun kb h => d_test (d_nin1 (i := 1) (by with_unfolding_all rfl) (d_var (by with_unfolding_all rfl) ⟨s, rfl, _, rfl, h⟩))) (fun _ k h => d_var (by with_unfolding_all rfl) h))) _ [] ⟨_, rfl, (by rw [← List.length_append]; first | exact Nat.le_trans f1 (by omega) | exact Nat.le_trans f2 (by omega) | exact Nat.le_trans f3 (by omega)), ?_⟩
      with_reducible refine forW_cons ?_
      refine g_name (s_if (d_tB (d_cb (d_cons (d_var (by with_unfolding_all rfl) ?_)))))
      refine d_cons (d_c (by with_unfolding_all rfl) ?_)
      refine d_nil ?_
      refine c_tup (tg_toD _) ⟨_, rfl, (br_t (by with_unfolding_all rfl) ?_)⟩
      (with_reducible refine s_extDS (i := 1) (by with_unfolding_all rfl) ?_)
      refine d_lc (i_list (d_call (d_cons (d_var (by with_unfolding_all rfl) ?_))))
      refine d_nil (m_lcalls (by assumption) (by omega) (by omega) ?_)
      refine ⟨_, rfl, ?_⟩
      dsimp only
      rotate_left
      refine ⟨by rw [strsOf, List.length_map]; omega, ?_⟩
      refine lcW_txt _ (fun s kk hk => g_nameV (by decide) (hk _ (fun kb h => d_test (d_nin1 (i := 1) (by with_unfolding_all rfl) (d_var (by with_unfolding_all rfl) ⟨s, rfl, _, rfl, h⟩))) (fun _ k h => d_var (by with_unfolding_all rfl) h))) _ [] ⟨_, rfl, (by rw [← List.length_append]; first | exact Nat.le_trans f1 (by omega) | exact Nat.le_trans f2 (by omega) | exact Nat.le_trans f3 (by omega)), ?_⟩
      with_reducible refine forW_nil ?_
      (with_reducible refine s_keep (i := 1) (by with_unfolding_all rfl) (s_ret ?_))
      refine d_var (by with_unfolding_all rfl) ?_
      dsimp only
      rotate_left
      exact q
    case ite x y z =>
      obtain ⟨_, _, _⟩ := ho
      have lx_ := lx x
      have ly_ := lx y
      have lz_ := lx z
      have f1 := addNew_len [] x.called
      have f2 := addNew_len (addNew [] x.called) y.called
      have f3 := addNew_len (addNew (addNew [] x.called) y.called) z.called
      rw [List.length_nil] at f1
      refine s_seq (s_ownS [] (l_ifE ?_))
      refine d_test (d_op (d_op (d_var (by with_unfolding_all rfl) ?_)))
      refine d_c (by with_unfolding_all rfl) ?_
      refine r_ix (.inr (r_ixT (by with_unfolding_all rfl) ?_))
      refine d_c (by with_unfolding_all rfl) ?_
      refine r_eqS ⟨_, rfl, (br_f (by with_unfolding_all rfl) ?_)⟩
      refine l_lst (d_nil (And.intro (show List.length _ ≤ 100000 by simp) ?_))
      (refine ⟨rfl, ?_⟩)
      refine s_seq (s_for (i_tup (d_slT1 (d_var (by with_unfolding_all rfl) ?_))))
      refine ⟨_, _, rfl, ⟨_, rfl, ?_⟩⟩
      with_reducible refine forW_cons ?_
      refine g_name (s_if (d_tB (d_cb (d_cons (d_var (by with_unfolding_all rfl) ?_)))))
      refine d_cons (d_c (by with_unfolding_all rfl) ?_)
      refine d_nil ?_
      refine c_tup (tg_toD _) ⟨_, rfl, (br_t (by with_unfolding_all rfl) ?_)⟩
      (with_reducible refine s_extDS (i := 1) (by with_unfolding_all rfl) ?_)
      refine d_lc (i_list (d_call (d_cons (d_var (by with_unfolding_all rfl) ?_))))
      refine d_nil (m_lcalls (by assumption) (by omega) (by omega) ?_)
      refine ⟨_, rfl, ?_⟩
      dsimp only
      rotate_left
      refine ⟨by rw [strsOf, List.length_map]; omega, ?_⟩
      refine lcW_txt _ (fun s kk hk => g_nameV (by decide) (hk _ (fun kb h => d_test (d_nin1 (i := 1) (by with_unfolding_all rfl) (d_var (by with_unfolding_all rfl) ⟨s, rfl, _, rfl, h⟩))) (fun _ k h => d_var (by with_unfolding_all rfl) h))) _ [] ⟨_, rfl, (by rw [← List.length_append]; first | exact Nat.le_trans f1 (by omega) | exact Nat.le_trans f2 (by omega) | exact Nat.le_trans f3 (by omega)), ?_⟩
      with_reducible refine forW_cons ?_
      refine g_name (s_if (d_tB (d_cb (d_cons (d_var (by with_unfolding_all rfl) ?_)))))
      refine d_cons (d_c (by with_unfolding_all rfl) ?_)
      refine d_nil ?_
      refine c_tup (tg_toD _) ⟨_, rfl, (br_t (by with_unfolding_all rfl) ?_)⟩
      (with_reducible refine s_extDS (i := 1) (by with_unfolding_all rfl) ?_)
      refine d_lc (i_list (d_call (d_cons (d_var (by with_unfolding_all rfl) ?_))))
      refine d_nil (m_lcalls (by assumption) (by omega) (by omega) ?_)
      refine ⟨_, rfl, ?_⟩
      dsimp only
      rotate_left
      refine ⟨by rw [strsOf, List.length_map]; omega, ?_⟩
      refine lcW_txt _ (fun s kk hk => g_nameV (by decide) (hk _ (fun kb h => d_test (d_nin1 (i := 1) (by with_unfolding_all rfl) (d_var (by with_unfolding_all rfl) ⟨s, rfl, _, rfl, h⟩))) (fun _ k h => d_var (by with_unfolding_all rfl) h))) _ [] ⟨_, rfl, (by rw [← List.length_append]; first | exact Nat.le_trans f1 (by omega) | exact Nat.le_trans f2 (by omega) | exact Nat.le_trans f3 (by omega)), ?_⟩
      with_reducible refine forW_cons ?_
      refine g_name (s_if (d_tB (d_cb (d_cons (d_var (by with_unfolding_all rfl) ?_)))))
      refine d_cons (d_c (by with_unfolding_all rfl) ?_)
      refine d_nil ?_
      refine c_tup (tg_toD _) ⟨_, rfl, (br_t (by with_unfolding_all rfl) ?_)⟩
      (with_reducible refine s_extDS (i := 1) (by with_unfolding_all rfl) ?_)
      refine d_lc (i_list (d_call (d_cons (d_var (by with_unfolding_all rfl) ?_))))
      refine d_nil (m_lcalls (by assumption) (by omega) (by omega) ?_)
      refine ⟨_, rfl, ?_⟩
      dsimp only
      rotate_left
      refine ⟨by rw [strsOf, List.length_map]; omega, ?_⟩
      refine lcW_txt _ (fun s kk hk => g_nameV (by decide) (hk _ (fun kb h => d_test (d_nin1 (i := 1) (by with_unfolding_all rfl) (d_var (by with_unfolding_all rfl) ⟨s, rfl, _, rfl, h⟩))) (fun _ k h => d_var (by with_unfolding_all rfl) h))) _ [] ⟨_, rfl, (by rw [← List.length_append]; first | exact Nat.le_trans f1 (by omega) | exact Nat.le_trans f2 (by omega) | exact Nat.le_trans f3 (by omega)), ?_⟩
      with_reducible refine forW_nil ?_
      (with_reducible refine s_keep (i := 1) (by with_unfolding_all rfl) (s_ret ?_))
      refine d_var (by with_unfolding_all rfl) ?_
      dsimp only
      rotate_left
      exact q
    all_goals
      refine s_seq (s_ownS [] (l_ifE ?_))
      walk_at "wk"
end
end Pr
set_option Elab.async false
set_option linter.all false
set_option maxRecDepth 100000
set_option maxHeartbeats 2000000
namespace Pr
open PySem L2 PD
local macro_rules | `(tactic| walk_at "d1") => `(tactic| (first
  | with_reducible refine s_seq ?_ | with_reducible refine s_ret ?_ | with_reducible refine s_if ?_
  | with_reducible refine d_var (by with_unfolding_all rfl) ?_ | with_reducible refine d_cK (by assumption) ?_ | with_reducible refine d_c (by with_unfolding_all rfl) ?_
  | with_reducible refine d_op ?_ | with_reducible refine d_test ?_ | with_reducible refine d_cons ?_ | with_reducible refine d_nil ?_ | with_reducible refine d_cb ?_ | with_reducible refine d_call ?_ | with_reducible refine d_callP ?_ | with_reducible refine d_callV (fun _ => RelL.cons Rel.int RelL.nil) ?_
  | with_reducible refine br_t (by assumption) ?_ | with_reducible refine br_f (by assumption) ?_ | with_reducible refine br_t (by with_unfolding_all rfl) ?_ | with_reducible refine br_f (by with_unfolding_all rfl) ?_
  | with_reducible refine ⟨_, rfl, ?_⟩ | with_reducible refine ⟨_, _, rfl, ?_⟩ | with_reducible refine ⟨_, _, _, _, rfl, ?_⟩ | with_reducible refine ⟨_, rfl, ?_, ?_⟩
  | with_reducible refine r_I0 (by with_unfolding_all rfl) ?_ | with_reducible refine r_eqS ?_ | with_reducible refine r_eqI ?_ | with_reducible refine r_neI ?_ | with_reducible refine r_neS ?_ | with_reducible refine r_isN ?_ | with_reducible refine r_notN ?_ | with_reducible refine r_in0 ?_ | with_reducible refine r_in1 ?_ | with_reducible refine r_in2 ?_ | with_reducible refine r_in3 ?_ | with_reducible refine s_setD ?_ | with_reducible refine d_dc ?_
  | with_reducible refine r_ix (.inr (r_ixT (by with_unfolding_all rfl) ?_)) | with_reducible refine r_ix (.inl (r_ixL (by with_unfolding_all rfl) ?_)) | with_reducible refine c_lenS (.inr rfl) ?_ | with_reducible refine c_lenS (.inl rfl) ?_
  | with_reducible refine s_next ?_ | with_reducible refine d_andV ?_ | with_reducible refine d_orV ?_ | with_reducible refine d_notV ?_
  | with_reducible refine d_un ?_ | with_reducible refine d_tB ?_ | with_reducible refine d_and ?_ | with_reducible refine d_or ?_ | with_reducible refine d_not ?_
  | with_reducible refine d_yes ?_ | with_reducible refine d_ifE ?_
  | with_reducible refine d_tup ?_ | with_reducible refine d_lst ?_ | with_reducible refine d_slT1 ?_ | with_reducible refine d_slT3 ?_ | with_reducible refine d_slT13 ?_ | with_reducible refine d_slT ?_ | with_reducible refine o_no ?_ | with_reducible refine o_part ?_ | with_reducible refine d_chain ?_ | with_reducible refine d_truth ?_
  | with_reducible refine s_setL ?_ | with_reducible refine s_set ?_ | with_reducible refine s_for ?_ | with_reducible refine i_zipT ?_ | with_reducible refine i_tup ?_ | with_reducible refine i_list ?_
  | with_reducible refine g_name ?_ | with_reducible refine g_nameV (by decide) ?_ | with_reducible refine gs_cons ?_ | with_reducible refine gs_nil ?_ | ((with_reducible refine g_tid ?_); refine g_tup rfl ?_) | with_reducible refine s_aug (by with_unfolding_all rfl) ?_ | with_reducible refine s_asg ?_ | with_reducible refine s_drop ?_
  | with_reducible refine d_callLP (by with_unfolding_all rfl) ?_ | with_reducible refine d_lc ?_ | with_reducible refine forW_cons ?_ | with_reducible refine forW_nil ?_ | ((with_reducible refine forW_id ?_); refine forW_pair ?_) | ((with_reducible refine forW_id ?_); refine forW_pnil ?_) | with_reducible refine lcW_cons ?_ | with_reducible refine lcW_nil ?_
  | with_reducible refine d_dget ?_ | with_reducible refine d_dget1 ?_ | with_reducible refine d_dget2 ?_ | with_reducible refine d_kget ?_
  | with_reducible refine r_eq (by with_unfolding_all rfl) (by with_unfolding_all rfl) (by with_unfolding_all rfl) ?_ | with_reducible refine r_ne (by with_unfolding_all rfl) (by with_unfolding_all rfl) (by with_unfolding_all rfl) ?_
  | with_reducible refine u_I (by with_unfolding_all rfl) ?_
  | with_reducible refine c_bool (by with_unfolding_all rfl) ?_ | with_reducible refine c_int (by with_unfolding_all rfl) ?_ | with_reducible refine c_str (by with_unfolding_all rfl) ?_ | with_reducible refine c_tup (by with_unfolding_all rfl) ?_ | with_reducible refine c_lst (by with_unfolding_all rfl) ?_
  | with_reducible refine And.intro (show List.length _ ≤ 100000 by simp) ?_ | with_reducible refine truOk_tup ?_ | with_reducible refine truOk_lst ?_ | with_reducible assumption | with_reducible refine ⟨fun _ => ?_, fun _ => ?_⟩ | dsimp only | fail "stop"))
local macro_rules | `(tactic| walk_at "d") => `(tactic| repeat' walk_at "d1")

abbrev s_law_deep : Stmt := top 52
abbrev N_law_deep : List Str := ["_law_body_here", "_law_arm"]
theorem sc_law_deep : FnScope N_law_deep ["_law_body_here"] (defScope s_law_deep) := ⟨rfl, rfl, rfl, by decide +kernel, rfl, by decide +kernel, by decide +kernel⟩

section
variable {P : Program} {w : World} {K : PySem.W.Frag} {mg : Str → Option Value} {base : Heap}
def M_deep (n : Nat) : List D → (D → Prop) → Prop := fun ds k => ∃ b : B, ds = [b.toD] ∧ b.depth ≤ n ∧ k (.int (b.depth : Nat))
theorem m_deep {n : Nat} {b : B} {k : D → Prop} (h1 : b.depth ≤ n) (h : k (.int (b.depth : Nat))) : M_deep n [b.toD] k := ⟨b, rfl, h1, h⟩
theorem ok_deep (F : DefT K mg "_law_deep" s_law_deep) (zs : mg "max" = none) (zi : mg "isinstance" = none) (zt : mg "tuple" = none) : ∀ n : Nat, Cal P w K mg base (n + 1) "_law_deep" ["_law_body_here"] none (M_deep n) := by
  intro n
  induction n with
  | zero =>
    refine okF F sc_law_deep (fun _ _ _ _ _ _ us hl => match us, hl with | [_], _ => rfl) (fun ds k h => ?_) (fun f cdv A outer s H E ds kk hr h => ?_)
    · obtain ⟨_, rfl, _⟩ := h
      rfl
    · obtain ⟨b, _, h, _⟩ := h
      have := depth_pos b
      omega
  | succ n ih =>
    have C_law_deep := ih
    refine okF F sc_law_deep (fun _ _ _ _ _ _ us hl => match us, hl with | [_], _ => rfl) (fun ds k h => ?_) (fun f cdv A outer s H E ds kk hr h => ?_)
    · obtain ⟨_, rfl, _⟩ := h
      rfl
    obtain ⟨b, rfl, hd, q⟩ := h
    have T : Unit := ()
    refine ⟨_, (pss_one (ps_ret (pe_op op_add pe_int (pe_callBK (id := "max") (r := PD.rMaxDf K) (PD.cr_maxDf rfl hr.units) (by rfl) zs (by decide +kernel) (pa_cons (pe_lc (own := [("_law_arm", 1)]) (g := gName 1) rfl sc_law_deep.nd (pi_tup (pv 0)) (blkOk_by (own := [("_law_arm", 1)]) (N := N_law_deep) (sc := defScope s_law_deep) (by decide +kernel)) (fun _ _ _ _ _ => (pg_name (i := 1) sc_law_deep.nd rfl (by first | exact Or.inl rfl | exact Or.inr rfl))) (fun _ _ _ _ _ => (pts_one (pt_val (pe_callB (r := rIsi K) (id := "isinstance")  call_isi (by rfl) zi (by decide +kernel) (pa_cons (pv 1) (pa_cons (pe_bty (n := "tuple") rfl zt (by decide +kernel)) pa_nil)))))) (fun _ _ _ _ _ => (pe_calK (K := K) rfl C_law_deep (hr.mono (by first | decide | omega)) rfl (pa_cons (pv 1) pa_nil)))) pa_nil) (pk_cons pe_int pk_nil))))), ?_⟩
    try dsimp only [cxOf]
    change dS _ _ _ [Sl.d _, Sl.un] _
    have fin : ∀ {i j : Int}, kk (.int i) → i = j → kk (.int j) := fun h e => e ▸ h
    cases b <;> simp only [B.depth] at hd <;> dsimp only [B.toD]
    all_goals (repeat' (first | with_reducible refine m_deep (by omega) ?_ | refine c_tup (tg_toD _) ?_ | (refine ⟨(show _ ≤ 50000 by simp), ?_⟩) | refine d_maxDf ?_ | walk_at "d1" | fail "x"))
    all_goals first
      | exact ⟨[], 0, rfl, rfl, r_I0 rfl (fin q (by simp [B.depth, bigOf]))⟩
      | exact ⟨[_], 0, rfl, rfl, r_I0 rfl (fin q (by simp [B.depth, bigOf]; omega))⟩
      | exact ⟨[_, _], 0, rfl, rfl, r_I0 rfl (fin q (by simp [B.depth, bigOf]; omega))⟩
      | exact ⟨[_, _, _], 0, rfl, rfl, r_I0 rfl (fin q (by simp [B.depth, bigOf]; omega))⟩
      | trace_state
end
end Pr
set_option Elab.async false
set_option linter.all false
set_option maxRecDepth 100000
set_option maxHeartbeats 2000000
namespace Pr
open PySem L2 PD
abbrev s_law_wrapped : Stmt := top 54
abbrev N_law_wrapped : List Str := ["_law_h", "_law_body_here", "_law_step"]
theorem sc_law_wrapped : FnScope N_law_wrapped ["_law_h", "_law_body_here"] (defScope s_law_wrapped) := ⟨rfl, rfl, rfl, by decide +kernel, rfl, by decide +kernel, by decide +kernel⟩

abbrev s_law_spoilt : Stmt := top 51
abbrev N_law_spoilt : List Str := ["_law_h", "_law_body_here", "_law_arms", "_law_k", "_law_some"]
theorem sc_law_spoilt : FnScope N_law_spoilt ["_law_h", "_law_body_here"] (defScope s_law_spoilt) := ⟨rfl, rfl, rfl, by decide +kernel, rfl, by decide +kernel, by decide +kernel⟩

def fitB (b : B) : Prop := b.ok ∧ b.depth ≤ 10 ∧ b.size ≤ 60
section
variable {P : Program} {w : World} {K : PySem.W.Frag} {mg : Str → Option Value} {base : Heap}
def M_wrapped (ah : Addr) : List D → (D → Prop) → Prop := fun ds k => ∃ b : B, ds = [.adr ah, b.toD] ∧ fitB b ∧ ∀ c : B, fitB c → k c.toD
theorem ok_wrapped {ah as : Addr} (F : DefT K mg "_law_wrapped" s_law_wrapped) (zr : mg "range" = none) (zn : mg "int" = none) (C_law_next : Cal P w K mg base 1 "_law_next" ["_law_h", "_law_many"] (some (ah, as)) (M_next ah))
    (C_law_deep : Cal P w K mg base 11 "_law_deep" ["_law_body_here"] none (M_deep 10)) (C_law_big : Cal P w K mg base 11 "_law_big" ["_law_body_here"] none (M_big 10)) :
    Cal P w K mg base 12 "_law_wrapped" ["_law_h", "_law_body_here"] (some (ah, as)) (M_wrapped ah) := by
  refine okF F sc_law_wrapped (fun _ _ _ _ _ _ us hl => match us, hl with | [_, _], _ => rfl) (fun ds k h => ?_) (fun f cdv A outer s H E ds kk hr h => ?_)
  · obtain ⟨_, rfl, _⟩ := h
    rfl
  obtain ⟨b, rfl, hb, q⟩ := h
  refine ⟨_, (pss_cons (ps_for PassesOwn.never rfl (pi_range1 rfl zr (pa_cons (pe_ix (r := rIx K) ix_seq (pe_lst (pa_cons pe_int (pa_cons pe_int pa_nil))) (pe_callTy  call_int1 (by rfl) zn (by decide +kernel) (pa_cons (pe_cmpR op_eq (pe_calK (K := K) rfl C_law_next (hr.mono (by first | decide | omega)) rfl (pa_cons (pv 0) (pa_cons pe_int pa_nil))) pe_int (nomark _)) pa_nil)) (fun _ _ => rfl)) pa_nil)) (pg_name (i := 2) sc_law_wrapped.nd rfl (by first | exact Or.inl rfl | exact Or.inr rfl)) (pss_one (ps_if (PW.pt (pw_and (pt_cmpR op_lt (pe_calK (K := K) rfl C_law_deep (hr.mono (by first | decide | omega)) rfl (pa_cons (pv 1) pa_nil)) pe_int (nomark _)) (pw_and1 (pt_cmpR op_lt (pe_calK (K := K) rfl C_law_big (hr.mono (by first | decide | omega)) rfl (pa_cons (pv 1) pa_nil)) pe_int (nomark _))))) (pss_one (ps_set (i := 1) sc_law_wrapped.nd rfl (by first | exact Or.inl rfl | exact Or.inr rfl) (pe_tup (pa_cons pe_str (pa_cons (pe_tup (pa_cons pe_str pa_nil)) (pa_cons (pv 1) pa_nil)))))) pss_nil)))
      (pss_one (ps_ret (pv 1)))), ?_⟩
  try dsimp only [cxOf]
  change dS _ _ _ [Sl.d _, Sl.d _, Sl.un] _
  refine s_seq (s_for (i_range1 ?_))
  refine d_cons (d_op (d_lst (d_cons (d_c (by with_unfolding_all rfl) ?_))))
  refine d_cons (d_c (by with_unfolding_all rfl) ?_)
  refine d_nil (And.intro (show List.length _ ≤ 100000 by simp) ?_)
  refine d_cb (d_cons (d_op (d_call (d_cons (d_var (by with_unfolding_all rfl) ?_)))))
  refine d_cons (d_c (by with_unfolding_all rfl) ?_)
  refine d_nil ?_
  dsimp only
  rotate_left
  refine m_next (by decide) (by decide) fun r r0 r1 => ?_
  refine d_c (by with_unfolding_all rfl) ?_
  refine r_eqI (d_nil ?_)
  rotate_left
  refine c_int1 ?_
  skip
  refine r_pick (by split <;> omega) (by split <;> decide) fun d hd => ?_
  have hd : ∃ n : Int, d = .int n ∧ 0 ≤ n ∧ n ≤ 9 := by
    simp only [List.mem_cons, List.not_mem_nil, or_false] at hd
    rcases hd with rfl | rfl
    · exact ⟨0, rfl, by omega, by omega⟩
    · exact ⟨9, rfl, by omega, by omega⟩
  obtain ⟨n, rfl, n0, n9⟩ := hd
  refine d_nil ⟨n, rfl, by omega, by omega, ?_⟩
  refine forW_inv (fun _ ρ' => ∃ (c : B) (s2 : Sl), fitB c ∧ ρ' = [.d (.adr ah), .d c.toD, s2]) (fun ρ' h => ?_) (fun d r ρ' h => ?_) _ _ ⟨b, _, hb, rfl⟩
  · obtain ⟨c, s2, hc, rfl⟩ := h
    exact s_ret (d_var rfl (q c hc))
  · obtain ⟨c, s2, hc, rfl⟩ := h
    obtain ⟨h1, h2, h3⟩ := id hc
    refine g_name (s_if ?_)
    refine d_and (d_test (d_op (d_callP (d_cons (d_var (by with_unfolding_all rfl) ?_)))))
    refine d_nil (m_deep h2 (d_c (by with_unfolding_all rfl) ?_))
    refine r_I0 (by with_unfolding_all rfl) ?_
    refine ⟨_, rfl, ⟨fun _ => (d_test (d_op (d_callP (d_cons (d_var (by with_unfolding_all rfl) ?_))))), fun _ => (br_f (by with_unfolding_all rfl) ?_)⟩⟩
    refine d_nil (m_big h2 (d_c (by with_unfolding_all rfl) ?_))
    refine r_I0 (by with_unfolding_all rfl) ?_
    refine ⟨_, rfl, ⟨fun _ => (s_set (d_tup (d_cons (d_c (by with_unfolding_all rfl) ?_)))), fun _ => (s_next ?_)⟩⟩
    refine d_cons (d_tup (d_cons (d_c (by with_unfolding_all rfl) ?_)))
    refine d_nil (And.intro (show List.length _ ≤ 100000 by simp) ?_)
    refine d_cons (d_var (by with_unfolding_all rfl) ?_)
    refine d_nil (And.intro (show List.length _ ≤ 100000 by simp) ?_)
    dsimp only
    rotate_left
    dsimp only
    rotate_left
    refine s_next ?_
    dsimp only
    rotate_left
    · rename_i e1 e2
      have e1 := of_decide_eq_true e1
      have e2 := of_decide_eq_true e2
      exact ⟨.op2 "then" .emp c, _, ⟨⟨by decide +kernel, trivial, h1⟩, by simp only [B.depth]; omega, by simp only [B.size]; omega⟩, rfl⟩
    · exact ⟨c, _, hc, rfl⟩
    · exact ⟨c, _, hc, rfl⟩
theorem r_pickC {K : PySem.W.Frag} {hs : Option (Addr × Addr)} {r : Int} {k : D → Prop} (h0 : 0 ≤ r) (h1 : r < 4) (q : ∀ s ∈ cellsS, k (.str s)) : dR K hs rIxS (.str "pqrs") (.int r) k := by
  have e : (("pqrs" : Str).cps.toList.length : Int) = 4 := by decide +kernel
  exact r_pickS (by decide) h0 (by rw [e]; exact h1) fun c hc => q _ ((by decide +kernel : ∀ c ∈ ("pqrs" : Str).cps.toList, (⟨#[c]⟩ : Str) ∈ cellsS) c hc)
theorem r_pickD {K : PySem.W.Frag} {hs : Option (Addr × Addr)} {r : Int} {k : D → Prop} (h0 : 0 ≤ r) (h1 : r < 8) (q : ∀ s ∈ deedsS, k (.str s)) : dR K hs rIxS (.str "abcdefgh") (.int r) k := by
  have e : (("abcdefgh" : Str).cps.toList.length : Int) = 8 := by decide +kernel
  exact r_pickS (by decide) h0 (by rw [e]; exact h1) fun c hc => q _ ((by decide +kernel : ∀ c ∈ ("abcdefgh" : Str).cps.toList, (⟨#[c]⟩ : Str) ∈ deedsS) c hc)
theorem r_one {K : PySem.W.Frag} {hs : Option (Addr × Addr)} {r : Int} {x : D} {k : D → Prop} (h0 : 0 ≤ r) (h1 : r < 1) (q : k x) : dR K hs (rIx K) (.lst [x]) (.int r) k := r_pick h0 (by simpa using h1) fun d hd => by
  simp only [List.mem_cons, List.not_mem_nil, or_false] at hd
  subst hd
  exact q
theorem r_two {K : PySem.W.Frag} {hs : Option (Addr × Addr)} {r : Int} {x y : D} {k : D → Prop} (h0 : 0 ≤ r) (h1 : r < 2) (q : k x) (q2 : k y) : dR K hs (rIx K) (.lst [x, y]) (.int r) k := r_pick h0 (by simpa using h1) fun d hd => by
  simp only [List.mem_cons, List.not_mem_nil, or_false] at hd
  rcases hd with rfl | rfl
  · exact q
  · exact q2
theorem r_three {K : PySem.W.Frag} {hs : Option (Addr × Addr)} {r : Int} {x y z : D} {k : D → Prop} (h0 : 0 ≤ r) (h1 : r < 3) (q : k x) (q2 : k y) (q3 : k z) : dR K hs (rIx K) (.lst [x, y, z]) (.int r) k := r_pick h0 (by simpa using h1) fun d hd => by
  simp only [List.mem_cons, List.not_mem_nil, or_false] at hd
  rcases hd with rfl | rfl | rfl
  · exact q
  · exact q2
  · exact q3
def B.ix : B → List Int
  | .set _ _ => [2]
  | .call _ _ => [2]
  | .op1 _ _ => [1]
  | .op2 _ _ _ => [1, 2]
  | .ite _ _ _ => [1, 2, 3]
  | _ => []
def M_spoilt (ah : Addr) (n : Nat) : List D → (D → Prop) → Prop := fun ds k => ∃ b : B, ds = [.adr ah, b.toD] ∧ b.ok ∧ b.depth ≤ n ∧ ∀ c : B, c.ok → c.depth ≤ b.depth + 1 → c.size ≤ b.size + 3 → k c.toD
theorem m_spoilt {ah : Addr} {n : Nat} {b : B} {k : D → Prop} (h0 : b.ok) (h1 : b.depth ≤ n) (h : ∀ c : B, c.ok → c.depth ≤ b.depth + 1 → c.size ≤ b.size + 3 → k c.toD) : M_spoilt ah n [.adr ah, b.toD] k := ⟨b, rfl, h0, h1, h⟩
theorem ok_spoilt {ah as : Addr} (F : DefT K mg "_law_spoilt" s_law_spoilt) (zr : mg "range" = none) (zl : mg "len" = none) (zi : mg "isinstance" = none) (zt : mg "tuple" = none) (C_law_next : Cal P w K mg base 1 "_law_next" ["_law_h", "_law_many"] (some (ah, as)) (M_next ah)) :
    ∀ n : Nat, Cal P w K mg base (n + 1) "_law_spoilt" ["_law_h", "_law_body_here"] (some (ah, as)) (M_spoilt ah n) := by
  intro n
  induction n with
  | zero =>
    refine okF F sc_law_spoilt (fun _ _ _ _ _ _ us hl => match us, hl with | [_, _], _ => rfl) (fun ds k h => ?_) (fun f cdv A outer s H E ds kk hr h => ?_)
    · obtain ⟨_, rfl, _⟩ := h
      rfl
    · obtain ⟨b, _, _, h, _⟩ := h
      have := depth_pos b
      omega
  | succ n ih =>
    have C_law_spoilt := ih
    refine okF F sc_law_spoilt (fun _ _ _ _ _ _ us hl => match us, hl with | [_, _], _ => rfl) (fun ds k h => ?_) (fun f cdv A outer s H E ds kk hr h => ?_)
    · obtain ⟨_, rfl, _⟩ := h
      rfl
    obtain ⟨b, rfl, ho, hd, q⟩ := h
    refine ⟨_, (pss_cons (ps_setLc (i := 2) (own := [("_law_k", 3)]) (g := gName 3) rfl sc_law_spoilt.nd rfl rfl (sw_true rfl rfl rfl (by decide +kernel)) (pi_range2 rfl zr (pa_cons pe_int (pa_cons (pe_callB (r := rLenQ K) (id := "len")  call_len_seq (by rfl) zl PySem.boot_len (pa_cons (pv 1) pa_nil)) pa_nil))) (blkOk_by (own := [("_law_k", 3)]) (N := N_law_spoilt) (sc := defScope s_law_spoilt) (by decide +kernel)) (fun _ _ _ _ _ => (pg_name (i := 3) sc_law_spoilt.nd rfl (by first | exact Or.inl rfl | exact Or.inr rfl))) (fun _ _ _ _ _ => (pts_one (pt_val (pe_callB (r := rIsi K) (id := "isinstance")  call_isi (by rfl) zi (by decide +kernel) (pa_cons (pe_ix (r := rIx K) ix_seq (pv 1) (pv 3) (fun _ _ => rfl)) (pa_cons (pe_bty (n := "tuple") rfl zt (by decide +kernel)) pa_nil)))))) (fun _ _ _ _ _ => (pv 3)))
      (pss_cons (ps_if (PW.pt (pw_and (pt_cmpR (r := rNeD K) (op_neD hr.units) (pv 2) (pe_lst pa_nil) (nomark _)) (pw_and1 (pt_cmpR op_gt (pe_calK (K := K) rfl C_law_next (hr.mono (by first | decide | omega)) rfl (pa_cons (pv 0) (pa_cons pe_int pa_nil))) pe_int (nomark _))))) (pss_cons (ps_set (i := 3) sc_law_spoilt.nd rfl (by first | exact Or.inl rfl | exact Or.inr rfl) (pe_ix (r := rIx K) ix_seq (pv 2) (pe_calK (K := K) rfl C_law_next (hr.mono (by first | decide | omega)) rfl (pa_cons (pv 0) (pa_cons (pe_callB (r := rLenQ K) (id := "len")  call_len_seq (by rfl) zl PySem.boot_len (pa_cons (pv 2) pa_nil)) pa_nil))) (fun _ _ => rfl)))
      (pss_one (ps_ret (pe_op (r := rCatA K) op_catA (pe_op (r := rCatA K) op_catA (pe_slice (r := rSlA K) sl_tupA (pv 1) po_none (po_some (pv 3))) (pe_tup (pa_cons (pe_calK (K := K) rfl C_law_spoilt (hr.mono (by first | decide | omega)) rfl (pa_cons (pv 0) (pa_cons (pe_ix (r := rIx K) ix_seq (pv 1) (pv 3) (fun _ _ => rfl)) pa_nil))) pa_nil))) (pe_slice (r := rSlA K) sl_tupA (pv 1) (po_some (pe_op op_add (pv 3) pe_int)) po_none))))) pss_nil)
      (pss_cons (ps_set (i := 4) sc_law_spoilt.nd rfl (by first | exact Or.inl rfl | exact Or.inr rfl) (pe_lst (pa_cons (pe_tup (pa_cons pe_str pa_nil)) (pa_cons (pe_tup (pa_cons pe_str pa_nil)) (pa_cons (pe_tup (pa_cons pe_str (pa_cons pe_int pa_nil))) (pa_cons (pe_tup (pa_cons pe_str (pa_cons pe_bl pa_nil))) (pa_cons (pe_tup (pa_cons pe_str (pa_cons (pe_ix ix_str pe_str (pe_calK (K := K) rfl C_law_next (hr.mono (by first | decide | omega)) rfl (pa_cons (pv 0) (pa_cons pe_int pa_nil))) (fun _ _ => rfl)) pa_nil))) (pa_cons (pv 1) pa_nil))))))))
      (pss_cons (ps_set (i := 4) sc_law_spoilt.nd rfl (by first | exact Or.inl rfl | exact Or.inr rfl) (pe_op op_cat (pv 4) (pe_lst (pa_cons (pe_tup (pa_cons pe_str (pa_cons (pe_ix ix_str pe_str (pe_calK (K := K) rfl C_law_next (hr.mono (by first | decide | omega)) rfl (pa_cons (pv 0) (pa_cons pe_int pa_nil))) (fun _ _ => rfl)) (pa_cons (pe_tup (pa_cons pe_str pa_nil)) pa_nil)))) (pa_cons (pe_tup (pa_cons pe_str (pa_cons (pv 1) (pa_cons (pe_tup (pa_cons pe_str pa_nil)) pa_nil)))) pa_nil)))))
      (pss_cons (ps_set (i := 4) sc_law_spoilt.nd rfl (by first | exact Or.inl rfl | exact Or.inr rfl) (pe_op op_cat (pv 4) (pe_lst (pa_cons (pe_tup (pa_cons pe_str (pa_cons (pe_ix ix_str pe_str (pe_calK (K := K) rfl C_law_next (hr.mono (by first | decide | omega)) rfl (pa_cons (pv 0) (pa_cons pe_int pa_nil))) (fun _ _ => rfl)) (pa_cons (pv 1) pa_nil)))) (pa_cons (pe_tup (pa_cons pe_str (pa_cons (pv 1) (pa_cons (pe_tup (pa_cons pe_str pa_nil)) (pa_cons (pe_tup (pa_cons pe_str pa_nil)) pa_nil))))) (pa_cons (pe_tup (pa_cons pe_str (pa_cons (pv 1) pa_nil))) pa_nil))))))
      (pss_one (ps_ret (pe_ix (r := rIx K) ix_seq (pv 4) (pe_calK (K := K) rfl C_law_next (hr.mono (by first | decide | omega)) rfl (pa_cons (pv 0) (pa_cons pe_int pa_nil))) (fun _ _ => rfl))))))))), ?_⟩
    try dsimp only [cxOf]
    change dS _ _ _ [Sl.d _, Sl.d _, Sl.un, Sl.un, Sl.un] _
    have nxt : ∀ {many : Int} {k : D → Prop}, 1 ≤ many → many ≤ 1000 → (∀ r : Int, 0 ≤ r → r < many → k (.int r)) → M_next ah [.adr ah, .int many] k := fun a b c => m_next a b c
    refine s_cut (I := fun ρ' => ∃ s3, ρ' = [.d (.adr ah), .d b.toD, .d (.lst (b.ix.map D.int)), s3, .un]) ?_ ?_
    · cases b <;> dsimp only [B.toD]
      all_goals refine s_setL (i_range2 ?_)
      refine d_cons (d_c (by with_unfolding_all rfl) ?_)
      refine d_cons (d_cb (d_cons (d_var (by with_unfolding_all rfl) ?_)))
      refine d_nil (c_lenS (.inr rfl) (d_nil ⟨_, _, rfl, ?_⟩))
      dsimp only
      rotate_left
      refine d_cons (d_c (by with_unfolding_all rfl) ?_)
      refine d_cons (d_cb (d_cons (d_var (by with_unfolding_all rfl) ?_)))
      refine d_nil (c_lenS (.inr rfl) (d_nil ⟨_, _, rfl, ?_⟩))
      dsimp only
      rotate_left
      refine d_cons (d_c (by with_unfolding_all rfl) ?_)
      refine d_cons (d_cb (d_cons (d_var (by with_unfolding_all rfl) ?_)))
      refine d_nil (c_lenS (.inr rfl) (d_nil ⟨_, _, rfl, ?_⟩))
      dsimp only
      rotate_left
      refine d_cons (d_c (by with_unfolding_all rfl) ?_)
      refine d_cons (d_cb (d_cons (d_var (by with_unfolding_all rfl) ?_)))
      refine d_nil (c_lenS (.inr rfl) (d_nil ⟨_, _, rfl, ?_⟩))
      dsimp only
      rotate_left
      refine d_cons (d_c (by with_unfolding_all rfl) ?_)
      refine d_cons (d_cb (d_cons (d_var (by with_unfolding_all rfl) ?_)))
      refine d_nil (c_lenS (.inr rfl) (d_nil ⟨_, _, rfl, ?_⟩))
      dsimp only
      rotate_left
      refine d_cons (d_c (by with_unfolding_all rfl) ?_)
      refine d_cons (d_cb (d_cons (d_var (by with_unfolding_all rfl) ?_)))
      refine d_nil (c_lenS (.inr rfl) (d_nil ⟨_, _, rfl, ?_⟩))
      dsimp only
      rotate_left
      refine d_cons (d_c (by with_unfolding_all rfl) ?_)
      refine d_cons (d_cb (d_cons (d_var (by with_unfolding_all rfl) ?_)))
      refine d_nil (c_lenS (.inr rfl) (d_nil ⟨_, _, rfl, ?_⟩))
      dsimp only
      rotate_left
      refine d_cons (d_c (by with_unfolding_all rfl) ?_)
      refine d_cons (d_cb (d_cons (d_var (by with_unfolding_all rfl) ?_)))
      refine d_nil (c_lenS (.inr rfl) (d_nil ⟨_, _, rfl, ?_⟩))
      dsimp only
      rotate_left
      refine d_cons (d_c (by with_unfolding_all rfl) ?_)
      refine d_cons (d_cb (d_cons (d_var (by with_unfolding_all rfl) ?_)))
      refine d_nil (c_lenS (.inr rfl) (d_nil ⟨_, _, rfl, ?_⟩))
      dsimp only
      rotate_left
      refine d_cons (d_c (by with_unfolding_all rfl) ?_)
      refine d_cons (d_cb (d_cons (d_var (by with_unfolding_all rfl) ?_)))
      refine d_nil (c_lenS (.inr rfl) (d_nil ⟨_, _, rfl, ?_⟩))
      dsimp only
      rotate_left
      all_goals refine ⟨by simp, by simp [intsUp], ?_⟩
      all_goals first
        | change lcW _ _ _ _ _ _ _ _ [D.int 1, D.int 2, D.int 3] []
        | change lcW _ _ _ _ _ _ _ _ [D.int 1, D.int 2] []
        | change lcW _ _ _ _ _ _ _ _ [D.int 1] []
        | change lcW _ _ _ _ _ _ _ _ [] []
      refine lcW_cons (g_nameV (by decide) ?_)
      refine d_tB (d_cb (d_cons (d_op (d_var (by with_unfolding_all rfl) ?_))))
      refine d_var (by with_unfolding_all rfl) ?_
      refine r_ix (.inr (r_ixT (by with_unfolding_all rfl) ?_))
      refine d_cons (d_c (by with_unfolding_all rfl) ?_)
      refine d_nil (c_tup (by with_unfolding_all rfl) ?_)
      refine ⟨_, rfl, (br_f (by with_unfolding_all rfl) ?_)⟩
      refine lcW_nil ?_
      rotate_left
      refine lcW_cons (g_nameV (by decide) ?_)
      refine d_tB (d_cb (d_cons (d_op (d_var (by with_unfolding_all rfl) ?_))))
      refine d_var (by with_unfolding_all rfl) ?_
      refine r_ix (.inr (r_ixT (by with_unfolding_all rfl) ?_))
      refine d_cons (d_c (by with_unfolding_all rfl) ?_)
      refine d_nil (c_tup (by with_unfolding_all rfl) ?_)
      refine ⟨_, rfl, (br_f (by with_unfolding_all rfl) ?_)⟩
      refine lcW_nil ?_
      rotate_left
      refine lcW_nil ?_
      rotate_left
      refine lcW_nil ?_
      rotate_left
      refine lcW_cons (g_nameV (by decide) ?_)
      refine d_tB (d_cb (d_cons (d_op (d_var (by with_unfolding_all rfl) ?_))))
      refine d_var (by with_unfolding_all rfl) ?_
      refine r_ix (.inr (r_ixT (by with_unfolding_all rfl) ?_))
      refine d_cons (d_c (by with_unfolding_all rfl) ?_)
      refine d_nil (c_tup (by with_unfolding_all rfl) ?_)
      refine ⟨_, rfl, (br_f (by with_unfolding_all rfl) ?_)⟩
      refine lcW_nil ?_
      rotate_left
      refine lcW_cons (g_nameV (by decide) ?_)
      refine d_tB (d_cb (d_cons (d_op (d_var (by with_unfolding_all rfl) ?_))))
      refine d_var (by with_unfolding_all rfl) ?_
      refine r_ix (.inr (r_ixT (by with_unfolding_all rfl) ?_))
      refine d_cons (d_c (by with_unfolding_all rfl) ?_)
      refine d_nil (c_tup (by with_unfolding_all rfl) ?_)
      refine ⟨_, rfl, (br_f (by with_unfolding_all rfl) ?_)⟩
      refine lcW_cons (g_nameV (by decide) ?_)
      refine d_tB (d_cb (d_cons (d_op (d_var (by with_unfolding_all rfl) ?_))))
      refine d_var (by with_unfolding_all rfl) ?_
      refine r_ix (.inr (r_ixT (by with_unfolding_all rfl) ?_))
      refine d_cons (d_c (by with_unfolding_all rfl) ?_)
      refine d_nil ?_
      refine c_tup (tg_toD _) ⟨_, rfl, (br_t (by with_unfolding_all rfl) ?_)⟩
      refine d_var (by with_unfolding_all rfl) ?_
      refine lcW_nil ?_
      rotate_left
      refine lcW_cons (g_nameV (by decide) ?_)
      refine d_tB (d_cb (d_cons (d_op (d_var (by with_unfolding_all rfl) ?_))))
      refine d_var (by with_unfolding_all rfl) ?_
      refine r_ix (.inr (r_ixT (by with_unfolding_all rfl) ?_))
      refine d_cons (d_c (by with_unfolding_all rfl) ?_)
      refine d_nil (c_tup (by with_unfolding_all rfl) ?_)
      refine ⟨_, rfl, (br_f (by with_unfolding_all rfl) ?_)⟩
      refine lcW_cons (g_nameV (by decide) ?_)
      refine d_tB (d_cb (d_cons (d_op (d_var (by with_unfolding_all rfl) ?_))))
      refine d_var (by with_unfolding_all rfl) ?_
      refine r_ix (.inr (r_ixT (by with_unfolding_all rfl) ?_))
      refine d_cons (d_c (by with_unfolding_all rfl) ?_)
      refine d_nil ?_
      refine c_tup (tg_toD _) ⟨_, rfl, (br_t (by with_unfolding_all rfl) ?_)⟩
      refine d_var (by with_unfolding_all rfl) ?_
      refine lcW_nil ?_
      rotate_left
      refine lcW_cons (g_nameV (by decide) ?_)
      refine d_tB (d_cb (d_cons (d_op (d_var (by with_unfolding_all rfl) ?_))))
      refine d_var (by with_unfolding_all rfl) ?_
      refine r_ix (.inr (r_ixT (by with_unfolding_all rfl) ?_))
      refine d_cons (d_c (by with_unfolding_all rfl) ?_)
      refine d_nil ?_
      refine c_tup (tg_toD _) ⟨_, rfl, (br_t (by with_unfolding_all rfl) ?_)⟩
      refine d_var (by with_unfolding_all rfl) ?_
      refine lcW_nil ?_
      rotate_left
      refine lcW_cons (g_nameV (by decide) ?_)
      refine d_tB (d_cb (d_cons (d_op (d_var (by with_unfolding_all rfl) ?_))))
      refine d_var (by with_unfolding_all rfl) ?_
      refine r_ix (.inr (r_ixT (by with_unfolding_all rfl) ?_))
      refine d_cons (d_c (by with_unfolding_all rfl) ?_)
      refine d_nil ?_
      refine c_tup (tg_toD _) ⟨_, rfl, (br_t (by with_unfolding_all rfl) ?_)⟩
      refine d_var (by with_unfolding_all rfl) ?_
      refine lcW_cons (g_nameV (by decide) ?_)
      refine d_tB (d_cb (d_cons (d_op (d_var (by with_unfolding_all rfl) ?_))))
      refine d_var (by with_unfolding_all rfl) ?_
      refine r_ix (.inr (r_ixT (by with_unfolding_all rfl) ?_))
      refine d_cons (d_c (by with_unfolding_all rfl) ?_)
      refine d_nil ?_
      refine c_tup (tg_toD _) ⟨_, rfl, (br_t (by with_unfolding_all rfl) ?_)⟩
      refine d_var (by with_unfolding_all rfl) ?_
      refine lcW_nil ?_
      rotate_left
      refine lcW_cons (g_nameV (by decide) ?_)
      refine d_tB (d_cb (d_cons (d_op (d_var (by with_unfolding_all rfl) ?_))))
      refine d_var (by with_unfolding_all rfl) ?_
      refine r_ix (.inr (r_ixT (by with_unfolding_all rfl) ?_))
      refine d_cons (d_c (by with_unfolding_all rfl) ?_)
      refine d_nil ?_
      refine c_tup (tg_toD _) ⟨_, rfl, (br_t (by with_unfolding_all rfl) ?_)⟩
      refine d_var (by with_unfolding_all rfl) ?_
      refine lcW_cons (g_nameV (by decide) ?_)
      refine d_tB (d_cb (d_cons (d_op (d_var (by with_unfolding_all rfl) ?_))))
      refine d_var (by with_unfolding_all rfl) ?_
      refine r_ix (.inr (r_ixT (by with_unfolding_all rfl) ?_))
      refine d_cons (d_c (by with_unfolding_all rfl) ?_)
      refine d_nil ?_
      refine c_tup (tg_toD _) ⟨_, rfl, (br_t (by with_unfolding_all rfl) ?_)⟩
      refine d_var (by with_unfolding_all rfl) ?_
      refine lcW_cons (g_nameV (by decide) ?_)
      refine d_tB (d_cb (d_cons (d_op (d_var (by with_unfolding_all rfl) ?_))))
      refine d_var (by with_unfolding_all rfl) ?_
      refine r_ix (.inr (r_ixT (by with_unfolding_all rfl) ?_))
      refine d_cons (d_c (by with_unfolding_all rfl) ?_)
      refine d_nil ?_
      refine c_tup (tg_toD _) ⟨_, rfl, (br_t (by with_unfolding_all rfl) ?_)⟩
      refine d_var (by with_unfolding_all rfl) ?_
      refine lcW_nil ?_
      rotate_left
      all_goals exact ⟨_, rfl⟩
    rintro _ ⟨s3, rfl⟩
    refine s_cut (I := fun ρ' => ∃ s2 s3, ρ' = [.d (.adr ah), .d b.toD, s2, s3, .un]) ?_ ?_
    · refine s_if (d_and (d_test (d_op (d_var rfl (d_lst (d_nil ⟨by simp, r_neNil (by cases b <;> rfl) ⟨_, rfl, fun e => ?_, fun e => ?_⟩⟩))))))
      · cases b <;> simp only [B.depth] at hd <;> (try simp only [B.ok] at ho) <;> (try (simp [B.ix] at e; done)) <;> dsimp only [B.toD] <;> simp only [B.ix, List.map_cons, List.map_nil]
        refine d_test (d_op (d_call (d_cons (d_var (by with_unfolding_all rfl) ?_))))
        refine d_cons (d_c (by with_unfolding_all rfl) ?_)
        refine d_nil ?_
        refine nxt (by decide) (by decide) (fun r r0 r1 => ?_)
        refine d_c (by with_unfolding_all rfl) ?_
        refine r_I0 (by with_unfolding_all rfl) ?_
        refine ⟨_, rfl, ⟨fun _ => (s_seq (s_set (d_op (d_var (by with_unfolding_all rfl) ?_)))), fun _ => (s_next ?_)⟩⟩
        refine d_call (d_cons (d_var (by with_unfolding_all rfl) ?_))
        refine d_cons (d_cb (d_cons (d_var (by with_unfolding_all rfl) ?_)))
        refine d_nil (c_lenS (.inl rfl) (d_nil ?_))
        refine nxt (by decide) (by decide) (fun r r0 r1 => ?_)
        refine r_one (by simpa using r0) (by simpa using r1) ?_
        refine s_ret (d_op (d_op (d_slT (d_var (by with_unfolding_all rfl) ?_))))
        refine o_no (o_part (d_var (by with_unfolding_all rfl) ?_))
        refine ⟨_, rfl, ⟨_, rfl, (d_tup (d_cons (d_call (d_cons (d_var (by with_unfolding_all rfl) ?_)))))⟩⟩
        refine d_cons (d_op (d_var (by with_unfolding_all rfl) ?_))
        refine d_var (by with_unfolding_all rfl) ?_
        refine r_ix (.inr (r_ixT (by with_unfolding_all rfl) ?_))
        refine d_nil ?_
        refine m_spoilt (by first | exact ho | exact ho.1 | exact ho.2 | exact ho.2.1 | exact ho.2.2) (by omega) (fun c h0 h1 h2 => ?_)
        refine d_nil (And.intro (show List.length _ ≤ 100000 by simp) ?_)
        refine r_catA (Nat.le_of_ble_eq_true rfl) (d_slT (d_var (by with_unfolding_all rfl) ?_))
        refine o_part (d_op (d_var (by with_unfolding_all rfl) ?_))
        refine d_c (by with_unfolding_all rfl) ?_
        refine r_I0 (by with_unfolding_all rfl) ?_
        refine ⟨_, rfl, (o_no ⟨_, rfl, ?_⟩)⟩
        refine r_catA (Nat.le_of_ble_eq_true rfl) ?_
        dsimp only
        rotate_left
        exact ⟨_, _, rfl⟩
        refine d_test (d_op (d_call (d_cons (d_var (by with_unfolding_all rfl) ?_))))
        refine d_cons (d_c (by with_unfolding_all rfl) ?_)
        refine d_nil ?_
        refine nxt (by decide) (by decide) (fun r r0 r1 => ?_)
        refine d_c (by with_unfolding_all rfl) ?_
        refine r_I0 (by with_unfolding_all rfl) ?_
        refine ⟨_, rfl, ⟨fun _ => (s_seq (s_set (d_op (d_var (by with_unfolding_all rfl) ?_)))), fun _ => (s_next ?_)⟩⟩
        refine d_call (d_cons (d_var (by with_unfolding_all rfl) ?_))
        refine d_cons (d_cb (d_cons (d_var (by with_unfolding_all rfl) ?_)))
        refine d_nil (c_lenS (.inl rfl) (d_nil ?_))
        refine nxt (by decide) (by decide) (fun r r0 r1 => ?_)
        refine r_one (by simpa using r0) (by simpa using r1) ?_
        refine s_ret (d_op (d_op (d_slT (d_var (by with_unfolding_all rfl) ?_))))
        refine o_no (o_part (d_var (by with_unfolding_all rfl) ?_))
        refine ⟨_, rfl, ⟨_, rfl, (d_tup (d_cons (d_call (d_cons (d_var (by with_unfolding_all rfl) ?_)))))⟩⟩
        refine d_cons (d_op (d_var (by with_unfolding_all rfl) ?_))
        refine d_var (by with_unfolding_all rfl) ?_
        refine r_ix (.inr (r_ixT (by with_unfolding_all rfl) ?_))
        refine d_nil ?_
        refine m_spoilt (by first | exact ho | exact ho.1 | exact ho.2 | exact ho.2.1 | exact ho.2.2) (by omega) (fun c h0 h1 h2 => ?_)
        refine d_nil (And.intro (show List.length _ ≤ 100000 by simp) ?_)
        refine r_catA (Nat.le_of_ble_eq_true rfl) (d_slT (d_var (by with_unfolding_all rfl) ?_))
        refine o_part (d_op (d_var (by with_unfolding_all rfl) ?_))
        refine d_c (by with_unfolding_all rfl) ?_
        refine r_I0 (by with_unfolding_all rfl) ?_
        refine ⟨_, rfl, (o_no ⟨_, rfl, ?_⟩)⟩
        refine r_catA (Nat.le_of_ble_eq_true rfl) ?_
        dsimp only
        rotate_left
        exact ⟨_, _, rfl⟩
        refine d_test (d_op (d_call (d_cons (d_var (by with_unfolding_all rfl) ?_))))
        refine d_cons (d_c (by with_unfolding_all rfl) ?_)
        refine d_nil ?_
        refine nxt (by decide) (by decide) (fun r r0 r1 => ?_)
        refine d_c (by with_unfolding_all rfl) ?_
        refine r_I0 (by with_unfolding_all rfl) ?_
        refine ⟨_, rfl, ⟨fun _ => (s_seq (s_set (d_op (d_var (by with_unfolding_all rfl) ?_)))), fun _ => (s_next ?_)⟩⟩
        refine d_call (d_cons (d_var (by with_unfolding_all rfl) ?_))
        refine d_cons (d_cb (d_cons (d_var (by with_unfolding_all rfl) ?_)))
        refine d_nil (c_lenS (.inl rfl) (d_nil ?_))
        refine nxt (by decide) (by decide) (fun r r0 r1 => ?_)
        refine r_one (by simpa using r0) (by simpa using r1) ?_
        refine s_ret (d_op (d_op (d_slT (d_var (by with_unfolding_all rfl) ?_))))
        refine o_no (o_part (d_var (by with_unfolding_all rfl) ?_))
        refine ⟨_, rfl, ⟨_, rfl, (d_tup (d_cons (d_call (d_cons (d_var (by with_unfolding_all rfl) ?_)))))⟩⟩
        refine d_cons (d_op (d_var (by with_unfolding_all rfl) ?_))
        refine d_var (by with_unfolding_all rfl) ?_
        refine r_ix (.inr (r_ixT (by with_unfolding_all rfl) ?_))
        refine d_nil ?_
        refine m_spoilt (by first | exact ho | exact ho.1 | exact ho.2 | exact ho.2.1 | exact ho.2.2) (by omega) (fun c h0 h1 h2 => ?_)
        refine d_nil (And.intro (show List.length _ ≤ 100000 by simp) ?_)
        refine r_catA (Nat.le_of_ble_eq_true rfl) (d_slT (d_var (by with_unfolding_all rfl) ?_))
        refine o_part (d_op (d_var (by with_unfolding_all rfl) ?_))
        refine d_c (by with_unfolding_all rfl) ?_
        refine r_I0 (by with_unfolding_all rfl) ?_
        refine ⟨_, rfl, (o_no ⟨_, rfl, ?_⟩)⟩
        refine r_catA (Nat.le_of_ble_eq_true rfl) ?_
        dsimp only
        rotate_left
        exact ⟨_, _, rfl⟩
        refine d_test (d_op (d_call (d_cons (d_var (by with_unfolding_all rfl) ?_))))
        refine d_cons (d_c (by with_unfolding_all rfl) ?_)
        refine d_nil ?_
        refine nxt (by decide) (by decide) (fun r r0 r1 => ?_)
        refine d_c (by with_unfolding_all rfl) ?_
        refine r_I0 (by with_unfolding_all rfl) ?_
        refine ⟨_, rfl, ⟨fun _ => (s_seq (s_set (d_op (d_var (by with_unfolding_all rfl) ?_)))), fun _ => (s_next ?_)⟩⟩
        refine d_call (d_cons (d_var (by with_unfolding_all rfl) ?_))
        refine d_cons (d_cb (d_cons (d_var (by with_unfolding_all rfl) ?_)))
        refine d_nil (c_lenS (.inl rfl) (d_nil ?_))
        refine nxt (by decide) (by decide) (fun r r0 r1 => ?_)
        refine r_two (by simpa using r0) (by simpa using r1) ?_ ?_
        refine s_ret (d_op (d_op (d_slT (d_var (by with_unfolding_all rfl) ?_))))
        refine o_no (o_part (d_var (by with_unfolding_all rfl) ?_))
        refine ⟨_, rfl, ⟨_, rfl, (d_tup (d_cons (d_call (d_cons (d_var (by with_unfolding_all rfl) ?_)))))⟩⟩
        refine d_cons (d_op (d_var (by with_unfolding_all rfl) ?_))
        refine d_var (by with_unfolding_all rfl) ?_
        refine r_ix (.inr (r_ixT (by with_unfolding_all rfl) ?_))
        refine d_nil ?_
        refine m_spoilt (by first | exact ho | exact ho.1 | exact ho.2 | exact ho.2.1 | exact ho.2.2) (by omega) (fun c h0 h1 h2 => ?_)
        refine d_nil (And.intro (show List.length _ ≤ 100000 by simp) ?_)
        refine r_catA (Nat.le_of_ble_eq_true rfl) (d_slT (d_var (by with_unfolding_all rfl) ?_))
        refine o_part (d_op (d_var (by with_unfolding_all rfl) ?_))
        refine d_c (by with_unfolding_all rfl) ?_
        refine r_I0 (by with_unfolding_all rfl) ?_
        refine ⟨_, rfl, (o_no ⟨_, rfl, ?_⟩)⟩
        refine r_catA (Nat.le_of_ble_eq_true rfl) ?_
        dsimp only
        rotate_left
        refine s_ret (d_op (d_op (d_slT (d_var (by with_unfolding_all rfl) ?_))))
        refine o_no (o_part (d_var (by with_unfolding_all rfl) ?_))
        refine ⟨_, rfl, ⟨_, rfl, (d_tup (d_cons (d_call (d_cons (d_var (by with_unfolding_all rfl) ?_)))))⟩⟩
        refine d_cons (d_op (d_var (by with_unfolding_all rfl) ?_))
        refine d_var (by with_unfolding_all rfl) ?_
        refine r_ix (.inr (r_ixT (by with_unfolding_all rfl) ?_))
        refine d_nil ?_
        refine m_spoilt (by first | exact ho | exact ho.1 | exact ho.2 | exact ho.2.1 | exact ho.2.2) (by omega) (fun c h0 h1 h2 => ?_)
        refine d_nil (And.intro (show List.length _ ≤ 100000 by simp) ?_)
        refine r_catA (Nat.le_of_ble_eq_true rfl) (d_slT (d_var (by with_unfolding_all rfl) ?_))
        refine o_part (d_op (d_var (by with_unfolding_all rfl) ?_))
        refine d_c (by with_unfolding_all rfl) ?_
        refine r_I0 (by with_unfolding_all rfl) ?_
        refine ⟨_, rfl, (o_no ⟨_, rfl, ?_⟩)⟩
        refine r_catA (Nat.le_of_ble_eq_true rfl) ?_
        dsimp only
        rotate_left
        exact ⟨_, _, rfl⟩
        refine d_test (d_op (d_call (d_cons (d_var (by with_unfolding_all rfl) ?_))))
        refine d_cons (d_c (by with_unfolding_all rfl) ?_)
        refine d_nil ?_
        refine nxt (by decide) (by decide) (fun r r0 r1 => ?_)
        refine d_c (by with_unfolding_all rfl) ?_
        refine r_I0 (by with_unfolding_all rfl) ?_
        refine ⟨_, rfl, ⟨fun _ => (s_seq (s_set (d_op (d_var (by with_unfolding_all rfl) ?_)))), fun _ => (s_next ?_)⟩⟩
        refine d_call (d_cons (d_var (by with_unfolding_all rfl) ?_))
        refine d_cons (d_cb (d_cons (d_var (by with_unfolding_all rfl) ?_)))
        refine d_nil (c_lenS (.inl rfl) (d_nil ?_))
        refine nxt (by decide) (by decide) (fun r r0 r1 => ?_)
        refine r_three (by simpa using r0) (by simpa using r1) ?_ ?_ ?_
        refine s_ret (d_op (d_op (d_slT (d_var (by with_unfolding_all rfl) ?_))))
        refine o_no (o_part (d_var (by with_unfolding_all rfl) ?_))
        refine ⟨_, rfl, ⟨_, rfl, (d_tup (d_cons (d_call (d_cons (d_var (by with_unfolding_all rfl) ?_)))))⟩⟩
        refine d_cons (d_op (d_var (by with_unfolding_all rfl) ?_))
        refine d_var (by with_unfolding_all rfl) ?_
        refine r_ix (.inr (r_ixT (by with_unfolding_all rfl) ?_))
        refine d_nil ?_
        refine m_spoilt (by first | exact ho | exact ho.1 | exact ho.2 | exact ho.2.1 | exact ho.2.2) (by omega) (fun c h0 h1 h2 => ?_)
        refine d_nil (And.intro (show List.length _ ≤ 100000 by simp) ?_)
        refine r_catA (Nat.le_of_ble_eq_true rfl) (d_slT (d_var (by with_unfolding_all rfl) ?_))
        refine o_part (d_op (d_var (by with_unfolding_all rfl) ?_))
        refine d_c (by with_unfolding_all rfl) ?_
        refine r_I0 (by with_unfolding_all rfl) ?_
        refine ⟨_, rfl, (o_no ⟨_, rfl, ?_⟩)⟩
        refine r_catA (Nat.le_of_ble_eq_true rfl) ?_
        dsimp only
        rotate_left
        refine s_ret (d_op (d_op (d_slT (d_var (by with_unfolding_all rfl) ?_))))
        refine o_no (o_part (d_var (by with_unfolding_all rfl) ?_))
        refine ⟨_, rfl, ⟨_, rfl, (d_tup (d_cons (d_call (d_cons (d_var (by with_unfolding_all rfl) ?_)))))⟩⟩
        refine d_cons (d_op (d_var (by with_unfolding_all rfl) ?_))
        refine d_var (by with_unfolding_all rfl) ?_
        refine r_ix (.inr (r_ixT (by with_unfolding_all rfl) ?_))
        refine d_nil ?_
        refine m_spoilt (by first | exact ho | exact ho.1 | exact ho.2 | exact ho.2.1 | exact ho.2.2) (by omega) (fun c h0 h1 h2 => ?_)
        refine d_nil (And.intro (show List.length _ ≤ 100000 by simp) ?_)
        refine r_catA (Nat.le_of_ble_eq_true rfl) (d_slT (d_var (by with_unfolding_all rfl) ?_))
        refine o_part (d_op (d_var (by with_unfolding_all rfl) ?_))
        refine d_c (by with_unfolding_all rfl) ?_
        refine r_I0 (by with_unfolding_all rfl) ?_
        refine ⟨_, rfl, (o_no ⟨_, rfl, ?_⟩)⟩
        refine r_catA (Nat.le_of_ble_eq_true rfl) ?_
        dsimp only
        rotate_left
        refine s_ret (d_op (d_op (d_slT (d_var (by with_unfolding_all rfl) ?_))))
        refine o_no (o_part (d_var (by with_unfolding_all rfl) ?_))
        refine ⟨_, rfl, ⟨_, rfl, (d_tup (d_cons (d_call (d_cons (d_var (by with_unfolding_all rfl) ?_)))))⟩⟩
        refine d_cons (d_op (d_var (by with_unfolding_all rfl) ?_))
        refine d_var (by with_unfolding_all rfl) ?_
        refine r_ix (.inr (r_ixT (by with_unfolding_all rfl) ?_))
        refine d_nil ?_
        refine m_spoilt (by first | exact ho | exact ho.1 | exact ho.2 | exact ho.2.1 | exact ho.2.2) (by omega) (fun c h0 h1 h2 => ?_)
        refine d_nil (And.intro (show List.length _ ≤ 100000 by simp) ?_)
        refine r_catA (Nat.le_of_ble_eq_true rfl) (d_slT (d_var (by with_unfolding_all rfl) ?_))
        refine o_part (d_op (d_var (by with_unfolding_all rfl) ?_))
        refine d_c (by with_unfolding_all rfl) ?_
        refine r_I0 (by with_unfolding_all rfl) ?_
        refine ⟨_, rfl, (o_no ⟨_, rfl, ?_⟩)⟩
        refine r_catA (Nat.le_of_ble_eq_true rfl) ?_
        dsimp only
        rotate_left
        exact ⟨_, _, rfl⟩
        all_goals first
          | exact q (.set _ c) ⟨ho.1, h0⟩ (by simp only [B.depth]; omega) (by simp only [B.size]; omega)
          | exact q (.call _ c) ⟨ho.1, h0⟩ (by simp only [B.depth]; omega) (by simp only [B.size]; omega)
          | exact q (.op1 _ c) ⟨ho.1, h0⟩ (by simp only [B.depth]; omega) (by simp only [B.size]; omega)
          | exact q (.op2 _ c _) ⟨ho.1, h0, ho.2.2⟩ (by simp only [B.depth]; omega) (by simp only [B.size]; omega)
          | exact q (.op2 _ _ c) ⟨ho.1, ho.2.1, h0⟩ (by simp only [B.depth]; omega) (by simp only [B.size]; omega)
          | exact q (.ite c _ _) ⟨h0, ho.2.1, ho.2.2⟩ (by simp only [B.depth]; omega) (by simp only [B.size]; omega)
          | exact q (.ite _ c _) ⟨ho.1, h0, ho.2.2⟩ (by simp only [B.depth]; omega) (by simp only [B.size]; omega)
          | exact q (.ite _ _ c) ⟨ho.1, ho.2.1, h0⟩ (by simp only [B.depth]; omega) (by simp only [B.size]; omega)
          | trace_state
      · exact ⟨fun h => (by cases h), fun _ => s_next ⟨_, _, rfl⟩⟩
    rintro _ ⟨s2, s3, rfl⟩
    refine s_seq (s_set (d_lst (d_cons (d_tup (d_cons (d_c (by with_unfolding_all rfl) ?_))))))
    refine d_nil (And.intro (show List.length _ ≤ 100000 by simp) ?_)
    refine d_cons (d_tup (d_cons (d_c (by with_unfolding_all rfl) ?_)))
    refine d_nil (And.intro (show List.length _ ≤ 100000 by simp) ?_)
    refine d_cons (d_tup (d_cons (d_c (by with_unfolding_all rfl) ?_)))
    refine d_cons (d_c (by with_unfolding_all rfl) ?_)
    refine d_nil (And.intro (show List.length _ ≤ 100000 by simp) ?_)
    refine d_cons (d_tup (d_cons (d_c (by with_unfolding_all rfl) ?_)))
    refine d_cons (d_c (by with_unfolding_all rfl) ?_)
    refine d_nil (And.intro (show List.length _ ≤ 100000 by simp) ?_)
    refine d_cons (d_tup (d_cons (d_c (by with_unfolding_all rfl) ?_)))
    refine d_cons (d_op (d_c (by with_unfolding_all rfl) ?_))
    refine d_call (d_cons (d_var (by with_unfolding_all rfl) ?_))
    refine d_cons (d_c (by with_unfolding_all rfl) ?_)
    refine d_nil ?_
    refine nxt (by decide) (by decide) (fun r r0 r1 => ?_)
    refine r_pickC (by assumption) (by assumption) (fun c hc => ?_)
    refine d_nil (And.intro (show List.length _ ≤ 100000 by simp) ?_)
    refine d_cons (d_var (by with_unfolding_all rfl) ?_)
    refine d_nil (And.intro (show List.length _ ≤ 100000 by simp) ?_)
    refine s_seq ?_
    refine s_set (d_ofL (l_cat (d_var (by with_unfolding_all rfl) ?_)))
    refine d_lst (d_cons (d_tup (d_cons (d_c (by with_unfolding_all rfl) ?_))))
    refine d_cons (d_op (d_c (by with_unfolding_all rfl) ?_))
    refine d_call (d_cons (d_var (by with_unfolding_all rfl) ?_))
    refine d_cons (d_c (by with_unfolding_all rfl) ?_)
    refine d_nil ?_
    refine nxt (by decide) (by decide) (fun r r0 r1 => ?_)
    refine r_pickD (by assumption) (by assumption) (fun c hc => ?_)
    refine d_cons (d_tup (d_cons (d_c (by with_unfolding_all rfl) ?_)))
    refine d_nil (And.intro (show List.length _ ≤ 100000 by simp) ?_)
    refine d_nil (And.intro (show List.length _ ≤ 100000 by simp) ?_)
    refine d_cons (d_tup (d_cons (d_c (by with_unfolding_all rfl) ?_)))
    refine d_cons (d_var (by with_unfolding_all rfl) ?_)
    refine d_cons (d_tup (d_cons (d_c (by with_unfolding_all rfl) ?_)))
    refine d_nil (And.intro (show List.length _ ≤ 100000 by simp) ?_)
    refine d_nil (And.intro (show List.length _ ≤ 100000 by simp) ?_)
    refine d_nil (And.intro (show List.length _ ≤ 100000 by simp) ?_)
    refine ⟨_, _, rfl, rfl, (by simp), ?_⟩
    refine s_seq ?_
    refine s_set (d_ofL (l_cat (d_var (by with_unfolding_all rfl) ?_)))
    refine d_lst (d_cons (d_tup (d_cons (d_c (by with_unfolding_all rfl) ?_))))
    refine d_cons (d_op (d_c (by with_unfolding_all rfl) ?_))
    refine d_call (d_cons (d_var (by with_unfolding_all rfl) ?_))
    refine d_cons (d_c (by with_unfolding_all rfl) ?_)
    refine d_nil ?_
    refine nxt (by decide) (by decide) (fun r r0 r1 => ?_)
    refine r_pickC (by assumption) (by assumption) (fun c hc => ?_)
    refine d_cons (d_var (by with_unfolding_all rfl) ?_)
    refine d_nil (And.intro (show List.length _ ≤ 100000 by simp) ?_)
    refine d_cons (d_tup (d_cons (d_c (by with_unfolding_all rfl) ?_)))
    refine d_cons (d_var (by with_unfolding_all rfl) ?_)
    refine d_cons (d_tup (d_cons (d_c (by with_unfolding_all rfl) ?_)))
    refine d_nil (And.intro (show List.length _ ≤ 100000 by simp) ?_)
    refine d_cons (d_tup (d_cons (d_c (by with_unfolding_all rfl) ?_)))
    refine d_nil (And.intro (show List.length _ ≤ 100000 by simp) ?_)
    refine d_nil (And.intro (show List.length _ ≤ 100000 by simp) ?_)
    refine d_cons (d_tup (d_cons (d_c (by with_unfolding_all rfl) ?_)))
    refine d_cons (d_var (by with_unfolding_all rfl) ?_)
    refine d_nil (And.intro (show List.length _ ≤ 100000 by simp) ?_)
    refine d_nil (And.intro (show List.length _ ≤ 100000 by simp) ?_)
    refine ⟨_, _, rfl, rfl, (by simp), ?_⟩
    refine s_ret (d_op (d_var (by with_unfolding_all rfl) ?_))
    refine d_call (d_cons (d_var (by with_unfolding_all rfl) ?_))
    refine d_cons (d_c (by with_unfolding_all rfl) ?_)
    refine d_nil ?_
    refine nxt (by decide) (by decide) (fun r r0 r1 => ?_)
    dsimp only
    rotate_left
    refine r_pick (by assumption) (by simpa) fun d hd => ?_
    have dp := depth_pos b
    have sp := size_pos b
    simp only [List.mem_append, List.mem_cons, List.not_mem_nil, or_false, or_assoc] at hd
    rcases hd with rfl | rfl | rfl | rfl | rfl | rfl | rfl | rfl | rfl | rfl | rfl
    · exact q .arg trivial (by simp only [B.depth]; omega) (by simp only [B.size]; omega)
    · exact q .emp trivial (by simp only [B.depth]; omega) (by simp only [B.size]; omega)
    · exact q (.num 1) ⟨by decide, by decide⟩ (by simp only [B.depth]; omega) (by simp only [B.size]; omega)
    · exact q (.tru true) trivial (by simp only [B.depth]; omega) (by simp only [B.size]; omega)
    · exact q (.cel _) (by assumption) (by simp only [B.depth]; omega) (by simp only [B.size]; omega)
    · exact q b ho (by omega) (by omega)
    · exact q (.call _ .arg) ⟨by assumption, trivial⟩ (by simp only [B.depth]; omega) (by simp only [B.size]; omega)
    · exact q (.op2 "same" b .arg) ⟨by decide +kernel, ho, trivial⟩ (by simp only [B.depth]; omega) (by simp only [B.size]; omega)
    · exact q (.set _ b) ⟨by assumption, ho⟩ (by simp only [B.depth]; omega) (by simp only [B.size]; omega)
    · exact q (.ite b .emp .arg) ⟨ho, trivial, trivial⟩ (by simp only [B.depth]; omega) (by simp only [B.size]; omega)
    · exact q (.op1 "not" b) ⟨by decide +kernel, ho⟩ (by simp only [B.depth]; omega) (by simp only [B.size]; omega)
end
end Pr
set_option Elab.async false
set_option linter.all false
set_option maxRecDepth 100000
set_option maxHeartbeats 2000000
namespace Pr
open PySem L2 PD
abbrev s_law_alike : Stmt := top 39
abbrev N_law_alike : List Str := ["_law_found", "_law_due_here", "_law_k"]
theorem sc_law_alike : FnScope N_law_alike ["_law_found", "_law_due_here"] (defScope s_law_alike) := ⟨rfl, rfl, rfl, by decide +kernel, rfl, by decide +kernel, by decide +kernel⟩

section
variable {P : Program} {w : World} {K : PySem.W.Frag} {mg : Str → Option Value} {base : Heap}
def M_alike : List D → (D → Prop) → Prop := fun ds k => ∃ a b : Option Str, ds = [optD a, optD b] ∧ k (.bl (decide (a = b)))
theorem ok_alike (F : DefT K mg "_law_alike" s_law_alike) (zi : mg "isinstance" = none) (zt : mg "tuple" = none) (zl : mg "list" = none) (zs : mg "str" = none) (zn : mg "int" = none) (zb : mg "bool" = none) (ze : mg "len" = none) (zr : mg "range" = none) : Cal P w K mg base 2 "_law_alike" ["_law_found", "_law_due_here"] none M_alike := by
  have C_law_alike := calNo (P := P) (w := w) (base := base) (hs := none) F sc_law_alike (fun _ _ _ _ _ _ us hl => match us, hl with | [_, _], _ => rfl)
  refine okF F sc_law_alike (fun _ _ _ _ _ _ us hl => match us, hl with | [_, _], _ => rfl) (fun ds k h => ?_) (fun f cdv A outer s H E ds kk hr h => ?_)
  · obtain ⟨_, _, rfl, _⟩ := h
    rfl
  obtain ⟨a, b, rfl, q⟩ := h
  refine ⟨_, (pss_cons (ps_if (pt_val (pe_callB (r := rIsiT K) (id := "isinstance")  call_isiT (by rfl) zi (by decide +kernel) (pa_cons (pv 1) (pa_cons (pe_tup (pa_cons (pe_bty (n := "tuple") rfl zt (by decide +kernel)) (pa_cons (pe_bty (n := "list") rfl zl (by decide +kernel)) pa_nil))) pa_nil)))) (pss_cons (ps_if (PW.pt (pw_or (pt_not (pt_val (pe_callB (r := rIsiT K) (id := "isinstance")  call_isiT (by rfl) zi (by decide +kernel) (pa_cons (pv 0) (pa_cons (pe_tup (pa_cons (pe_bty (n := "tuple") rfl zt (by decide +kernel)) (pa_cons (pe_bty (n := "list") rfl zl (by decide +kernel)) pa_nil))) pa_nil))))) (pw_or1 (pt_cmpR op_ne (pe_callB (r := rIsi K) (id := "isinstance")  call_isi (by rfl) zi (by decide +kernel) (pa_cons (pv 0) (pa_cons (pe_bty (n := "list") rfl zl (by decide +kernel)) pa_nil))) (pe_callB (r := rIsi K) (id := "isinstance")  call_isi (by rfl) zi (by decide +kernel) (pa_cons (pv 1) (pa_cons (pe_bty (n := "list") rfl zl (by decide +kernel)) pa_nil))) (nomark _))))) (pss_one (ps_ret pe_bl)) pss_nil)
      (pss_cons (ps_if (pt_cmpR op_ne (pe_callB (r := rLenQ K) (id := "len")  call_len_seq (by rfl) ze PySem.boot_len (pa_cons (pv 0) pa_nil)) (pe_callB (r := rLenQ K) (id := "len")  call_len_seq (by rfl) ze PySem.boot_len (pa_cons (pv 1) pa_nil)) (nomark _)) (pss_one (ps_ret pe_bl)) pss_nil)
      (pss_one (ps_ret (pe_cmpR (r := rEqD K) (op_eqD hr.units) (pe_lc (own := [("_law_k", 2)]) (g := gName 2) rfl sc_law_alike.nd (pi_range1 rfl zr (pa_cons (pe_callB (r := rLenQ K) (id := "len")  call_len_seq (by rfl) ze PySem.boot_len (pa_cons (pv 1) pa_nil)) pa_nil)) (blkOk_by (own := [("_law_k", 2)]) (N := N_law_alike) (sc := defScope s_law_alike) (by decide +kernel)) (fun _ _ _ _ _ => (pg_name (i := 2) sc_law_alike.nd rfl (by first | exact Or.inl rfl | exact Or.inr rfl))) (fun _ _ _ _ _ => (pts_one (pt_not (pt_val (pe_calK (K := K) rfl C_law_alike (hr.mono (by first | decide | omega)) rfl (pa_cons (pe_ix (r := rIx K) ix_seq (pv 0) (pv 2) (fun _ _ => rfl)) (pa_cons (pe_ix (r := rIx K) ix_seq (pv 1) (pv 2) (fun _ _ => rfl)) pa_nil))))))) (fun _ _ _ _ _ => (pv 2))) (pe_lst pa_nil) (nomark _)))))) pss_nil)
      (pss_cons (ps_if (pt_cmpR op_isN (pv 1) pe_non (nomark _)) (pss_one (ps_ret (pe_cmpR op_isN (pv 0) pe_non (nomark _)))) pss_nil)
      (pss_cons (ps_if (pt_val (pe_callB (r := rIsi K) (id := "isinstance")  call_isi (by rfl) zi (by decide +kernel) (pa_cons (pv 1) (pa_cons (pe_bty (n := "str") rfl zs (by decide +kernel)) pa_nil)))) (pss_one (ps_ret (pe_and (pe_callB (r := rIsi K) (id := "isinstance")  call_isi (by rfl) zi (by decide +kernel) (pa_cons (pv 0) (pa_cons (pe_bty (n := "str") rfl zs (by decide +kernel)) pa_nil))) (pe_one (pe_cmpR op_eq (pv 0) (pv 1) (nomark _)))))) pss_nil)
      (pss_cons (ps_if (PW.pt (pw_or (pt_val (pe_callB (r := rIsi K) (id := "isinstance")  call_isi (by rfl) zi (by decide +kernel) (pa_cons (pv 1) (pa_cons (pe_bty (n := "bool") rfl zb (by decide +kernel)) pa_nil)))) (pw_or1 (pt_val (pe_callB (r := rIsi K) (id := "isinstance")  call_isi (by rfl) zi (by decide +kernel) (pa_cons (pv 0) (pa_cons (pe_bty (n := "bool") rfl zb (by decide +kernel)) pa_nil))))))) (pss_one (ps_ret (pe_and (pe_callB (r := rIsi K) (id := "isinstance")  call_isi (by rfl) zi (by decide +kernel) (pa_cons (pv 1) (pa_cons (pe_bty (n := "bool") rfl zb (by decide +kernel)) pa_nil))) (pe_and (pe_callB (r := rIsi K) (id := "isinstance")  call_isi (by rfl) zi (by decide +kernel) (pa_cons (pv 0) (pa_cons (pe_bty (n := "bool") rfl zb (by decide +kernel)) pa_nil))) (pe_one (pe_cmpR op_eq (pv 0) (pv 1) (nomark _))))))) pss_nil)
      (pss_one (ps_ret (pe_and (pe_callB (r := rIsi K) (id := "isinstance")  call_isi (by rfl) zi (by decide +kernel) (pa_cons (pv 0) (pa_cons (pe_bty (n := "int") rfl zn (by decide +kernel)) pa_nil))) (pe_one (pe_cmpR op_eq (pv 0) (pv 1) (nomark _)))))))))), ?_⟩
  try dsimp only [cxOf]
  change dS _ _ _ [Sl.d _, Sl.d _, Sl.un] _
  cases a <;> cases b <;> dsimp only [optD]
  refine s_seq (s_if (d_tB ?_))
  refine d_isiTL (d_var rfl ⟨_, rfl, ⟨_, rfl, (br_f (by with_unfolding_all rfl) ?_)⟩⟩)
  refine s_next (s_seq (s_if (d_test (d_op (d_var (by with_unfolding_all rfl) ?_)))))
  refine d_c (by with_unfolding_all rfl) ?_
  refine r_isN ⟨_, rfl, (br_t (by with_unfolding_all rfl) ?_)⟩
  refine s_ret (d_op (d_var (by with_unfolding_all rfl) ?_))
  refine d_c (by with_unfolding_all rfl) ?_
  refine r_isN ?_
  dsimp only
  rotate_left
  refine s_seq (s_if (d_tB ?_))
  refine d_isiTL (d_var rfl ⟨_, rfl, ⟨_, rfl, (br_f (by with_unfolding_all rfl) ?_)⟩⟩)
  refine s_next (s_seq (s_if (d_test (d_op (d_var (by with_unfolding_all rfl) ?_)))))
  refine d_c (by with_unfolding_all rfl) ?_
  refine r_isN ⟨_, rfl, (br_f (by with_unfolding_all rfl) ?_)⟩
  refine s_next (s_seq (s_if (d_tB (d_cb (d_cons (d_var (by with_unfolding_all rfl) ?_))))))
  refine d_cons (d_c (by with_unfolding_all rfl) ?_)
  refine d_nil (c_str (by with_unfolding_all rfl) ?_)
  refine ⟨_, rfl, (br_t (by with_unfolding_all rfl) ?_)⟩
  refine s_ret (d_andV (d_cb (d_cons (d_var (by with_unfolding_all rfl) ?_))))
  refine d_cons (d_c (by with_unfolding_all rfl) ?_)
  refine d_nil (c_str (by with_unfolding_all rfl) ?_)
  refine ⟨_, rfl, (br_f (by with_unfolding_all rfl) ?_)⟩
  dsimp only
  rotate_left
  refine s_seq (s_if (d_tB ?_))
  refine d_isiTL (d_var rfl ⟨_, rfl, ⟨_, rfl, (br_f (by with_unfolding_all rfl) ?_)⟩⟩)
  refine s_next (s_seq (s_if (d_test (d_op (d_var (by with_unfolding_all rfl) ?_)))))
  refine d_c (by with_unfolding_all rfl) ?_
  refine r_isN ⟨_, rfl, (br_t (by with_unfolding_all rfl) ?_)⟩
  refine s_ret (d_op (d_var (by with_unfolding_all rfl) ?_))
  refine d_c (by with_unfolding_all rfl) ?_
  refine r_isN ?_
  dsimp only
  rotate_left
  refine s_seq (s_if (d_tB ?_))
  refine d_isiTL (d_var rfl ⟨_, rfl, ⟨_, rfl, (br_f (by with_unfolding_all rfl) ?_)⟩⟩)
  refine s_next (s_seq (s_if (d_test (d_op (d_var (by with_unfolding_all rfl) ?_)))))
  refine d_c (by with_unfolding_all rfl) ?_
  refine r_isN ⟨_, rfl, (br_f (by with_unfolding_all rfl) ?_)⟩
  refine s_next (s_seq (s_if (d_tB (d_cb (d_cons (d_var (by with_unfolding_all rfl) ?_))))))
  refine d_cons (d_c (by with_unfolding_all rfl) ?_)
  refine d_nil (c_str (by with_unfolding_all rfl) ?_)
  refine ⟨_, rfl, (br_t (by with_unfolding_all rfl) ?_)⟩
  refine s_ret (d_andV (d_cb (d_cons (d_var (by with_unfolding_all rfl) ?_))))
  refine d_cons (d_c (by with_unfolding_all rfl) ?_)
  refine d_nil (c_str (by with_unfolding_all rfl) ?_)
  refine ⟨_, rfl, (br_t (by with_unfolding_all rfl) ?_)⟩
  refine d_op (d_var (by with_unfolding_all rfl) ?_)
  refine d_var (by with_unfolding_all rfl) ?_
  refine r_eqS ?_
  dsimp only
  rotate_left
  all_goals
    have fin : ∀ {x y : Bool}, kk (.bl x) → x = y → kk (.bl y) := fun h e => e ▸ h
    exact fin q (by simp)
end
end Pr
set_option Elab.async false
set_option linter.all false
set_option maxRecDepth 100000
set_option maxHeartbeats 2000000
namespace Pr
open PySem L2 PD
section
variable {P : Program} {w : World} {K : PySem.W.Frag} {mg : Str → Option Value} {base : Heap}
def spMix (K : PySem.W.Frag) : Sp := fun vs H Q _ => ∃ (a : Addr) (ns : List Int), vs = [.ref a, .int 5] ∧ SqL K H a (ns.map V.int) ∧
  ∀ (m : Int) (ah as : Addr) (H' : Hp), 0 ≤ m → m < 2147483647 → H' ah = some (.lst [.int m, .ref as, .int 0]) → H' as = some (.lst (ns.map V.int)) → Q (.ref ah) H'
theorem ok_mix (F : DefT K mg "_law_mix" s_law_mix) (zl : mg "list" = none) : ∃ f fd, mg "_law_mix" = some (.ref f) ∧ PySem.W.keepIn K (.ref f) = true ∧ Binds K fd ["_law_script", "_law_seed"] [] ∧ FnOk P w K mg base CX0 1 f fd ["_law_script", "_law_seed"] (spMix K) := by
  obtain ⟨f, fd, h1, h2⟩ := F
  refine ⟨f, fd, h1, h2.kp, h2.bindsN (fun _ _ _ _ _ _ us hl => match us, hl with | [_, _], _ => rfl), ?_⟩
  refine h2.ok sc_law_mix (fun vs H Q E h => ?_) (fun cdv A outer s H vs Q E hr h => ?_)
  · obtain ⟨_, _, rfl, _⟩ := h
    rfl
  obtain ⟨a, ns, rfl, hS, z⟩ := h
  refine ⟨_, PSs.nox ((pss_cons (ps_set (i := 2) sc_law_mix.nd rfl (by first | exact Or.inl rfl | exact Or.inr rfl) (pv 1))
      (pss_cons (ps_for PassesOwn.never rfl (pi_list (pv 0)) (pg_name (i := 3) sc_law_mix.nd rfl (by first | exact Or.inl rfl | exact Or.inr rfl)) (pss_one (ps_set (i := 2) sc_law_mix.nd rfl (by first | exact Or.inl rfl | exact Or.inr rfl) (pe_op op_modN (pe_op op_add (pe_op op_add (pe_op op_mul (pv 2) pe_int) (pe_op op_modN (pv 3) pe_int)) pe_int) pe_int))))
      (pss_one (ps_ret (pe_lst (pa_cons (pv 2) (pa_cons (pe_callTy (r := rListQ K) (T := "list")  call_list_of (by rfl) zl (by decide +kernel) (pa_cons (pv 0) pa_nil)) (pa_cons pe_int pa_nil))))))))), ?_⟩
  refine ⟨_, rfl, ?_⟩
  refine ⟨_, rfl, a, rfl, ⟨_, hS⟩, fun i m σ H' => H' = H ∧ i ≤ ns.length ∧ m = ns.length - i ∧ ∃ (x : Int) (s3 : Option V), 0 ≤ x ∧ x < 2147483647 ∧ σ = [some (.ref a), some (.int 5), some (.int x), s3], ⟨_, rfl, Nat.zero_le _, rfl, 5, none, by omega, by omega, rfl⟩, ?_⟩
  rintro i m σ H' ⟨rfl, hi, rfl, x, s3, x0, x1, rfl⟩
  by_cases hl : i < ns.length
  · refine .inr ⟨⟨_, .int ns[i], hS, by simp [hl]⟩, fun σ' H'' => ∃ m', m' < ns.length - i ∧ (H'' = H' ∧ i + 1 ≤ ns.length ∧ m' = ns.length - (i + 1) ∧ ∃ (x : Int) (s3 : Option V), 0 ≤ x ∧ x < 2147483647 ∧ σ' = [some (.ref a), some (.int 5), some (.int x), s3]), fun σ' H'' h => h, fun v H2 ⟨e1, e2⟩ => ?_⟩
    subst e1
    have ev := e2 _ hS
    rw [List.getElem?_map, List.getElem?_eq_getElem hl] at ev
    have ev := Option.some.inj ev
    subst ev
    refine ⟨_, rfl, _, _, rfl, rfl, .inr (by decide), _, rfl, _, _, rfl, rfl, (show (2147483629 : Int) ≠ 0 by decide), _, _, rfl, rfl, _, _, rfl, rfl, _, _, rfl, rfl, (show (2147483647 : Int) ≠ 0 by decide), ?_⟩
    exact ⟨_, by omega, rfl, hl, rfl, _, _, Int.fmod_nonneg_of_pos _ (by decide), Int.fmod_lt_of_pos _ (by decide), rfl⟩
  · refine .inl ⟨⟨_, hS, by simp; omega⟩, ?_⟩
    refine ⟨_, rfl, _, rfl, a, _, rfl, .inl hS, fun l hl' => ⟨(show 3 ≤ sizeLine by decide), fun p hp => ?_⟩⟩
    have ne : l ≠ p := ne_of_none upd_same hp
    exact z x p l _ x0 x1 upd_same ((upd_ne ne).trans upd_same)
end
end Pr
set_option Elab.async false
set_option linter.all false
set_option maxRecDepth 100000
set_option maxHeartbeats 2000000
namespace Pr
open PySem L2 PD
abbrev s_law_reckoned : Stmt := top 49
abbrev N_law_reckoned : List Str := ["_law_body_here", "_law_e", "_law_kinds", "_law_arm", "_law_word", "_law_takes", "_law_tells", "_law_due_here", "_law_told"]
theorem sc_law_reckoned : FnScope N_law_reckoned ["_law_body_here", "_law_e"] (defScope s_law_reckoned) := ⟨rfl, rfl, rfl, by decide +kernel, rfl, by decide +kernel, by decide +kernel⟩

section
variable {P : Program} {w : World} {K : PySem.W.Frag} {mg : Str → Option Value} {base : Heap}
def oS : Option Str → Str
  | some s => s
  | none => ""
def dueD : List (Str × D) := mergeD (mergeD [] [("not", .lst [.str "truth"]), ("and", .lst (List.replicate 2 [D.str "truth"]).flatten), ("put", .lst [.str "number", .str "list"]), ("first", .lst [.str "list"]), ("rest", .lst [.str "list"])])
  (mergeD [] [("many", .lst [.str "list"]), ("number", .lst []), ("truth", .lst []), ("empty", .lst [])])
def toldD : List (Str × D) := putD (mergeD [] [("not", .str "truth"), ("and", .str "truth"), ("below", .str "truth"), ("truth", .str "truth"), ("put", .str "list"), ("rest", .str "list")]) "empty" (.str "list")
theorem due_of {v : Str} {as : List Str} {t : Str} (h : (v, as, t) ∈ fixTab) : (lookD dueD v).getD (.lst (List.replicate 2 [D.str "number"]).flatten) = .lst (strsOf as) ∧ (lookD toldD v).getD (.str "number") = .str t := by
  simp only [fixTab, List.mem_cons, List.not_mem_nil, or_false, Prod.mk.injEq] at h
  rcases h with ⟨rfl, rfl, rfl⟩ | ⟨rfl, rfl, rfl⟩ | ⟨rfl, rfl, rfl⟩ | ⟨rfl, rfl, rfl⟩ | ⟨rfl, rfl, rfl⟩ | ⟨rfl, rfl, rfl⟩ | ⟨rfl, rfl, rfl⟩ | ⟨rfl, rfl, rfl⟩ | ⟨rfl, rfl, rfl⟩ | ⟨rfl, rfl, rfl⟩ | ⟨rfl, rfl, rfl⟩ | ⟨rfl, rfl, rfl⟩ | ⟨rfl, rfl, rfl⟩ <;> exact ⟨rfl, rfl⟩
def M_reck (n : Nat) : List D → (D → Prop) → Prop := fun ds k => ∃ (b : B) (takes : Str) (calls : CT) (cells : ET), ds = [b.toD, eD takes calls cells] ∧ b.ok ∧ b.depth ≤ n ∧ EnvOk takes calls cells ∧ k (.str (oS (b.kind takes calls cells)))
theorem m_reck {n : Nat} {b : B} {takes : Str} {calls : CT} {cells : ET} {k : D → Prop} (h1 : b.ok) (h2 : b.depth ≤ n) (h3 : EnvOk takes calls cells) (h : k (.str (oS (b.kind takes calls cells)))) : M_reck n [b.toD, eD takes calls cells] k := ⟨b, takes, calls, cells, rfl, h1, h2, h3, h⟩
abbrev fixS (K : PySem.W.Frag) : TS := (tSeq (tAsg (tDisp [(tC (V.str "not"), tLst (tCons (tC (V.str "truth")) tNil)), (tC (V.str "and"), tOp rRep (tLst (tCons (tC (V.str "truth")) tNil)) (tC (V.int 2))), (tC (V.str "put"), tLst (tCons (tC (V.str "number")) (tCons (tC (V.str "list")) tNil))), (tC (V.str "first"), tLst (tCons (tC (V.str "list")) tNil)), (tC (V.str "rest"), tLst (tCons (tC (V.str "list")) tNil))]) (gName 7))
      (tSeq (tDrop (tBM K "dict" rDUpd (tVar 7) (tCons (tDisp [(tC (V.str "many"), tLst (tCons (tC (V.str "list")) tNil)), (tC (V.str "number"), tLst tNil), (tC (V.str "truth"), tLst tNil), (tC (V.str "empty"), tLst tNil)]) tNil)))
      (tSeq (tAsg (tDisp [(tC (V.str "not"), tC (V.str "truth")), (tC (V.str "and"), tC (V.str "truth")), (tC (V.str "below"), tC (V.str "truth")), (tC (V.str "truth"), tC (V.str "truth")), (tC (V.str "put"), tC (V.str "list")), (tC (V.str "rest"), tC (V.str "list"))]) (gName 8))
      (tSeq (sDPut (tVar 8) (tC (V.str "empty")) (tC (V.str "list")))
      (tRet (tIf (tTest (tOp (rEqD K) (tVar 2) (tDGet2 (tVar 7) (tVar 4) (tOp rRep (tLst (tCons (tC (V.str "number")) tNil)) (tC (V.int 2)))))) (tDGet2 (tVar 8) (tVar 4) (tC (V.str "number"))) (tC (V.str ""))))))))
theorem fix_id {hs : Option (Addr × Addr)} {ρ : List Sl} {E : DEnds} (h : dS K hs (fixS K) ρ E) : dS K hs (fixS K) ρ E := h
/-- the last row of the reckoning, for words of the table -/
theorem fix_end {hs : Option (Addr × Addr)} {v : Str} {as ks : List Str} {t : Str} {s0 s1 s3 s5 s6 : Sl} {kk : D → Prop} {E : DEnds} (hv : (v, as, t) ∈ fixTab) (la : ∀ s ∈ as, PyData.strOk s = true) (lk : ∀ s ∈ ks, PyData.strOk s = true) (er : E.rt = kk) (q : kk (.str (if ks = as then t else ""))) :
    dS K hs (fixS K) [s0, s1, .d (.lst (strsOf ks)), s3, .d (.str v), s5, s6, .un, .un] E := by
  obtain ⟨d1, d2⟩ := due_of hv
  refine s_updD (show 7 < 9 by decide) (m_disp ?_)
  refine dP_cons (d_c (by with_unfolding_all rfl) ?_)
  refine ⟨_, rfl, (d_lst (d_cons (d_c (by with_unfolding_all rfl) ?_)))⟩
  refine d_nil (And.intro (show List.length _ ≤ 100000 by simp) ?_)
  refine dP_cons (d_c (by with_unfolding_all rfl) ?_)
  refine ⟨_, rfl, ?_⟩
  refine d_ofL (l_rep (d_lst (d_cons (d_c (by with_unfolding_all rfl) ?_))))
  refine d_nil (And.intro (show List.length _ ≤ 100000 by simp) ?_)
  refine d_c (by with_unfolding_all rfl) ?_
  refine ⟨_, 2, rfl, rfl, by simp, by omega, ?_⟩
  refine dP_cons (d_c (by with_unfolding_all rfl) ?_)
  refine ⟨_, rfl, (d_lst (d_cons (d_c (by with_unfolding_all rfl) ?_)))⟩
  refine d_cons (d_c (by with_unfolding_all rfl) ?_)
  refine d_nil (And.intro (show List.length _ ≤ 100000 by simp) ?_)
  refine dP_cons (d_c (by with_unfolding_all rfl) ?_)
  refine ⟨_, rfl, (d_lst (d_cons (d_c (by with_unfolding_all rfl) ?_)))⟩
  refine d_nil (And.intro (show List.length _ ≤ 100000 by simp) ?_)
  refine dP_cons (d_c (by with_unfolding_all rfl) ?_)
  refine ⟨_, rfl, (d_lst (d_cons (d_c (by with_unfolding_all rfl) ?_)))⟩
  refine d_nil (And.intro (show List.length _ ≤ 100000 by simp) ?_)
  refine dP_nil (And.intro (show List.length _ ≤ 15 by simp) ?_)
  rotate_left
  refine d_disp ?_
  refine dP_cons (d_c (by with_unfolding_all rfl) ?_)
  refine ⟨_, rfl, (d_lst (d_cons (d_c (by with_unfolding_all rfl) ?_)))⟩
  refine d_nil (And.intro (show List.length _ ≤ 100000 by simp) ?_)
  refine dP_cons (d_c (by with_unfolding_all rfl) ?_)
  refine ⟨_, rfl, (d_lst (d_nil (And.intro (show List.length _ ≤ 100000 by simp) ?_)))⟩
  refine dP_cons (d_c (by with_unfolding_all rfl) ?_)
  refine ⟨_, rfl, (d_lst (d_nil (And.intro (show List.length _ ≤ 100000 by simp) ?_)))⟩
  refine dP_cons (d_c (by with_unfolding_all rfl) ?_)
  refine ⟨_, rfl, (d_lst (d_nil (And.intro (show List.length _ ≤ 100000 by simp) ?_)))⟩
  refine dP_nil (And.intro (show List.length _ ≤ 15 by simp) ?_)
  refine ⟨_, rfl, ?_⟩
  rotate_left
  refine ⟨Nat.le_of_ble_eq_true rfl, ?_⟩
  change dS K hs _ [s0, s1, .d (.lst (strsOf ks)), s3, .d (.str v), s5, s6, .d (.dct dueD), .un] E
  refine s_putD (show 8 < 9 by decide) (m_disp ?_)
  refine dP_cons (d_c (by with_unfolding_all rfl) ?_)
  refine ⟨_, rfl, (d_c (by with_unfolding_all rfl) ?_)⟩
  refine dP_cons (d_c (by with_unfolding_all rfl) ?_)
  refine ⟨_, rfl, (d_c (by with_unfolding_all rfl) ?_)⟩
  refine dP_cons (d_c (by with_unfolding_all rfl) ?_)
  refine ⟨_, rfl, (d_c (by with_unfolding_all rfl) ?_)⟩
  refine dP_cons (d_c (by with_unfolding_all rfl) ?_)
  refine ⟨_, rfl, (d_c (by with_unfolding_all rfl) ?_)⟩
  refine dP_cons (d_c (by with_unfolding_all rfl) ?_)
  refine ⟨_, rfl, (d_c (by with_unfolding_all rfl) ?_)⟩
  refine dP_cons (d_c (by with_unfolding_all rfl) ?_)
  refine ⟨_, rfl, (d_c (by with_unfolding_all rfl) ?_)⟩
  refine dP_nil (And.intro (show List.length _ ≤ 15 by simp) ?_)
  rotate_left
  refine ⟨Nat.le_of_ble_eq_true rfl, ?_⟩
  refine d_c (by with_unfolding_all rfl) ?_
  refine d_c (by with_unfolding_all rfl) ?_
  refine ⟨_, rfl, ?_⟩
  rotate_left
  change dS K hs _ [s0, s1, .d (.lst (strsOf ks)), s3, .d (.str v), s5, s6, .d (.dct dueD), .d (.dct toldD)] E
  refine s_ret (d_ifE (d_test (d_op (d_var rfl (d_dget2 (d_var rfl ⟨_, rfl, d_var rfl (d_ofL (l_rep ?_))⟩))))))
  refine d_lst (d_cons (d_c (by with_unfolding_all rfl) ?_))
  refine d_nil (And.intro (show List.length _ ≤ 100000 by simp) ?_)
  refine d_c (by with_unfolding_all rfl) ?_
  rotate_left
  refine ⟨_, 2, rfl, rfl, by simp, by omega, _, rfl, ?_⟩
  rw [d1]
  rw [er]
  refine r_eqL lk la ⟨_, rfl, fun e => ?_, fun e => ?_⟩
  · have e := of_decide_eq_true e
    refine d_dget2 (d_var rfl ⟨_, rfl, d_var rfl (d_c rfl ⟨_, rfl, ?_⟩)⟩)
    rw [d2]
    rw [if_pos e] at q
    exact q
  · have e := of_decide_eq_false e
    rw [if_neg e] at q
    exact d_c rfl q
theorem d_dget2v {hs : Option (Addr × Addr)} {ρ : List Sl} {k : D → Prop} {ta tb tc : TE} (h : dE K hs ta ρ fun x => ∃ c : ET, x = etD c ∧ dE K hs tb ρ fun y => dE K hs tc ρ fun x' => ∃ s, x' = .str "" ∧ y = .str s ∧ k (.str (oS (lookS c s)))) : dE K hs (tDGet2 ta tb tc) ρ k :=
  d_dget2 fun H0 σ G H Q f R z => h H0 σ G H Q f R fun v G' H' x s r ⟨c, e, q⟩ => z v G' H' x s r ⟨_, e, fun H0 σ G H Q f R z => q H0 σ G H Q f R fun v G' H' y s r q => z v G' H' y s r fun H0 σ G H Q f R z => q H0 σ G H Q f R fun v G' H' x' s r ⟨t, e, e2, q⟩ => z v G' H' x' s r ⟨t, e2, by
    rw [look_map D.str]
    subst e
    revert q
    cases lookS c t <;> intro q <;> exact q⟩⟩
def pairE : Option (Str × Str) → D
  | some p => .tup [.str p.1, .str p.2]
  | none => .tup [.str "", .str ""]
theorem d_dget2w {hs : Option (Addr × Addr)} {ρ : List Sl} {k : D → Prop} {ta tb tc : TE} (h : dE K hs ta ρ fun x => ∃ c : CT, x = ctD c ∧ dE K hs tb ρ fun y => dE K hs tc ρ fun x' => ∃ s, x' = .tup [.str "", .str ""] ∧ y = .str s ∧ k (pairE (lookS c s))) : dE K hs (tDGet2 ta tb tc) ρ k :=
  d_dget2 fun H0 σ G H Q f R z => h H0 σ G H Q f R fun v G' H' x s r ⟨c, e, q⟩ => z v G' H' x s r ⟨_, e, fun H0 σ G H Q f R z => q H0 σ G H Q f R fun v G' H' y s r q => z v G' H' y s r fun H0 σ G H Q f R z => q H0 σ G H Q f R fun v G' H' x' s r ⟨t, e, e2, q⟩ => z v G' H' x' s r ⟨t, e2, by
    rw [look_map (fun p : Str × Str => D.tup [.str p.1, .str p.2])]
    subst e
    revert q
    cases lookS c t <;> intro q <;> exact q⟩⟩
theorem d_eG {hs : Option (Addr × Addr)} {ρ : List Sl} {i : Nat} {takes : Str} {calls : CT} {cells : ET} {x : Str} {d : D} {k : D → Prop} (e : ρ[i]? = some (.d (eD takes calls cells))) (l : lookD [("takes", .str takes), ("deeds", ctD calls), ("cells", etD cells)] x = some d) (q : k d) : dE K hs (tDGet (tVar i) (tC (.str x))) ρ k :=
  d_dget (d_var e (d_c rfl ⟨_, _, d, rfl, rfl, l, q⟩))
theorem ok_reckoned (F : DefT K mg "_law_reckoned" s_law_reckoned) (zi : mg "isinstance" = none) (zt : mg "tuple" = none) : ∀ n : Nat, Cal P w K mg base (n + 1) "_law_reckoned" ["_law_body_here", "_law_e"] none (M_reck n) := by
  intro n
  induction n with
  | zero =>
    refine okF F sc_law_reckoned (fun _ _ _ _ _ _ us hl => match us, hl with | [_, _], _ => rfl) (fun ds k h => ?_) (fun f cdv A outer s H E ds kk hr h => ?_)
    · obtain ⟨_, _, _, _, rfl, _⟩ := h
      rfl
    · obtain ⟨b, _, _, _, _, _, h, _⟩ := h
      have := depth_pos b
      omega
  | succ n ih =>
    have C_law_reckoned := ih
    refine okF F sc_law_reckoned (fun _ _ _ _ _ _ us hl => match us, hl with | [_, _], _ => rfl) (fun ds k h => ?_) (fun f cdv A outer s H E ds kk hr h => ?_)
    · obtain ⟨_, _, _, _, rfl, _⟩ := h
      rfl
    obtain ⟨b, takes, calls, cells, rfl, hb, hd, he, q⟩ := h
    have hu := hu_of hr
    refine ⟨_, (pss_cons (ps_setLc (i := 2) (own := [("_law_arm", 3)]) (g := gName 3) rfl sc_law_reckoned.nd rfl rfl (sw_true rfl rfl rfl (by decide +kernel)) (pi_tup (pe_slice (r := rSlA K) sl_tupA (pv 0) (po_some pe_int) po_none)) (blkOk_by (own := [("_law_arm", 3)]) (N := N_law_reckoned) (sc := defScope s_law_reckoned) (by decide +kernel)) (fun _ _ _ _ _ => (pg_name (i := 3) sc_law_reckoned.nd rfl (by first | exact Or.inl rfl | exact Or.inr rfl))) (fun _ _ _ _ _ => (pts_one (pt_val (pe_callB (r := rIsi K) (id := "isinstance")  call_isi (by rfl) zi (by decide +kernel) (pa_cons (pv 3) (pa_cons (pe_bty (n := "tuple") rfl zt (by decide +kernel)) pa_nil)))))) (fun _ _ _ _ _ => (pe_calK (K := K) rfl C_law_reckoned (hr.mono (by first | decide | omega)) rfl (pa_cons (pv 3) (pa_cons (pv 1) pa_nil)))))
      (pss_cons (ps_set (i := 4) sc_law_reckoned.nd rfl (by first | exact Or.inl rfl | exact Or.inr rfl) (pe_ix (r := rIx K) ix_seq (pv 0) pe_int (fun _ _ => rfl)))
      (pss_cons (ps_if (pt_cmpR (r := rIn K false) op_in_seq pe_str (pv 2) rfl) (pss_one (ps_ret pe_str)) pss_nil)
      (pss_cons (ps_if (pt_cmpR op_eq (pv 4) pe_str (nomark _)) (pss_one (ps_ret (pe_dget hu (pv 1) pe_str (fun _ _ => rfl)))) pss_nil)
      (pss_cons (ps_if (pt_cmpR op_eq (pv 4) pe_str (nomark _)) (pss_one (ps_ret (pe_dget2 hu (pe_dget hu (pv 1) pe_str (fun _ _ => rfl)) (pe_ix (r := rIx K) ix_seq (pv 0) pe_int (fun _ _ => rfl)) pe_str ⟨rfl, rfl, rfl, rfl⟩))) pss_nil)
      (pss_cons (ps_if (pt_cmpR op_eq (pv 4) pe_str (nomark _)) (pss_one (ps_ret (pe_ifExp (pt_cmpR op_eq (pe_dget1 hu (pe_dget hu (pv 1) pe_str (fun _ _ => rfl)) (pe_ix (r := rIx K) ix_seq (pv 0) pe_int (fun _ _ => rfl)) ⟨rfl, rfl, rfl, rfl⟩) (pe_ix (r := rIx K) ix_seq (pv 2) pe_int (fun _ _ => rfl)) (nomark _)) (pe_ix (r := rIx K) ix_seq (pv 2) pe_int (fun _ _ => rfl)) pe_str))) pss_nil)
      (pss_cons (ps_if (pt_cmpR op_eq (pv 4) pe_str (nomark _)) (pss_cons (ps_asg (pe_dget2 hu (pe_dget hu (pv 1) pe_str (fun _ _ => rfl)) (pe_ix (r := rIx K) ix_seq (pv 0) pe_int (fun _ _ => rfl)) (pe_tup (pa_cons pe_str (pa_cons pe_str pa_nil))) ⟨rfl, rfl, rfl, rfl⟩) (pg_tupK (K := K) (n := 2) rfl rfl (pgs_cons (pg_name (i := 5) sc_law_reckoned.nd rfl (by first | exact Or.inl rfl | exact Or.inr rfl)) (pgs_cons (pg_name (i := 6) sc_law_reckoned.nd rfl (by first | exact Or.inl rfl | exact Or.inr rfl)) pgs_nil))))
      (pss_one (ps_ret (pe_ifExp (pt_cmpR op_eq (pv 5) (pe_ix (r := rIx K) ix_seq (pv 2) pe_int (fun _ _ => rfl)) (nomark _)) (pv 6) pe_str)))) pss_nil)
      (pss_cons (ps_if (pt_cmpR (r := rIn K false) op_in_seq (pv 4) (pe_tup (pa_cons pe_str (pa_cons pe_str pa_nil))) rfl) (pss_one (ps_ret (pe_ifExp (pt_cmpR op_eq (pv 4) pe_str (nomark _)) (pe_ix (r := rIx K) ix_seq (pv 2) pe_int (fun _ _ => rfl)) (pe_ifExp (pt_cmpR op_eq (pe_ix (r := rIx K) ix_seq (pv 2) pe_int (fun _ _ => rfl)) (pe_ix (r := rIx K) ix_seq (pv 2) pe_int (fun _ _ => rfl)) (nomark _)) pe_str pe_str)))) pss_nil)
      (pss_cons (ps_if (pt_cmpR op_eq (pv 4) pe_str (nomark _)) (pss_one (ps_ret (pe_ifExp (PW.pt (pw_and (pt_cmpR op_eq (pe_ix (r := rIx K) ix_seq (pv 2) pe_int (fun _ _ => rfl)) pe_str (nomark _)) (pw_and1 (pt_cmpR op_eq (pe_ix (r := rIx K) ix_seq (pv 2) pe_int (fun _ _ => rfl)) (pe_ix (r := rIx K) ix_seq (pv 2) pe_int (fun _ _ => rfl)) (nomark _))))) (pe_ix (r := rIx K) ix_seq (pv 2) pe_int (fun _ _ => rfl)) pe_str))) pss_nil)
      (pss_cons (ps_set (i := 7) sc_law_reckoned.nd rfl (by first | exact Or.inl rfl | exact Or.inr rfl) (pe_disp (pps_cons pe_str (pe_lst (pa_cons pe_str pa_nil)) (pps_cons pe_str (pe_op op_rep (pe_lst (pa_cons pe_str pa_nil)) pe_int) (pps_cons pe_str (pe_lst (pa_cons pe_str (pa_cons pe_str pa_nil))) (pps_cons pe_str (pe_lst (pa_cons pe_str pa_nil)) (pps_cons pe_str (pe_lst (pa_cons pe_str pa_nil)) pps_nil))))) (by rfl) (by rfl) (fun z => by cases z) (by decide)))
      (pss_cons (ps_expr (pe_bm PySem.F.plainAttrs_dict PySem.F.slot_dict_update PySem.F.type_dict_update PD.mt_dupd (pv 7) (pa_cons (pe_disp (pps_cons pe_str (pe_lst (pa_cons pe_str pa_nil)) (pps_cons pe_str (pe_lst pa_nil) (pps_cons pe_str (pe_lst pa_nil) (pps_cons pe_str (pe_lst pa_nil) pps_nil)))) (by rfl) (by rfl) (fun z => by cases z) (by decide)) pa_nil)))
      (pss_cons (ps_set (i := 8) sc_law_reckoned.nd rfl (by first | exact Or.inl rfl | exact Or.inr rfl) (pe_disp (pps_cons pe_str pe_str (pps_cons pe_str pe_str (pps_cons pe_str pe_str (pps_cons pe_str pe_str (pps_cons pe_str pe_str (pps_cons pe_str pe_str pps_nil)))))) (by rfl) (by rfl) (fun z => by cases z) (by decide)))
      (pss_cons (ps_dput hu (pv 8) pe_str pe_str (by rfl))
      (pss_one (ps_ret (pe_ifExp (pt_cmpR (r := rEqD K) (op_eqD hr.units) (pv 2) (pe_dget2 hu (pv 7) (pv 4) (pe_op op_rep (pe_lst (pa_cons pe_str pa_nil)) pe_int) ⟨rfl, rfl, rfl, rfl⟩) (nomark _)) (pe_dget2 hu (pv 8) (pv 4) pe_str ⟨rfl, rfl, rfl, rfl⟩) pe_str)))))))))))))))), ?_⟩
    try dsimp only [cxOf]
    change dS _ _ _ [Sl.d _, Sl.d _, Sl.un, Sl.un, Sl.un, Sl.un, Sl.un, Sl.un, Sl.un] _
    have kin := kind_in he
    have fin : ∀ {o o' : Str}, kk (.str o) → o = o' → kk (.str o') := fun h e => e ▸ h
    have ne : ∀ s ∈ kindsS, s ≠ ("" : Str) := by decide +kernel
    have w1 : ∀ v ∈ w1S, decide (v = "argument") = false ∧ decide (v = "cell") = false ∧ decide (v = "set") = false ∧ decide (v = "call") = false ∧ decide (v ∈ (["then", "same"] : List Str)) = false ∧ decide (v = "if") = false ∧ v ∈ fixTab.map (·.1) := by decide +kernel
    have w2 : ∀ v ∈ w2S, decide (v = "argument") = false ∧ decide (v = "cell") = false ∧ decide (v = "set") = false ∧ decide (v = "call") = false ∧ decide (v = "if") = false ∧ (v = "same" ∨ v = "then" ∨ (decide (v ∈ (["then", "same"] : List Str)) = false ∧ v ∈ fixTab.map (·.1))) := by decide +kernel
    have fixE : ∀ {v : Str} {as ks : List Str} {t : Str}, lookS fixTab v = some (as, t) → oS (byArms v ks) = if ks = as then t else "" := fun {v as ks t} e => by
      unfold byArms
      rw [e]
      by_cases h : ks = as <;> simp [h, oS]
    cases b <;> simp only [B.ok] at hb <;> simp only [B.depth] at hd <;> dsimp only [B.toD]
    case num m =>
      have hv : (("number" : Str), ([] : List Str), ("number" : Str)) ∈ fixTab := by decide
      have la : ∀ s ∈ ([] : List Str), PyData.strOk s = true := by simp
      refine s_seq (s_setL (i_tup (d_slT1 (d_var (by with_unfolding_all rfl) ?_))))
      refine ⟨_, _, rfl, ⟨_, rfl, ⟨(show _ ≤ 50000 by simp), ?_⟩⟩⟩
      refine lcW_cons (g_nameV (by decide) ?_)
      refine d_tB (d_cb (d_cons (d_var (by with_unfolding_all rfl) ?_)))
      refine d_cons (d_c (by with_unfolding_all rfl) ?_)
      refine d_nil (c_tup (by with_unfolding_all rfl) ?_)
      refine ⟨_, rfl, (br_f (by with_unfolding_all rfl) ?_)⟩
      refine lcW_nil (s_seq (s_set (d_op (d_var (by with_unfolding_all rfl) ?_))))
      refine d_c (by with_unfolding_all rfl) ?_
      refine r_ix (.inr (r_ixT (by with_unfolding_all rfl) ?_))
      refine s_seq (s_if (d_test (d_op (d_c (by with_unfolding_all rfl) ?_))))
      refine d_var (by with_unfolding_all rfl) ?_
      refine r_in2 (ss := []) ⟨_, rfl, (br_f (by with_unfolding_all rfl) ?_)⟩
      refine s_next (s_seq (s_if (d_test (d_op (d_var (by with_unfolding_all rfl) ?_)))))
      refine d_c (by with_unfolding_all rfl) ?_
      refine r_eqS ⟨_, rfl, (br_f (by with_unfolding_all rfl) ?_)⟩
      refine s_next (s_seq (s_if (d_test (d_op (d_var (by with_unfolding_all rfl) ?_)))))
      refine d_c (by with_unfolding_all rfl) ?_
      refine r_eqS ⟨_, rfl, (br_f (by with_unfolding_all rfl) ?_)⟩
      refine s_next (s_seq (s_if (d_test (d_op (d_var (by with_unfolding_all rfl) ?_)))))
      refine d_c (by with_unfolding_all rfl) ?_
      refine r_eqS ⟨_, rfl, (br_f (by with_unfolding_all rfl) ?_)⟩
      refine s_next (s_seq (s_if (d_test (d_op (d_var (by with_unfolding_all rfl) ?_)))))
      refine d_c (by with_unfolding_all rfl) ?_
      refine r_eqS ⟨_, rfl, (br_f (by with_unfolding_all rfl) ?_)⟩
      refine s_next (s_seq (s_if (d_test (d_op (d_var (by with_unfolding_all rfl) ?_)))))
      refine d_tup (d_cons (d_c (by with_unfolding_all rfl) ?_))
      refine d_cons (d_c (by with_unfolding_all rfl) ?_)
      refine d_nil (And.intro (show List.length _ ≤ 100000 by simp) ?_)
      refine r_in0 (ss := ["then", "same"]) ⟨_, rfl, (br_f (by with_unfolding_all rfl) ?_)⟩
      refine s_next (s_seq (s_if (d_test (d_op (d_var (by with_unfolding_all rfl) ?_)))))
      refine d_c (by with_unfolding_all rfl) ?_
      refine r_eqS ⟨_, rfl, (br_f (by with_unfolding_all rfl) ?_)⟩
      refine s_next ?_
      (refine fix_id ?_; refine fix_end (ks := []) hv la la rfl ?_; exact q)
    case tru m =>
      have hv : (("truth" : Str), ([] : List Str), ("truth" : Str)) ∈ fixTab := by decide
      have la : ∀ s ∈ ([] : List Str), PyData.strOk s = true := by simp
      refine s_seq (s_setL (i_tup (d_slT1 (d_var (by with_unfolding_all rfl) ?_))))
      refine ⟨_, _, rfl, ⟨_, rfl, ⟨(show _ ≤ 50000 by simp), ?_⟩⟩⟩
      refine lcW_cons (g_nameV (by decide) ?_)
      refine d_tB (d_cb (d_cons (d_var (by with_unfolding_all rfl) ?_)))
      refine d_cons (d_c (by with_unfolding_all rfl) ?_)
      refine d_nil (c_tup (by with_unfolding_all rfl) ?_)
      refine ⟨_, rfl, (br_f (by with_unfolding_all rfl) ?_)⟩
      refine lcW_nil (s_seq (s_set (d_op (d_var (by with_unfolding_all rfl) ?_))))
      refine d_c (by with_unfolding_all rfl) ?_
      refine r_ix (.inr (r_ixT (by with_unfolding_all rfl) ?_))
      refine s_seq (s_if (d_test (d_op (d_c (by with_unfolding_all rfl) ?_))))
      refine d_var (by with_unfolding_all rfl) ?_
      refine r_in2 (ss := []) ⟨_, rfl, (br_f (by with_unfolding_all rfl) ?_)⟩
      refine s_next (s_seq (s_if (d_test (d_op (d_var (by with_unfolding_all rfl) ?_)))))
      refine d_c (by with_unfolding_all rfl) ?_
      refine r_eqS ⟨_, rfl, (br_f (by with_unfolding_all rfl) ?_)⟩
      refine s_next (s_seq (s_if (d_test (d_op (d_var (by with_unfolding_all rfl) ?_)))))
      refine d_c (by with_unfolding_all rfl) ?_
      refine r_eqS ⟨_, rfl, (br_f (by with_unfolding_all rfl) ?_)⟩
      refine s_next (s_seq (s_if (d_test (d_op (d_var (by with_unfolding_all rfl) ?_)))))
      refine d_c (by with_unfolding_all rfl) ?_
      refine r_eqS ⟨_, rfl, (br_f (by with_unfolding_all rfl) ?_)⟩
      refine s_next (s_seq (s_if (d_test (d_op (d_var (by with_unfolding_all rfl) ?_)))))
      refine d_c (by with_unfolding_all rfl) ?_
      refine r_eqS ⟨_, rfl, (br_f (by with_unfolding_all rfl) ?_)⟩
      refine s_next (s_seq (s_if (d_test (d_op (d_var (by with_unfolding_all rfl) ?_)))))
      refine d_tup (d_cons (d_c (by with_unfolding_all rfl) ?_))
      refine d_cons (d_c (by with_unfolding_all rfl) ?_)
      refine d_nil (And.intro (show List.length _ ≤ 100000 by simp) ?_)
      refine r_in0 (ss := ["then", "same"]) ⟨_, rfl, (br_f (by with_unfolding_all rfl) ?_)⟩
      refine s_next (s_seq (s_if (d_test (d_op (d_var (by with_unfolding_all rfl) ?_)))))
      refine d_c (by with_unfolding_all rfl) ?_
      refine r_eqS ⟨_, rfl, (br_f (by with_unfolding_all rfl) ?_)⟩
      refine s_next ?_
      (refine fix_id ?_; refine fix_end (ks := []) hv la la rfl ?_; exact q)
    case emp =>
      have hv : (("empty" : Str), ([] : List Str), ("list" : Str)) ∈ fixTab := by decide
      have la : ∀ s ∈ ([] : List Str), PyData.strOk s = true := by simp
      refine s_seq (s_setL (i_tup (d_slT1 (d_var (by with_unfolding_all rfl) ?_))))
      refine ⟨_, _, rfl, ⟨_, rfl, ⟨(show _ ≤ 50000 by simp), ?_⟩⟩⟩
      refine lcW_nil (s_seq (s_set (d_op (d_var (by with_unfolding_all rfl) ?_))))
      refine d_c (by with_unfolding_all rfl) ?_
      refine r_ix (.inr (r_ixT (by with_unfolding_all rfl) ?_))
      refine s_seq (s_if (d_test (d_op (d_c (by with_unfolding_all rfl) ?_))))
      refine d_var (by with_unfolding_all rfl) ?_
      refine r_in2 (ss := []) ⟨_, rfl, (br_f (by with_unfolding_all rfl) ?_)⟩
      refine s_next (s_seq (s_if (d_test (d_op (d_var (by with_unfolding_all rfl) ?_)))))
      refine d_c (by with_unfolding_all rfl) ?_
      refine r_eqS ⟨_, rfl, (br_f (by with_unfolding_all rfl) ?_)⟩
      refine s_next (s_seq (s_if (d_test (d_op (d_var (by with_unfolding_all rfl) ?_)))))
      refine d_c (by with_unfolding_all rfl) ?_
      refine r_eqS ⟨_, rfl, (br_f (by with_unfolding_all rfl) ?_)⟩
      refine s_next (s_seq (s_if (d_test (d_op (d_var (by with_unfolding_all rfl) ?_)))))
      refine d_c (by with_unfolding_all rfl) ?_
      refine r_eqS ⟨_, rfl, (br_f (by with_unfolding_all rfl) ?_)⟩
      refine s_next (s_seq (s_if (d_test (d_op (d_var (by with_unfolding_all rfl) ?_)))))
      refine d_c (by with_unfolding_all rfl) ?_
      refine r_eqS ⟨_, rfl, (br_f (by with_unfolding_all rfl) ?_)⟩
      refine s_next (s_seq (s_if (d_test (d_op (d_var (by with_unfolding_all rfl) ?_)))))
      refine d_tup (d_cons (d_c (by with_unfolding_all rfl) ?_))
      refine d_cons (d_c (by with_unfolding_all rfl) ?_)
      refine d_nil (And.intro (show List.length _ ≤ 100000 by simp) ?_)
      refine r_in0 (ss := ["then", "same"]) ⟨_, rfl, (br_f (by with_unfolding_all rfl) ?_)⟩
      refine s_next (s_seq (s_if (d_test (d_op (d_var (by with_unfolding_all rfl) ?_)))))
      refine d_c (by with_unfolding_all rfl) ?_
      refine r_eqS ⟨_, rfl, (br_f (by with_unfolding_all rfl) ?_)⟩
      refine s_next ?_
      (refine fix_id ?_; refine fix_end (ks := []) hv la la rfl ?_; exact q)
    case arg =>
      refine s_seq (s_setL (i_tup (d_slT1 (d_var (by with_unfolding_all rfl) ?_))))
      refine ⟨_, _, rfl, ⟨_, rfl, ⟨(show _ ≤ 50000 by simp), ?_⟩⟩⟩
      refine lcW_nil (s_seq (s_set (d_op (d_var (by with_unfolding_all rfl) ?_))))
      refine d_c (by with_unfolding_all rfl) ?_
      refine r_ix (.inr (r_ixT (by with_unfolding_all rfl) ?_))
      refine s_seq (s_if (d_test (d_op (d_c (by with_unfolding_all rfl) ?_))))
      refine d_var (by with_unfolding_all rfl) ?_
      refine r_in2 (ss := []) ⟨_, rfl, (br_f (by with_unfolding_all rfl) ?_)⟩
      refine s_next (s_seq (s_if (d_test (d_op (d_var (by with_unfolding_all rfl) ?_)))))
      refine d_c (by with_unfolding_all rfl) ?_
      refine r_eqS ⟨_, rfl, (br_t (by with_unfolding_all rfl) ?_)⟩
      refine s_ret (d_eG (x := "takes") (by with_unfolding_all rfl) rfl ?_)
      dsimp only
      rotate_left
      exact q
    case cel c =>
      refine s_seq (s_setL (i_tup (d_slT1 (d_var (by with_unfolding_all rfl) ?_))))
      refine ⟨_, _, rfl, ⟨_, rfl, ⟨(show _ ≤ 50000 by simp), ?_⟩⟩⟩
      refine lcW_cons (g_nameV (by decide) ?_)
      refine d_tB (d_cb (d_cons (d_var (by with_unfolding_all rfl) ?_)))
      refine d_cons (d_c (by with_unfolding_all rfl) ?_)
      refine d_nil (c_tup (by with_unfolding_all rfl) ?_)
      refine ⟨_, rfl, (br_f (by with_unfolding_all rfl) ?_)⟩
      refine lcW_nil (s_seq (s_set (d_op (d_var (by with_unfolding_all rfl) ?_))))
      refine d_c (by with_unfolding_all rfl) ?_
      refine r_ix (.inr (r_ixT (by with_unfolding_all rfl) ?_))
      refine s_seq (s_if (d_test (d_op (d_c (by with_unfolding_all rfl) ?_))))
      refine d_var (by with_unfolding_all rfl) ?_
      refine r_in2 (ss := []) ⟨_, rfl, (br_f (by with_unfolding_all rfl) ?_)⟩
      refine s_next (s_seq (s_if (d_test (d_op (d_var (by with_unfolding_all rfl) ?_)))))
      refine d_c (by with_unfolding_all rfl) ?_
      refine r_eqS ⟨_, rfl, (br_f (by with_unfolding_all rfl) ?_)⟩
      refine s_next (s_seq (s_if (d_test (d_op (d_var (by with_unfolding_all rfl) ?_)))))
      refine d_c (by with_unfolding_all rfl) ?_
      refine r_eqS ⟨_, rfl, (br_t (by with_unfolding_all rfl) ?_)⟩
      refine s_ret (d_dget2v (d_eG (x := "cells") (by with_unfolding_all rfl) rfl ?_))
      refine ⟨_, rfl, (d_op (d_var (by with_unfolding_all rfl) ?_))⟩
      refine d_c (by with_unfolding_all rfl) ?_
      refine r_ix (.inr (r_ixT (by with_unfolding_all rfl) ?_))
      refine d_c (by with_unfolding_all rfl) ?_
      refine ⟨_, rfl, rfl, ?_⟩
      dsimp only
      rotate_left
      exact q
    case set c x =>
      have ox := hb.2
      cases hx : x.kind takes calls cells with
      | none =>
        simp only [B.kind, hx] at q
        refine s_seq (s_setL (i_tup (d_slT1 (d_var (by with_unfolding_all rfl) ?_))))
        refine ⟨_, _, rfl, ⟨_, rfl, ⟨(show _ ≤ 50000 by simp), ?_⟩⟩⟩
        refine lcW_cons (g_nameV (by decide) ?_)
        refine d_tB (d_cb (d_cons (d_var (by with_unfolding_all rfl) ?_)))
        refine d_cons (d_c (by with_unfolding_all rfl) ?_)
        refine d_nil (c_tup (by with_unfolding_all rfl) ?_)
        refine ⟨_, rfl, (br_f (by with_unfolding_all rfl) ?_)⟩
        refine lcW_cons (g_nameV (by decide) ?_)
        refine d_tB (d_cb (d_cons (d_var (by with_unfolding_all rfl) ?_)))
        refine d_cons (d_c (by with_unfolding_all rfl) ?_)
        refine d_nil ?_
        refine c_tup (tg_toD _) ⟨_, rfl, (br_t (by with_unfolding_all rfl) ?_)⟩
        refine d_call (d_cons (d_var (by with_unfolding_all rfl) ?_))
        refine d_cons (d_var (by with_unfolding_all rfl) ?_)
        refine d_nil ?_
        (with_reducible refine m_reck ox (by omega) he ?_; rw [hx])
        refine lcW_nil (s_seq (s_set (d_op (d_var (by with_unfolding_all rfl) ?_))))
        refine d_c (by with_unfolding_all rfl) ?_
        refine r_ix (.inr (r_ixT (by with_unfolding_all rfl) ?_))
        refine s_seq (s_if (d_test (d_op (d_c (by with_unfolding_all rfl) ?_))))
        refine d_var (by with_unfolding_all rfl) ?_
        refine r_in2 (ss := [oS none]) ⟨_, rfl, (br_t (by with_unfolding_all rfl) ?_)⟩
        refine s_ret (d_c (by with_unfolding_all rfl) ?_)
        dsimp only
        rotate_left
        all_goals exact q
      | some kx =>
        have nx := ne _ (kin _ _ hx)
        have hin : decide (("" : Str) ∈ ([kx] : List Str)) = false := by simp [Ne.symm nx]
        simp only [B.kind, hx] at q
        by_cases hl : lookS cells c = some kx
        · rw [if_pos hl] at q
          have hd1 : decide (kx = kx) = true := by simp
          refine s_seq (s_setL (i_tup (d_slT1 (d_var (by with_unfolding_all rfl) ?_))))
          refine ⟨_, _, rfl, ⟨_, rfl, ⟨(show _ ≤ 50000 by simp), ?_⟩⟩⟩
          refine lcW_cons (g_nameV (by decide) ?_)
          refine d_tB (d_cb (d_cons (d_var (by with_unfolding_all rfl) ?_)))
          refine d_cons (d_c (by with_unfolding_all rfl) ?_)
          refine d_nil (c_tup (by with_unfolding_all rfl) ?_)
          refine ⟨_, rfl, (br_f (by with_unfolding_all rfl) ?_)⟩
          refine lcW_cons (g_nameV (by decide) ?_)
          refine d_tB (d_cb (d_cons (d_var (by with_unfolding_all rfl) ?_)))
          refine d_cons (d_c (by with_unfolding_all rfl) ?_)
          refine d_nil ?_
          refine c_tup (tg_toD _) ⟨_, rfl, (br_t (by with_unfolding_all rfl) ?_)⟩
          refine d_call (d_cons (d_var (by with_unfolding_all rfl) ?_))
          refine d_cons (d_var (by with_unfolding_all rfl) ?_)
          refine d_nil ?_
          (with_reducible refine m_reck ox (by omega) he ?_; rw [hx]; dsimp only [oS])
          refine lcW_nil (s_seq (s_set (d_op (d_var (by with_unfolding_all rfl) ?_))))
          refine d_c (by with_unfolding_all rfl) ?_
          refine r_ix (.inr (r_ixT (by with_unfolding_all rfl) ?_))
          refine s_seq (s_if (d_test (d_op (d_c (by with_unfolding_all rfl) ?_))))
          refine d_var (by with_unfolding_all rfl) ?_
          refine r_in2 (ss := [kx]) ⟨_, rfl, (br_f (by assumption) ?_)⟩
          refine s_next (s_seq (s_if (d_test (d_op (d_var (by with_unfolding_all rfl) ?_)))))
          refine d_c (by with_unfolding_all rfl) ?_
          refine r_eqS ⟨_, rfl, (br_f (by with_unfolding_all rfl) ?_)⟩
          refine s_next (s_seq (s_if (d_test (d_op (d_var (by with_unfolding_all rfl) ?_)))))
          refine d_c (by with_unfolding_all rfl) ?_
          refine r_eqS ⟨_, rfl, (br_f (by with_unfolding_all rfl) ?_)⟩
          refine s_next (s_seq (s_if (d_test (d_op (d_var (by with_unfolding_all rfl) ?_)))))
          refine d_c (by with_unfolding_all rfl) ?_
          refine r_eqS ⟨_, rfl, (br_t (by with_unfolding_all rfl) ?_)⟩
          refine s_ret (d_ifE (d_test (d_op (d_dget1e (d_eG (x := "cells") (by with_unfolding_all rfl) rfl ?_)))))
          refine ⟨_, rfl, (d_op (d_var (by with_unfolding_all rfl) ?_))⟩
          refine d_c (by with_unfolding_all rfl) ?_
          refine r_ix (.inr (r_ixT (by with_unfolding_all rfl) ?_))
          refine ⟨_, rfl, ?_⟩
          (rw [hl]; dsimp only [optD])
          refine d_op (d_var (by with_unfolding_all rfl) ?_)
          refine d_c (by with_unfolding_all rfl) ?_
          refine r_ix (.inl (r_ixL (by with_unfolding_all rfl) ?_))
          refine r_eqS ⟨_, rfl, (br_t (by assumption) ?_)⟩
          refine d_op (d_var (by with_unfolding_all rfl) ?_)
          refine d_c (by with_unfolding_all rfl) ?_
          refine r_ix (.inl (r_ixL (by with_unfolding_all rfl) ?_))
          rotate_left
          all_goals exact q
        · rw [if_neg hl] at q
          cases hc : lookS cells c with
          | none =>
            refine s_seq (s_setL (i_tup (d_slT1 (d_var (by with_unfolding_all rfl) ?_))))
            refine ⟨_, _, rfl, ⟨_, rfl, ⟨(show _ ≤ 50000 by simp), ?_⟩⟩⟩
            refine lcW_cons (g_nameV (by decide) ?_)
            refine d_tB (d_cb (d_cons (d_var (by with_unfolding_all rfl) ?_)))
            refine d_cons (d_c (by with_unfolding_all rfl) ?_)
            refine d_nil (c_tup (by with_unfolding_all rfl) ?_)
            refine ⟨_, rfl, (br_f (by with_unfolding_all rfl) ?_)⟩
            refine lcW_cons (g_nameV (by decide) ?_)
            refine d_tB (d_cb (d_cons (d_var (by with_unfolding_all rfl) ?_)))
            refine d_cons (d_c (by with_unfolding_all rfl) ?_)
            refine d_nil ?_
            refine c_tup (tg_toD _) ⟨_, rfl, (br_t (by with_unfolding_all rfl) ?_)⟩
            refine d_call (d_cons (d_var (by with_unfolding_all rfl) ?_))
            refine d_cons (d_var (by with_unfolding_all rfl) ?_)
            refine d_nil ?_
            (with_reducible refine m_reck ox (by omega) he ?_; rw [hx]; dsimp only [oS])
            refine lcW_nil (s_seq (s_set (d_op (d_var (by with_unfolding_all rfl) ?_))))
            refine d_c (by with_unfolding_all rfl) ?_
            refine r_ix (.inr (r_ixT (by with_unfolding_all rfl) ?_))
            refine s_seq (s_if (d_test (d_op (d_c (by with_unfolding_all rfl) ?_))))
            refine d_var (by with_unfolding_all rfl) ?_
            refine r_in2 (ss := [kx]) ⟨_, rfl, (br_f (by assumption) ?_)⟩
            refine s_next (s_seq (s_if (d_test (d_op (d_var (by with_unfolding_all rfl) ?_)))))
            refine d_c (by with_unfolding_all rfl) ?_
            refine r_eqS ⟨_, rfl, (br_f (by with_unfolding_all rfl) ?_)⟩
            refine s_next (s_seq (s_if (d_test (d_op (d_var (by with_unfolding_all rfl) ?_)))))
            refine d_c (by with_unfolding_all rfl) ?_
            refine r_eqS ⟨_, rfl, (br_f (by with_unfolding_all rfl) ?_)⟩
            refine s_next (s_seq (s_if (d_test (d_op (d_var (by with_unfolding_all rfl) ?_)))))
            refine d_c (by with_unfolding_all rfl) ?_
            refine r_eqS ⟨_, rfl, (br_t (by with_unfolding_all rfl) ?_)⟩
            refine s_ret (d_ifE (d_test (d_op (d_dget1e (d_eG (x := "cells") (by with_unfolding_all rfl) rfl ?_)))))
            refine ⟨_, rfl, (d_op (d_var (by with_unfolding_all rfl) ?_))⟩
            refine d_c (by with_unfolding_all rfl) ?_
            refine r_ix (.inr (r_ixT (by with_unfolding_all rfl) ?_))
            refine ⟨_, rfl, ?_⟩
            (rw [hc]; dsimp only [optD])
            refine d_op (d_var (by with_unfolding_all rfl) ?_)
            refine d_c (by with_unfolding_all rfl) ?_
            refine r_ix (.inl (r_ixL (by with_unfolding_all rfl) ?_))
            refine r_eq (by with_unfolding_all rfl) (by with_unfolding_all rfl) (by with_unfolding_all rfl) ?_
            refine ⟨_, rfl, (br_f (by with_unfolding_all rfl) ?_)⟩
            refine d_c (by with_unfolding_all rfl) ?_
            rotate_left
            all_goals exact q
          | some kc =>
            have hd1 : decide (kc = kx) = false := decide_eq_false fun e => hl (by rw [hc, e])
            refine s_seq (s_setL (i_tup (d_slT1 (d_var (by with_unfolding_all rfl) ?_))))
            refine ⟨_, _, rfl, ⟨_, rfl, ⟨(show _ ≤ 50000 by simp), ?_⟩⟩⟩
            refine lcW_cons (g_nameV (by decide) ?_)
            refine d_tB (d_cb (d_cons (d_var (by with_unfolding_all rfl) ?_)))
            refine d_cons (d_c (by with_unfolding_all rfl) ?_)
            refine d_nil (c_tup (by with_unfolding_all rfl) ?_)
            refine ⟨_, rfl, (br_f (by with_unfolding_all rfl) ?_)⟩
            refine lcW_cons (g_nameV (by decide) ?_)
            refine d_tB (d_cb (d_cons (d_var (by with_unfolding_all rfl) ?_)))
            refine d_cons (d_c (by with_unfolding_all rfl) ?_)
            refine d_nil ?_
            refine c_tup (tg_toD _) ⟨_, rfl, (br_t (by with_unfolding_all rfl) ?_)⟩
            refine d_call (d_cons (d_var (by with_unfolding_all rfl) ?_))
            refine d_cons (d_var (by with_unfolding_all rfl) ?_)
            refine d_nil ?_
            (with_reducible refine m_reck ox (by omega) he ?_; rw [hx]; dsimp only [oS])
            refine lcW_nil (s_seq (s_set (d_op (d_var (by with_unfolding_all rfl) ?_))))
            refine d_c (by with_unfolding_all rfl) ?_
            refine r_ix (.inr (r_ixT (by with_unfolding_all rfl) ?_))
            refine s_seq (s_if (d_test (d_op (d_c (by with_unfolding_all rfl) ?_))))
            refine d_var (by with_unfolding_all rfl) ?_
            refine r_in2 (ss := [kx]) ⟨_, rfl, (br_f (by assumption) ?_)⟩
            refine s_next (s_seq (s_if (d_test (d_op (d_var (by with_unfolding_all rfl) ?_)))))
            refine d_c (by with_unfolding_all rfl) ?_
            refine r_eqS ⟨_, rfl, (br_f (by with_unfolding_all rfl) ?_)⟩
            refine s_next (s_seq (s_if (d_test (d_op (d_var (by with_unfolding_all rfl) ?_)))))
            refine d_c (by with_unfolding_all rfl) ?_
            refine r_eqS ⟨_, rfl, (br_f (by with_unfolding_all rfl) ?_)⟩
            refine s_next (s_seq (s_if (d_test (d_op (d_var (by with_unfolding_all rfl) ?_)))))
            refine d_c (by with_unfolding_all rfl) ?_
            refine r_eqS ⟨_, rfl, (br_t (by with_unfolding_all rfl) ?_)⟩
            refine s_ret (d_ifE (d_test (d_op (d_dget1e (d_eG (x := "cells") (by with_unfolding_all rfl) rfl ?_)))))
            refine ⟨_, rfl, (d_op (d_var (by with_unfolding_all rfl) ?_))⟩
            refine d_c (by with_unfolding_all rfl) ?_
            refine r_ix (.inr (r_ixT (by with_unfolding_all rfl) ?_))
            refine ⟨_, rfl, ?_⟩
            (rw [hc]; dsimp only [optD])
            refine d_op (d_var (by with_unfolding_all rfl) ?_)
            refine d_c (by with_unfolding_all rfl) ?_
            refine r_ix (.inl (r_ixL (by with_unfolding_all rfl) ?_))
            refine r_eqS ⟨_, rfl, (br_f (by assumption) ?_)⟩
            refine d_c (by with_unfolding_all rfl) ?_
            rotate_left
            all_goals exact q
    case call c x =>
      have ox := hb.2
      cases hx : x.kind takes calls cells with
      | none =>
        simp only [B.kind, hx] at q
        refine s_seq (s_setL (i_tup (d_slT1 (d_var (by with_unfolding_all rfl) ?_))))
        refine ⟨_, _, rfl, ⟨_, rfl, ⟨(show _ ≤ 50000 by simp), ?_⟩⟩⟩
        refine lcW_cons (g_nameV (by decide) ?_)
        refine d_tB (d_cb (d_cons (d_var (by with_unfolding_all rfl) ?_)))
        refine d_cons (d_c (by with_unfolding_all rfl) ?_)
        refine d_nil (c_tup (by with_unfolding_all rfl) ?_)
        refine ⟨_, rfl, (br_f (by with_unfolding_all rfl) ?_)⟩
        refine lcW_cons (g_nameV (by decide) ?_)
        refine d_tB (d_cb (d_cons (d_var (by with_unfolding_all rfl) ?_)))
        refine d_cons (d_c (by with_unfolding_all rfl) ?_)
        refine d_nil ?_
        refine c_tup (tg_toD _) ⟨_, rfl, (br_t (by with_unfolding_all rfl) ?_)⟩
        refine d_call (d_cons (d_var (by with_unfolding_all rfl) ?_))
        refine d_cons (d_var (by with_unfolding_all rfl) ?_)
        refine d_nil ?_
        (with_reducible refine m_reck ox (by omega) he ?_; rw [hx])
        refine lcW_nil (s_seq (s_set (d_op (d_var (by with_unfolding_all rfl) ?_))))
        refine d_c (by with_unfolding_all rfl) ?_
        refine r_ix (.inr (r_ixT (by with_unfolding_all rfl) ?_))
        refine s_seq (s_if (d_test (d_op (d_c (by with_unfolding_all rfl) ?_))))
        refine d_var (by with_unfolding_all rfl) ?_
        refine r_in2 (ss := [oS none]) ⟨_, rfl, (br_t (by with_unfolding_all rfl) ?_)⟩
        refine s_ret (d_c (by with_unfolding_all rfl) ?_)
        dsimp only
        rotate_left
        all_goals exact q
      | some kx =>
        have nx := ne _ (kin _ _ hx)
        have hin : decide (("" : Str) ∈ ([kx] : List Str)) = false := by simp [Ne.symm nx]
        simp only [B.kind, hx] at q
        cases hc : lookS calls c with
        | none =>
          rw [hc] at q
          have hd1 : decide (("" : Str) = kx) = false := decide_eq_false (Ne.symm nx)
          refine s_seq (s_setL (i_tup (d_slT1 (d_var (by with_unfolding_all rfl) ?_))))
          refine ⟨_, _, rfl, ⟨_, rfl, ⟨(show _ ≤ 50000 by simp), ?_⟩⟩⟩
          refine lcW_cons (g_nameV (by decide) ?_)
          refine d_tB (d_cb (d_cons (d_var (by with_unfolding_all rfl) ?_)))
          refine d_cons (d_c (by with_unfolding_all rfl) ?_)
          refine d_nil (c_tup (by with_unfolding_all rfl) ?_)
          refine ⟨_, rfl, (br_f (by with_unfolding_all rfl) ?_)⟩
          refine lcW_cons (g_nameV (by decide) ?_)
          refine d_tB (d_cb (d_cons (d_var (by with_unfolding_all rfl) ?_)))
          refine d_cons (d_c (by with_unfolding_all rfl) ?_)
          refine d_nil ?_
          refine c_tup (tg_toD _) ⟨_, rfl, (br_t (by with_unfolding_all rfl) ?_)⟩
          refine d_call (d_cons (d_var (by with_unfolding_all rfl) ?_))
          refine d_cons (d_var (by with_unfolding_all rfl) ?_)
          refine d_nil ?_
          (with_reducible refine m_reck ox (by omega) he ?_; rw [hx]; dsimp only [oS])
          refine lcW_nil (s_seq (s_set (d_op (d_var (by with_unfolding_all rfl) ?_))))
          refine d_c (by with_unfolding_all rfl) ?_
          refine r_ix (.inr (r_ixT (by with_unfolding_all rfl) ?_))
          refine s_seq (s_if (d_test (d_op (d_c (by with_unfolding_all rfl) ?_))))
          refine d_var (by with_unfolding_all rfl) ?_
          refine r_in2 (ss := [kx]) ⟨_, rfl, (br_f (by assumption) ?_)⟩
          refine s_next (s_seq (s_if (d_test (d_op (d_var (by with_unfolding_all rfl) ?_)))))
          refine d_c (by with_unfolding_all rfl) ?_
          refine r_eqS ⟨_, rfl, (br_f (by with_unfolding_all rfl) ?_)⟩
          refine s_next (s_seq (s_if (d_test (d_op (d_var (by with_unfolding_all rfl) ?_)))))
          refine d_c (by with_unfolding_all rfl) ?_
          refine r_eqS ⟨_, rfl, (br_f (by with_unfolding_all rfl) ?_)⟩
          refine s_next (s_seq (s_if (d_test (d_op (d_var (by with_unfolding_all rfl) ?_)))))
          refine d_c (by with_unfolding_all rfl) ?_
          refine r_eqS ⟨_, rfl, (br_f (by with_unfolding_all rfl) ?_)⟩
          refine s_next (s_seq (s_if (d_test (d_op (d_var (by with_unfolding_all rfl) ?_)))))
          refine d_c (by with_unfolding_all rfl) ?_
          refine r_eqS ⟨_, rfl, (br_t (by with_unfolding_all rfl) ?_)⟩
          refine s_seq (s_asg (d_dget2w (d_eG (x := "deeds") (by with_unfolding_all rfl) rfl ?_)))
          refine ⟨_, rfl, (d_op (d_var (by with_unfolding_all rfl) ?_))⟩
          refine d_c (by with_unfolding_all rfl) ?_
          refine r_ix (.inr (r_ixT (by with_unfolding_all rfl) ?_))
          refine d_tup (d_cons (d_c (by with_unfolding_all rfl) ?_))
          refine d_cons (d_c (by with_unfolding_all rfl) ?_)
          refine d_nil (And.intro (show List.length _ ≤ 100000 by simp) ?_)
          refine ⟨_, rfl, rfl, ?_⟩
          (rw [hc]; dsimp only [pairE])
          ((with_reducible refine g_tid ?_); refine g_tup rfl ?_)
          refine gs_cons (g_name (gs_cons (g_name (gs_nil (s_ret (d_ifE (d_test (d_op (d_var (by with_unfolding_all rfl) ?_)))))))))
          refine d_op (d_var (by with_unfolding_all rfl) ?_)
          refine d_c (by with_unfolding_all rfl) ?_
          refine r_ix (.inl (r_ixL (by with_unfolding_all rfl) ?_))
          refine r_eqS ⟨_, rfl, (br_f (by assumption) ?_)⟩
          refine d_c (by with_unfolding_all rfl) ?_
          dsimp only
          rotate_left
          all_goals exact q
        | some p =>
          obtain ⟨a, t⟩ := p
          rw [hc] at q
          by_cases ha : a = kx
          · have hd1 := decide_eq_true ha
            simp only [if_pos ha] at q
            refine s_seq (s_setL (i_tup (d_slT1 (d_var (by with_unfolding_all rfl) ?_))))
            refine ⟨_, _, rfl, ⟨_, rfl, ⟨(show _ ≤ 50000 by simp), ?_⟩⟩⟩
            refine lcW_cons (g_nameV (by decide) ?_)
            refine d_tB (d_cb (d_cons (d_var (by with_unfolding_all rfl) ?_)))
            refine d_cons (d_c (by with_unfolding_all rfl) ?_)
            refine d_nil (c_tup (by with_unfolding_all rfl) ?_)
            refine ⟨_, rfl, (br_f (by with_unfolding_all rfl) ?_)⟩
            refine lcW_cons (g_nameV (by decide) ?_)
            refine d_tB (d_cb (d_cons (d_var (by with_unfolding_all rfl) ?_)))
            refine d_cons (d_c (by with_unfolding_all rfl) ?_)
            refine d_nil ?_
            refine c_tup (tg_toD _) ⟨_, rfl, (br_t (by with_unfolding_all rfl) ?_)⟩
            refine d_call (d_cons (d_var (by with_unfolding_all rfl) ?_))
            refine d_cons (d_var (by with_unfolding_all rfl) ?_)
            refine d_nil ?_
            (with_reducible refine m_reck ox (by omega) he ?_; rw [hx]; dsimp only [oS])
            refine lcW_nil (s_seq (s_set (d_op (d_var (by with_unfolding_all rfl) ?_))))
            refine d_c (by with_unfolding_all rfl) ?_
            refine r_ix (.inr (r_ixT (by with_unfolding_all rfl) ?_))
            refine s_seq (s_if (d_test (d_op (d_c (by with_unfolding_all rfl) ?_))))
            refine d_var (by with_unfolding_all rfl) ?_
            refine r_in2 (ss := [kx]) ⟨_, rfl, (br_f (by assumption) ?_)⟩
            refine s_next (s_seq (s_if (d_test (d_op (d_var (by with_unfolding_all rfl) ?_)))))
            refine d_c (by with_unfolding_all rfl) ?_
            refine r_eqS ⟨_, rfl, (br_f (by with_unfolding_all rfl) ?_)⟩
            refine s_next (s_seq (s_if (d_test (d_op (d_var (by with_unfolding_all rfl) ?_)))))
            refine d_c (by with_unfolding_all rfl) ?_
            refine r_eqS ⟨_, rfl, (br_f (by with_unfolding_all rfl) ?_)⟩
            refine s_next (s_seq (s_if (d_test (d_op (d_var (by with_unfolding_all rfl) ?_)))))
            refine d_c (by with_unfolding_all rfl) ?_
            refine r_eqS ⟨_, rfl, (br_f (by with_unfolding_all rfl) ?_)⟩
            refine s_next (s_seq (s_if (d_test (d_op (d_var (by with_unfolding_all rfl) ?_)))))
            refine d_c (by with_unfolding_all rfl) ?_
            refine r_eqS ⟨_, rfl, (br_t (by with_unfolding_all rfl) ?_)⟩
            refine s_seq (s_asg (d_dget2w (d_eG (x := "deeds") (by with_unfolding_all rfl) rfl ?_)))
            refine ⟨_, rfl, (d_op (d_var (by with_unfolding_all rfl) ?_))⟩
            refine d_c (by with_unfolding_all rfl) ?_
            refine r_ix (.inr (r_ixT (by with_unfolding_all rfl) ?_))
            refine d_tup (d_cons (d_c (by with_unfolding_all rfl) ?_))
            refine d_cons (d_c (by with_unfolding_all rfl) ?_)
            refine d_nil (And.intro (show List.length _ ≤ 100000 by simp) ?_)
            refine ⟨_, rfl, rfl, ?_⟩
            (rw [hc]; dsimp only [pairE])
            ((with_reducible refine g_tid ?_); refine g_tup rfl ?_)
            refine gs_cons (g_name (gs_cons (g_name (gs_nil (s_ret (d_ifE (d_test (d_op (d_var (by with_unfolding_all rfl) ?_)))))))))
            refine d_op (d_var (by with_unfolding_all rfl) ?_)
            refine d_c (by with_unfolding_all rfl) ?_
            refine r_ix (.inl (r_ixL (by with_unfolding_all rfl) ?_))
            refine r_eqS ⟨_, rfl, (br_t (by assumption) ?_)⟩
            refine d_var (by with_unfolding_all rfl) ?_
            dsimp only
            rotate_left
            all_goals exact q
          · have hd1 := decide_eq_false ha
            simp only [if_neg ha] at q
            refine s_seq (s_setL (i_tup (d_slT1 (d_var (by with_unfolding_all rfl) ?_))))
            refine ⟨_, _, rfl, ⟨_, rfl, ⟨(show _ ≤ 50000 by simp), ?_⟩⟩⟩
            refine lcW_cons (g_nameV (by decide) ?_)
            refine d_tB (d_cb (d_cons (d_var (by with_unfolding_all rfl) ?_)))
            refine d_cons (d_c (by with_unfolding_all rfl) ?_)
            refine d_nil (c_tup (by with_unfolding_all rfl) ?_)
            refine ⟨_, rfl, (br_f (by with_unfolding_all rfl) ?_)⟩
            refine lcW_cons (g_nameV (by decide) ?_)
            refine d_tB (d_cb (d_cons (d_var (by with_unfolding_all rfl) ?_)))
            refine d_cons (d_c (by with_unfolding_all rfl) ?_)
            refine d_nil ?_
            refine c_tup (tg_toD _) ⟨_, rfl, (br_t (by with_unfolding_all rfl) ?_)⟩
            refine d_call (d_cons (d_var (by with_unfolding_all rfl) ?_))
            refine d_cons (d_var (by with_unfolding_all rfl) ?_)
            refine d_nil ?_
            (with_reducible refine m_reck ox (by omega) he ?_; rw [hx]; dsimp only [oS])
            refine lcW_nil (s_seq (s_set (d_op (d_var (by with_unfolding_all rfl) ?_))))
            refine d_c (by with_unfolding_all rfl) ?_
            refine r_ix (.inr (r_ixT (by with_unfolding_all rfl) ?_))
            refine s_seq (s_if (d_test (d_op (d_c (by with_unfolding_all rfl) ?_))))
            refine d_var (by with_unfolding_all rfl) ?_
            refine r_in2 (ss := [kx]) ⟨_, rfl, (br_f (by assumption) ?_)⟩
            refine s_next (s_seq (s_if (d_test (d_op (d_var (by with_unfolding_all rfl) ?_)))))
            refine d_c (by with_unfolding_all rfl) ?_
            refine r_eqS ⟨_, rfl, (br_f (by with_unfolding_all rfl) ?_)⟩
            refine s_next (s_seq (s_if (d_test (d_op (d_var (by with_unfolding_all rfl) ?_)))))
            refine d_c (by with_unfolding_all rfl) ?_
            refine r_eqS ⟨_, rfl, (br_f (by with_unfolding_all rfl) ?_)⟩
            refine s_next (s_seq (s_if (d_test (d_op (d_var (by with_unfolding_all rfl) ?_)))))
            refine d_c (by with_unfolding_all rfl) ?_
            refine r_eqS ⟨_, rfl, (br_f (by with_unfolding_all rfl) ?_)⟩
            refine s_next (s_seq (s_if (d_test (d_op (d_var (by with_unfolding_all rfl) ?_)))))
            refine d_c (by with_unfolding_all rfl) ?_
            refine r_eqS ⟨_, rfl, (br_t (by with_unfolding_all rfl) ?_)⟩
            refine s_seq (s_asg (d_dget2w (d_eG (x := "deeds") (by with_unfolding_all rfl) rfl ?_)))
            refine ⟨_, rfl, (d_op (d_var (by with_unfolding_all rfl) ?_))⟩
            refine d_c (by with_unfolding_all rfl) ?_
            refine r_ix (.inr (r_ixT (by with_unfolding_all rfl) ?_))
            refine d_tup (d_cons (d_c (by with_unfolding_all rfl) ?_))
            refine d_cons (d_c (by with_unfolding_all rfl) ?_)
            refine d_nil (And.intro (show List.length _ ≤ 100000 by simp) ?_)
            refine ⟨_, rfl, rfl, ?_⟩
            (rw [hc]; dsimp only [pairE])
            ((with_reducible refine g_tid ?_); refine g_tup rfl ?_)
            refine gs_cons (g_name (gs_cons (g_name (gs_nil (s_ret (d_ifE (d_test (d_op (d_var (by with_unfolding_all rfl) ?_)))))))))
            refine d_op (d_var (by with_unfolding_all rfl) ?_)
            refine d_c (by with_unfolding_all rfl) ?_
            refine r_ix (.inl (r_ixL (by with_unfolding_all rfl) ?_))
            refine r_eqS ⟨_, rfl, (br_f (by assumption) ?_)⟩
            refine d_c (by with_unfolding_all rfl) ?_
            dsimp only
            rotate_left
            all_goals exact q
    case op1 v x =>
      have ox := hb.2
      obtain ⟨d1, d2, d3, d4, d5, d6, d7⟩ := w1 v hb.1
      obtain ⟨as, t, e, hv, ha⟩ := fix_look v d7
      have la : ∀ s ∈ as, PyData.strOk s = true := fun s h => kindsOk s (ha s h)
      cases hx : x.kind takes calls cells with
      | none =>
        simp only [B.kind, hx] at q
        refine s_seq (s_setL (i_tup (d_slT1 (d_var (by with_unfolding_all rfl) ?_))))
        refine ⟨_, _, rfl, ⟨_, rfl, ⟨(show _ ≤ 50000 by simp), ?_⟩⟩⟩
        refine lcW_cons (g_nameV (by decide) ?_)
        refine d_tB (d_cb (d_cons (d_var (by with_unfolding_all rfl) ?_)))
        refine d_cons (d_c (by with_unfolding_all rfl) ?_)
        refine d_nil ?_
        refine c_tup (tg_toD _) ⟨_, rfl, (br_t (by with_unfolding_all rfl) ?_)⟩
        refine d_call (d_cons (d_var (by with_unfolding_all rfl) ?_))
        refine d_cons (d_var (by with_unfolding_all rfl) ?_)
        refine d_nil ?_
        (with_reducible refine m_reck ox (by omega) he ?_; rw [hx])
        refine lcW_nil (s_seq (s_set (d_op (d_var (by with_unfolding_all rfl) ?_))))
        refine d_c (by with_unfolding_all rfl) ?_
        refine r_ix (.inr (r_ixT (by with_unfolding_all rfl) ?_))
        refine s_seq (s_if (d_test (d_op (d_c (by with_unfolding_all rfl) ?_))))
        refine d_var (by with_unfolding_all rfl) ?_
        refine r_in2 (ss := [oS none]) ⟨_, rfl, (br_t (by with_unfolding_all rfl) ?_)⟩
        refine s_ret (d_c (by with_unfolding_all rfl) ?_)
        dsimp only
        rotate_left
        all_goals exact q
      | some kx =>
        have ikx := kin _ _ hx
        have nx := ne _ ikx
        have hin : decide (("" : Str) ∈ ([kx] : List Str)) = false := by simp [Ne.symm nx]
        have lk : ∀ s ∈ ([kx] : List Str), PyData.strOk s = true := fun s h => by
          rw [List.mem_singleton.mp h]; exact kindsOk _ ikx
        simp only [B.kind, hx] at q
        rw [fixE e] at q
        refine s_seq (s_setL (i_tup (d_slT1 (d_var (by with_unfolding_all rfl) ?_))))
        refine ⟨_, _, rfl, ⟨_, rfl, ⟨(show _ ≤ 50000 by simp), ?_⟩⟩⟩
        refine lcW_cons (g_nameV (by decide) ?_)
        refine d_tB (d_cb (d_cons (d_var (by with_unfolding_all rfl) ?_)))
        refine d_cons (d_c (by with_unfolding_all rfl) ?_)
        refine d_nil ?_
        refine c_tup (tg_toD _) ⟨_, rfl, (br_t (by with_unfolding_all rfl) ?_)⟩
        refine d_call (d_cons (d_var (by with_unfolding_all rfl) ?_))
        refine d_cons (d_var (by with_unfolding_all rfl) ?_)
        refine d_nil ?_
        (with_reducible refine m_reck ox (by omega) he ?_; rw [hx]; dsimp only [oS])
        refine lcW_nil (s_seq (s_set (d_op (d_var (by with_unfolding_all rfl) ?_))))
        refine d_c (by with_unfolding_all rfl) ?_
        refine r_ix (.inr (r_ixT (by with_unfolding_all rfl) ?_))
        refine s_seq (s_if (d_test (d_op (d_c (by with_unfolding_all rfl) ?_))))
        refine d_var (by with_unfolding_all rfl) ?_
        refine r_in2 (ss := [kx]) ⟨_, rfl, (br_f (by assumption) ?_)⟩
        refine s_next (s_seq (s_if (d_test (d_op (d_var (by with_unfolding_all rfl) ?_)))))
        refine d_c (by with_unfolding_all rfl) ?_
        refine r_eqS ⟨_, rfl, (br_f (by assumption) ?_)⟩
        refine s_next (s_seq (s_if (d_test (d_op (d_var (by with_unfolding_all rfl) ?_)))))
        refine d_c (by with_unfolding_all rfl) ?_
        refine r_eqS ⟨_, rfl, (br_f (by assumption) ?_)⟩
        refine s_next (s_seq (s_if (d_test (d_op (d_var (by with_unfolding_all rfl) ?_)))))
        refine d_c (by with_unfolding_all rfl) ?_
        refine r_eqS ⟨_, rfl, (br_f (by assumption) ?_)⟩
        refine s_next (s_seq (s_if (d_test (d_op (d_var (by with_unfolding_all rfl) ?_)))))
        refine d_c (by with_unfolding_all rfl) ?_
        refine r_eqS ⟨_, rfl, (br_f (by assumption) ?_)⟩
        refine s_next (s_seq (s_if (d_test (d_op (d_var (by with_unfolding_all rfl) ?_)))))
        refine d_tup (d_cons (d_c (by with_unfolding_all rfl) ?_))
        refine d_cons (d_c (by with_unfolding_all rfl) ?_)
        refine d_nil (And.intro (show List.length _ ≤ 100000 by simp) ?_)
        refine r_in0 (ss := ["then", "same"]) ⟨_, rfl, (br_f (by assumption) ?_)⟩
        refine s_next (s_seq (s_if (d_test (d_op (d_var (by with_unfolding_all rfl) ?_)))))
        refine d_c (by with_unfolding_all rfl) ?_
        refine r_eqS ⟨_, rfl, (br_f (by assumption) ?_)⟩
        refine s_next ?_
        (refine fix_id ?_; refine fix_end (ks := [kx]) hv la lk rfl ?_; exact q)
    case op2 v x y =>
      have ox := hb.2.1
      have oy := hb.2.2
      obtain ⟨d1, d2, d3, d4, d6, d7⟩ := w2 v hb.1
      cases hx : x.kind takes calls cells with
      | none =>
        simp only [B.kind, hx] at q
        cases hy : y.kind takes calls cells with
        | none =>
          refine s_seq (s_setL (i_tup (d_slT1 (d_var (by with_unfolding_all rfl) ?_))))
          refine ⟨_, _, rfl, ⟨_, rfl, ⟨(show _ ≤ 50000 by simp), ?_⟩⟩⟩
          refine lcW_cons (g_nameV (by decide) ?_)
          refine d_tB (d_cb (d_cons (d_var (by with_unfolding_all rfl) ?_)))
          refine d_cons (d_c (by with_unfolding_all rfl) ?_)
          refine d_nil ?_
          refine c_tup (tg_toD _) ⟨_, rfl, (br_t (by with_unfolding_all rfl) ?_)⟩
          refine d_call (d_cons (d_var (by with_unfolding_all rfl) ?_))
          refine d_cons (d_var (by with_unfolding_all rfl) ?_)
          refine d_nil ?_
          (with_reducible refine m_reck ox (by omega) he ?_; rw [hx])
          refine lcW_cons (g_nameV (by decide) ?_)
          refine d_tB (d_cb (d_cons (d_var (by with_unfolding_all rfl) ?_)))
          refine d_cons (d_c (by with_unfolding_all rfl) ?_)
          refine d_nil ?_
          refine c_tup (tg_toD _) ⟨_, rfl, (br_t (by with_unfolding_all rfl) ?_)⟩
          refine d_call (d_cons (d_var (by with_unfolding_all rfl) ?_))
          refine d_cons (d_var (by with_unfolding_all rfl) ?_)
          refine d_nil ?_
          (with_reducible refine m_reck oy (by omega) he ?_; rw [hy])
          refine lcW_nil (s_seq (s_set (d_op (d_var (by with_unfolding_all rfl) ?_))))
          refine d_c (by with_unfolding_all rfl) ?_
          refine r_ix (.inr (r_ixT (by with_unfolding_all rfl) ?_))
          refine s_seq (s_if (d_test (d_op (d_c (by with_unfolding_all rfl) ?_))))
          refine d_var (by with_unfolding_all rfl) ?_
          refine r_in2 (ss := [oS none, oS none]) ⟨_, rfl, (br_t (by with_unfolding_all rfl) ?_)⟩
          refine s_ret (d_c (by with_unfolding_all rfl) ?_)
          dsimp only
          rotate_left
          all_goals exact q
        | some ky =>
          refine s_seq (s_setL (i_tup (d_slT1 (d_var (by with_unfolding_all rfl) ?_))))
          refine ⟨_, _, rfl, ⟨_, rfl, ⟨(show _ ≤ 50000 by simp), ?_⟩⟩⟩
          refine lcW_cons (g_nameV (by decide) ?_)
          refine d_tB (d_cb (d_cons (d_var (by with_unfolding_all rfl) ?_)))
          refine d_cons (d_c (by with_unfolding_all rfl) ?_)
          refine d_nil ?_
          refine c_tup (tg_toD _) ⟨_, rfl, (br_t (by with_unfolding_all rfl) ?_)⟩
          refine d_call (d_cons (d_var (by with_unfolding_all rfl) ?_))
          refine d_cons (d_var (by with_unfolding_all rfl) ?_)
          refine d_nil ?_
          (with_reducible refine m_reck ox (by omega) he ?_; rw [hx])
          refine lcW_cons (g_nameV (by decide) ?_)
          refine d_tB (d_cb (d_cons (d_var (by with_unfolding_all rfl) ?_)))
          refine d_cons (d_c (by with_unfolding_all rfl) ?_)
          refine d_nil ?_
          refine c_tup (tg_toD _) ⟨_, rfl, (br_t (by with_unfolding_all rfl) ?_)⟩
          refine d_call (d_cons (d_var (by with_unfolding_all rfl) ?_))
          refine d_cons (d_var (by with_unfolding_all rfl) ?_)
          refine d_nil ?_
          (with_reducible refine m_reck oy (by omega) he ?_; rw [hy])
          refine lcW_nil (s_seq (s_set (d_op (d_var (by with_unfolding_all rfl) ?_))))
          refine d_c (by with_unfolding_all rfl) ?_
          refine r_ix (.inr (r_ixT (by with_unfolding_all rfl) ?_))
          refine s_seq (s_if (d_test (d_op (d_c (by with_unfolding_all rfl) ?_))))
          refine d_var (by with_unfolding_all rfl) ?_
          refine r_in2 (ss := [oS none, oS (some ky)]) ⟨_, rfl, (br_t (by with_unfolding_all rfl) ?_)⟩
          refine s_ret (d_c (by with_unfolding_all rfl) ?_)
          dsimp only
          rotate_left
          all_goals exact q
      | some kx =>
        have ikx := kin _ _ hx
        have nx := ne _ ikx
        cases hy : y.kind takes calls cells with
        | none =>
          simp only [B.kind, hx, hy] at q
          have hin : decide (("" : Str) ∈ ([kx, oS none] : List Str)) = true := by simp [oS]
          refine s_seq (s_setL (i_tup (d_slT1 (d_var (by with_unfolding_all rfl) ?_))))
          refine ⟨_, _, rfl, ⟨_, rfl, ⟨(show _ ≤ 50000 by simp), ?_⟩⟩⟩
          refine lcW_cons (g_nameV (by decide) ?_)
          refine d_tB (d_cb (d_cons (d_var (by with_unfolding_all rfl) ?_)))
          refine d_cons (d_c (by with_unfolding_all rfl) ?_)
          refine d_nil ?_
          refine c_tup (tg_toD _) ⟨_, rfl, (br_t (by with_unfolding_all rfl) ?_)⟩
          refine d_call (d_cons (d_var (by with_unfolding_all rfl) ?_))
          refine d_cons (d_var (by with_unfolding_all rfl) ?_)
          refine d_nil ?_
          (with_reducible refine m_reck ox (by omega) he ?_; rw [hx]; dsimp only [oS])
          refine lcW_cons (g_nameV (by decide) ?_)
          refine d_tB (d_cb (d_cons (d_var (by with_unfolding_all rfl) ?_)))
          refine d_cons (d_c (by with_unfolding_all rfl) ?_)
          refine d_nil ?_
          refine c_tup (tg_toD _) ⟨_, rfl, (br_t (by with_unfolding_all rfl) ?_)⟩
          refine d_call (d_cons (d_var (by with_unfolding_all rfl) ?_))
          refine d_cons (d_var (by with_unfolding_all rfl) ?_)
          refine d_nil ?_
          (with_reducible refine m_reck oy (by omega) he ?_; rw [hy])
          refine lcW_nil (s_seq (s_set (d_op (d_var (by with_unfolding_all rfl) ?_))))
          refine d_c (by with_unfolding_all rfl) ?_
          refine r_ix (.inr (r_ixT (by with_unfolding_all rfl) ?_))
          refine s_seq (s_if (d_test (d_op (d_c (by with_unfolding_all rfl) ?_))))
          refine d_var (by with_unfolding_all rfl) ?_
          refine r_in2 (ss := [kx, oS none]) ⟨_, rfl, (br_t (by assumption) ?_)⟩
          refine s_ret (d_c (by with_unfolding_all rfl) ?_)
          dsimp only
          rotate_left
          all_goals exact q
        | some ky =>
          have iky := kin _ _ hy
          have ny := ne _ iky
          have hin : decide (("" : Str) ∈ ([kx, ky] : List Str)) = false := by simp [Ne.symm nx, Ne.symm ny]
          have lk : ∀ s ∈ ([kx, ky] : List Str), PyData.strOk s = true := fun s h => by
            simp only [List.mem_cons, List.not_mem_nil, or_false] at h
            rcases h with rfl | rfl
            · exact kindsOk _ ikx
            · exact kindsOk _ iky
          simp only [B.kind, hx, hy] at q
          rcases d7 with rfl | rfl | ⟨d5, d7⟩
          · by_cases hxy : kx = ky
            · have e : byArms "same" [kx, ky] = some ("truth" : Str) := by
                show (if some kx = some ky then _ else _) = _
                rw [if_pos (by rw [hxy])]
              rw [e] at q
              have hd1 := decide_eq_true hxy
              refine s_seq (s_setL (i_tup (d_slT1 (d_var (by with_unfolding_all rfl) ?_))))
              refine ⟨_, _, rfl, ⟨_, rfl, ⟨(show _ ≤ 50000 by simp), ?_⟩⟩⟩
              refine lcW_cons (g_nameV (by decide) ?_)
              refine d_tB (d_cb (d_cons (d_var (by with_unfolding_all rfl) ?_)))
              refine d_cons (d_c (by with_unfolding_all rfl) ?_)
              refine d_nil ?_
              refine c_tup (tg_toD _) ⟨_, rfl, (br_t (by with_unfolding_all rfl) ?_)⟩
              refine d_call (d_cons (d_var (by with_unfolding_all rfl) ?_))
              refine d_cons (d_var (by with_unfolding_all rfl) ?_)
              refine d_nil ?_
              (with_reducible refine m_reck ox (by omega) he ?_; rw [hx]; dsimp only [oS])
              refine lcW_cons (g_nameV (by decide) ?_)
              refine d_tB (d_cb (d_cons (d_var (by with_unfolding_all rfl) ?_)))
              refine d_cons (d_c (by with_unfolding_all rfl) ?_)
              refine d_nil ?_
              refine c_tup (tg_toD _) ⟨_, rfl, (br_t (by with_unfolding_all rfl) ?_)⟩
              refine d_call (d_cons (d_var (by with_unfolding_all rfl) ?_))
              refine d_cons (d_var (by with_unfolding_all rfl) ?_)
              refine d_nil ?_
              (with_reducible refine m_reck oy (by omega) he ?_; rw [hy]; dsimp only [oS])
              refine lcW_nil (s_seq (s_set (d_op (d_var (by with_unfolding_all rfl) ?_))))
              refine d_c (by with_unfolding_all rfl) ?_
              refine r_ix (.inr (r_ixT (by with_unfolding_all rfl) ?_))
              refine s_seq (s_if (d_test (d_op (d_c (by with_unfolding_all rfl) ?_))))
              refine d_var (by with_unfolding_all rfl) ?_
              refine r_in2 (ss := [kx, ky]) ⟨_, rfl, (br_f (by assumption) ?_)⟩
              refine s_next (s_seq (s_if (d_test (d_op (d_var (by with_unfolding_all rfl) ?_)))))
              refine d_c (by with_unfolding_all rfl) ?_
              refine r_eqS ⟨_, rfl, (br_f (by assumption) ?_)⟩
              refine s_next (s_seq (s_if (d_test (d_op (d_var (by with_unfolding_all rfl) ?_)))))
              refine d_c (by with_unfolding_all rfl) ?_
              refine r_eqS ⟨_, rfl, (br_f (by assumption) ?_)⟩
              refine s_next (s_seq (s_if (d_test (d_op (d_var (by with_unfolding_all rfl) ?_)))))
              refine d_c (by with_unfolding_all rfl) ?_
              refine r_eqS ⟨_, rfl, (br_f (by assumption) ?_)⟩
              refine s_next (s_seq (s_if (d_test (d_op (d_var (by with_unfolding_all rfl) ?_)))))
              refine d_c (by with_unfolding_all rfl) ?_
              refine r_eqS ⟨_, rfl, (br_f (by assumption) ?_)⟩
              refine s_next (s_seq (s_if (d_test (d_op (d_var (by with_unfolding_all rfl) ?_)))))
              refine d_tup (d_cons (d_c (by with_unfolding_all rfl) ?_))
              refine d_cons (d_c (by with_unfolding_all rfl) ?_)
              refine d_nil (And.intro (show List.length _ ≤ 100000 by simp) ?_)
              refine r_in0 (ss := ["then", "same"]) ⟨_, rfl, (br_t (by with_unfolding_all rfl) ?_)⟩
              refine s_ret (d_ifE (d_test (d_op (d_var (by with_unfolding_all rfl) ?_))))
              refine d_c (by with_unfolding_all rfl) ?_
              refine r_eqS ⟨_, rfl, (br_f (by with_unfolding_all rfl) ?_)⟩
              refine d_ifE (d_test (d_op (d_op (d_var (by with_unfolding_all rfl) ?_))))
              refine d_c (by with_unfolding_all rfl) ?_
              refine r_ix (.inl (r_ixL (by with_unfolding_all rfl) ?_))
              refine d_op (d_var (by with_unfolding_all rfl) ?_)
              refine d_c (by with_unfolding_all rfl) ?_
              refine r_ix (.inl (r_ixL (by with_unfolding_all rfl) ?_))
              refine r_eqS ⟨_, rfl, (br_t (by assumption) ?_)⟩
              refine d_c (by with_unfolding_all rfl) ?_
              dsimp only
              rotate_left
              all_goals exact q
            · have e : byArms "same" [kx, ky] = none := by
                show (if some kx = some ky then _ else _) = _
                rw [if_neg (fun h => hxy (Option.some.inj h))]
              rw [e] at q
              have hd1 := decide_eq_false hxy
              refine s_seq (s_setL (i_tup (d_slT1 (d_var (by with_unfolding_all rfl) ?_))))
              refine ⟨_, _, rfl, ⟨_, rfl, ⟨(show _ ≤ 50000 by simp), ?_⟩⟩⟩
              refine lcW_cons (g_nameV (by decide) ?_)
              refine d_tB (d_cb (d_cons (d_var (by with_unfolding_all rfl) ?_)))
              refine d_cons (d_c (by with_unfolding_all rfl) ?_)
              refine d_nil ?_
              refine c_tup (tg_toD _) ⟨_, rfl, (br_t (by with_unfolding_all rfl) ?_)⟩
              refine d_call (d_cons (d_var (by with_unfolding_all rfl) ?_))
              refine d_cons (d_var (by with_unfolding_all rfl) ?_)
              refine d_nil ?_
              (with_reducible refine m_reck ox (by omega) he ?_; rw [hx]; dsimp only [oS])
              refine lcW_cons (g_nameV (by decide) ?_)
              refine d_tB (d_cb (d_cons (d_var (by with_unfolding_all rfl) ?_)))
              refine d_cons (d_c (by with_unfolding_all rfl) ?_)
              refine d_nil ?_
              refine c_tup (tg_toD _) ⟨_, rfl, (br_t (by with_unfolding_all rfl) ?_)⟩
              refine d_call (d_cons (d_var (by with_unfolding_all rfl) ?_))
              refine d_cons (d_var (by with_unfolding_all rfl) ?_)
              refine d_nil ?_
              (with_reducible refine m_reck oy (by omega) he ?_; rw [hy]; dsimp only [oS])
              refine lcW_nil (s_seq (s_set (d_op (d_var (by with_unfolding_all rfl) ?_))))
              refine d_c (by with_unfolding_all rfl) ?_
              refine r_ix (.inr (r_ixT (by with_unfolding_all rfl) ?_))
              refine s_seq (s_if (d_test (d_op (d_c (by with_unfolding_all rfl) ?_))))
              refine d_var (by with_unfolding_all rfl) ?_
              refine r_in2 (ss := [kx, ky]) ⟨_, rfl, (br_f (by assumption) ?_)⟩
              refine s_next (s_seq (s_if (d_test (d_op (d_var (by with_unfolding_all rfl) ?_)))))
              refine d_c (by with_unfolding_all rfl) ?_
              refine r_eqS ⟨_, rfl, (br_f (by assumption) ?_)⟩
              refine s_next (s_seq (s_if (d_test (d_op (d_var (by with_unfolding_all rfl) ?_)))))
              refine d_c (by with_unfolding_all rfl) ?_
              refine r_eqS ⟨_, rfl, (br_f (by assumption) ?_)⟩
              refine s_next (s_seq (s_if (d_test (d_op (d_var (by with_unfolding_all rfl) ?_)))))
              refine d_c (by with_unfolding_all rfl) ?_
              refine r_eqS ⟨_, rfl, (br_f (by assumption) ?_)⟩
              refine s_next (s_seq (s_if (d_test (d_op (d_var (by with_unfolding_all rfl) ?_)))))
              refine d_c (by with_unfolding_all rfl) ?_
              refine r_eqS ⟨_, rfl, (br_f (by assumption) ?_)⟩
              refine s_next (s_seq (s_if (d_test (d_op (d_var (by with_unfolding_all rfl) ?_)))))
              refine d_tup (d_cons (d_c (by with_unfolding_all rfl) ?_))
              refine d_cons (d_c (by with_unfolding_all rfl) ?_)
              refine d_nil (And.intro (show List.length _ ≤ 100000 by simp) ?_)
              refine r_in0 (ss := ["then", "same"]) ⟨_, rfl, (br_t (by with_unfolding_all rfl) ?_)⟩
              refine s_ret (d_ifE (d_test (d_op (d_var (by with_unfolding_all rfl) ?_))))
              refine d_c (by with_unfolding_all rfl) ?_
              refine r_eqS ⟨_, rfl, (br_f (by with_unfolding_all rfl) ?_)⟩
              refine d_ifE (d_test (d_op (d_op (d_var (by with_unfolding_all rfl) ?_))))
              refine d_c (by with_unfolding_all rfl) ?_
              refine r_ix (.inl (r_ixL (by with_unfolding_all rfl) ?_))
              refine d_op (d_var (by with_unfolding_all rfl) ?_)
              refine d_c (by with_unfolding_all rfl) ?_
              refine r_ix (.inl (r_ixL (by with_unfolding_all rfl) ?_))
              refine r_eqS ⟨_, rfl, (br_f (by assumption) ?_)⟩
              refine d_c (by with_unfolding_all rfl) ?_
              dsimp only
              rotate_left
              all_goals exact q
          · refine s_seq (s_setL (i_tup (d_slT1 (d_var (by with_unfolding_all rfl) ?_))))
            refine ⟨_, _, rfl, ⟨_, rfl, ⟨(show _ ≤ 50000 by simp), ?_⟩⟩⟩
            refine lcW_cons (g_nameV (by decide) ?_)
            refine d_tB (d_cb (d_cons (d_var (by with_unfolding_all rfl) ?_)))
            refine d_cons (d_c (by with_unfolding_all rfl) ?_)
            refine d_nil ?_
            refine c_tup (tg_toD _) ⟨_, rfl, (br_t (by with_unfolding_all rfl) ?_)⟩
            refine d_call (d_cons (d_var (by with_unfolding_all rfl) ?_))
            refine d_cons (d_var (by with_unfolding_all rfl) ?_)
            refine d_nil ?_
            (with_reducible refine m_reck ox (by omega) he ?_; rw [hx]; dsimp only [oS])
            refine lcW_cons (g_nameV (by decide) ?_)
            refine d_tB (d_cb (d_cons (d_var (by with_unfolding_all rfl) ?_)))
            refine d_cons (d_c (by with_unfolding_all rfl) ?_)
            refine d_nil ?_
            refine c_tup (tg_toD _) ⟨_, rfl, (br_t (by with_unfolding_all rfl) ?_)⟩
            refine d_call (d_cons (d_var (by with_unfolding_all rfl) ?_))
            refine d_cons (d_var (by with_unfolding_all rfl) ?_)
            refine d_nil ?_
            (with_reducible refine m_reck oy (by omega) he ?_; rw [hy]; dsimp only [oS])
            refine lcW_nil (s_seq (s_set (d_op (d_var (by with_unfolding_all rfl) ?_))))
            refine d_c (by with_unfolding_all rfl) ?_
            refine r_ix (.inr (r_ixT (by with_unfolding_all rfl) ?_))
            refine s_seq (s_if (d_test (d_op (d_c (by with_unfolding_all rfl) ?_))))
            refine d_var (by with_unfolding_all rfl) ?_
            refine r_in2 (ss := [kx, ky]) ⟨_, rfl, (br_f (by assumption) ?_)⟩
            refine s_next (s_seq (s_if (d_test (d_op (d_var (by with_unfolding_all rfl) ?_)))))
            refine d_c (by with_unfolding_all rfl) ?_
            refine r_eqS ⟨_, rfl, (br_f (by assumption) ?_)⟩
            refine s_next (s_seq (s_if (d_test (d_op (d_var (by with_unfolding_all rfl) ?_)))))
            refine d_c (by with_unfolding_all rfl) ?_
            refine r_eqS ⟨_, rfl, (br_f (by assumption) ?_)⟩
            refine s_next (s_seq (s_if (d_test (d_op (d_var (by with_unfolding_all rfl) ?_)))))
            refine d_c (by with_unfolding_all rfl) ?_
            refine r_eqS ⟨_, rfl, (br_f (by assumption) ?_)⟩
            refine s_next (s_seq (s_if (d_test (d_op (d_var (by with_unfolding_all rfl) ?_)))))
            refine d_c (by with_unfolding_all rfl) ?_
            refine r_eqS ⟨_, rfl, (br_f (by assumption) ?_)⟩
            refine s_next (s_seq (s_if (d_test (d_op (d_var (by with_unfolding_all rfl) ?_)))))
            refine d_tup (d_cons (d_c (by with_unfolding_all rfl) ?_))
            refine d_cons (d_c (by with_unfolding_all rfl) ?_)
            refine d_nil (And.intro (show List.length _ ≤ 100000 by simp) ?_)
            refine r_in0 (ss := ["then", "same"]) ⟨_, rfl, (br_t (by with_unfolding_all rfl) ?_)⟩
            refine s_ret (d_ifE (d_test (d_op (d_var (by with_unfolding_all rfl) ?_))))
            refine d_c (by with_unfolding_all rfl) ?_
            refine r_eqS ⟨_, rfl, (br_t (by with_unfolding_all rfl) ?_)⟩
            refine d_op (d_var (by with_unfolding_all rfl) ?_)
            refine d_c (by with_unfolding_all rfl) ?_
            refine r_ix (.inl (r_ixL (by with_unfolding_all rfl) ?_))
            dsimp only
            rotate_left
            all_goals exact q
          · obtain ⟨as, t, e, hv, ha⟩ := fix_look v d7
            have la : ∀ s ∈ as, PyData.strOk s = true := fun s h => kindsOk s (ha s h)
            rw [fixE e] at q
            refine s_seq (s_setL (i_tup (d_slT1 (d_var (by with_unfolding_all rfl) ?_))))
            refine ⟨_, _, rfl, ⟨_, rfl, ⟨(show _ ≤ 50000 by simp), ?_⟩⟩⟩
            refine lcW_cons (g_nameV (by decide) ?_)
            refine d_tB (d_cb (d_cons (d_var (by with_unfolding_all rfl) ?_)))
            refine d_cons (d_c (by with_unfolding_all rfl) ?_)
            refine d_nil ?_
            refine c_tup (tg_toD _) ⟨_, rfl, (br_t (by with_unfolding_all rfl) ?_)⟩
            refine d_call (d_cons (d_var (by with_unfolding_all rfl) ?_))
            refine d_cons (d_var (by with_unfolding_all rfl) ?_)
            refine d_nil ?_
            (with_reducible refine m_reck ox (by omega) he ?_; rw [hx]; dsimp only [oS])
            refine lcW_cons (g_nameV (by decide) ?_)
            refine d_tB (d_cb (d_cons (d_var (by with_unfolding_all rfl) ?_)))
            refine d_cons (d_c (by with_unfolding_all rfl) ?_)
            refine d_nil ?_
            refine c_tup (tg_toD _) ⟨_, rfl, (br_t (by with_unfolding_all rfl) ?_)⟩
            refine d_call (d_cons (d_var (by with_unfolding_all rfl) ?_))
            refine d_cons (d_var (by with_unfolding_all rfl) ?_)
            refine d_nil ?_
            (with_reducible refine m_reck oy (by omega) he ?_; rw [hy]; dsimp only [oS])
            refine lcW_nil (s_seq (s_set (d_op (d_var (by with_unfolding_all rfl) ?_))))
            refine d_c (by with_unfolding_all rfl) ?_
            refine r_ix (.inr (r_ixT (by with_unfolding_all rfl) ?_))
            refine s_seq (s_if (d_test (d_op (d_c (by with_unfolding_all rfl) ?_))))
            refine d_var (by with_unfolding_all rfl) ?_
            refine r_in2 (ss := [kx, ky]) ⟨_, rfl, (br_f (by assumption) ?_)⟩
            refine s_next (s_seq (s_if (d_test (d_op (d_var (by with_unfolding_all rfl) ?_)))))
            refine d_c (by with_unfolding_all rfl) ?_
            refine r_eqS ⟨_, rfl, (br_f (by assumption) ?_)⟩
            refine s_next (s_seq (s_if (d_test (d_op (d_var (by with_unfolding_all rfl) ?_)))))
            refine d_c (by with_unfolding_all rfl) ?_
            refine r_eqS ⟨_, rfl, (br_f (by assumption) ?_)⟩
            refine s_next (s_seq (s_if (d_test (d_op (d_var (by with_unfolding_all rfl) ?_)))))
            refine d_c (by with_unfolding_all rfl) ?_
            refine r_eqS ⟨_, rfl, (br_f (by assumption) ?_)⟩
            refine s_next (s_seq (s_if (d_test (d_op (d_var (by with_unfolding_all rfl) ?_)))))
            refine d_c (by with_unfolding_all rfl) ?_
            refine r_eqS ⟨_, rfl, (br_f (by assumption) ?_)⟩
            refine s_next (s_seq (s_if (d_test (d_op (d_var (by with_unfolding_all rfl) ?_)))))
            refine d_tup (d_cons (d_c (by with_unfolding_all rfl) ?_))
            refine d_cons (d_c (by with_unfolding_all rfl) ?_)
            refine d_nil (And.intro (show List.length _ ≤ 100000 by simp) ?_)
            refine r_in0 (ss := ["then", "same"]) ⟨_, rfl, (br_f (by assumption) ?_)⟩
            refine s_next (s_seq (s_if (d_test (d_op (d_var (by with_unfolding_all rfl) ?_)))))
            refine d_c (by with_unfolding_all rfl) ?_
            refine r_eqS ⟨_, rfl, (br_f (by assumption) ?_)⟩
            refine s_next ?_
            (refine fix_id ?_; refine fix_end (ks := [kx, ky]) hv la lk rfl ?_; exact q)
    case ite x y z =>
      have ox := hb.1
      have oy := hb.2.1
      have oz := hb.2.2
      by_cases hn : x.kind takes calls cells = none ∨ y.kind takes calls cells = none ∨ z.kind takes calls cells = none
      · have e : (B.ite x y z).kind takes calls cells = none := by
          simp only [B.kind]
          split
          · rename_i k l m h1 h2 h3
            rcases hn with h | h | h
            · rw [h] at h1; cases h1
            · rw [h] at h2; cases h2
            · rw [h] at h3; cases h3
          · rfl
        rw [e] at q
        have hin : decide (("" : Str) ∈ ([oS (x.kind takes calls cells), oS (y.kind takes calls cells), oS (z.kind takes calls cells)] : List Str)) = true := by
          rcases hn with h | h | h <;> simp [h, oS]
        refine s_seq (s_setL (i_tup (d_slT1 (d_var (by with_unfolding_all rfl) ?_))))
        refine ⟨_, _, rfl, ⟨_, rfl, ⟨(show _ ≤ 50000 by simp), ?_⟩⟩⟩
        refine lcW_cons (g_nameV (by decide) ?_)
        refine d_tB (d_cb (d_cons (d_var (by with_unfolding_all rfl) ?_)))
        refine d_cons (d_c (by with_unfolding_all rfl) ?_)
        refine d_nil ?_
        refine c_tup (tg_toD _) ⟨_, rfl, (br_t (by with_unfolding_all rfl) ?_)⟩
        refine d_call (d_cons (d_var (by with_unfolding_all rfl) ?_))
        refine d_cons (d_var (by with_unfolding_all rfl) ?_)
        refine d_nil (m_reck ox (by omega) he ?_)
        refine lcW_cons (g_nameV (by decide) ?_)
        refine d_tB (d_cb (d_cons (d_var (by with_unfolding_all rfl) ?_)))
        refine d_cons (d_c (by with_unfolding_all rfl) ?_)
        refine d_nil ?_
        refine c_tup (tg_toD _) ⟨_, rfl, (br_t (by with_unfolding_all rfl) ?_)⟩
        refine d_call (d_cons (d_var (by with_unfolding_all rfl) ?_))
        refine d_cons (d_var (by with_unfolding_all rfl) ?_)
        refine d_nil (m_reck oy (by omega) he ?_)
        refine lcW_cons (g_nameV (by decide) ?_)
        refine d_tB (d_cb (d_cons (d_var (by with_unfolding_all rfl) ?_)))
        refine d_cons (d_c (by with_unfolding_all rfl) ?_)
        refine d_nil ?_
        refine c_tup (tg_toD _) ⟨_, rfl, (br_t (by with_unfolding_all rfl) ?_)⟩
        refine d_call (d_cons (d_var (by with_unfolding_all rfl) ?_))
        refine d_cons (d_var (by with_unfolding_all rfl) ?_)
        refine d_nil (m_reck oz (by omega) he ?_)
        refine lcW_nil (s_seq (s_set (d_op (d_var (by with_unfolding_all rfl) ?_))))
        refine d_c (by with_unfolding_all rfl) ?_
        refine r_ix (.inr (r_ixT (by with_unfolding_all rfl) ?_))
        refine s_seq (s_if (d_test (d_op (d_c (by with_unfolding_all rfl) ?_))))
        refine d_var (by with_unfolding_all rfl) ?_
        refine r_in2 (ss := [oS (x.kind takes calls cells), oS (y.kind takes calls cells), oS (z.kind takes calls cells)]) ⟨_, rfl, (br_t (by assumption) ?_)⟩
        refine s_ret (d_c (by with_unfolding_all rfl) ?_)
        dsimp only
        rotate_left
        all_goals exact q
      · cases hx : x.kind takes calls cells with
        | none => exact absurd (.inl hx) hn
        | some kx =>
        cases hy : y.kind takes calls cells with
        | none => exact absurd (.inr (.inl hy)) hn
        | some ky =>
        cases hz : z.kind takes calls cells with
        | none => exact absurd (.inr (.inr hz)) hn
        | some kz =>
          have nx := ne _ (kin _ _ hx)
          have ny := ne _ (kin _ _ hy)
          have nz := ne _ (kin _ _ hz)
          have hin : decide (("" : Str) ∈ ([kx, ky, kz] : List Str)) = false := by simp [Ne.symm nx, Ne.symm ny, Ne.symm nz]
          simp only [B.kind, hx, hy, hz] at q
          by_cases h1 : kx = "truth"
          · by_cases h2 : ky = kz
            · have e : byArms "if" [kx, ky, kz] = some ky := by
                show (if some kx = some _ ∧ some ky = some kz then _ else _) = _
                rw [if_pos ⟨by rw [h1], by rw [h2]⟩] <;> rfl
              rw [e] at q
              have hd1 := decide_eq_true h1
              have hd2 := decide_eq_true h2
              refine s_seq (s_setL (i_tup (d_slT1 (d_var (by with_unfolding_all rfl) ?_))))
              refine ⟨_, _, rfl, ⟨_, rfl, ⟨(show _ ≤ 50000 by simp), ?_⟩⟩⟩
              refine lcW_cons (g_nameV (by decide) ?_)
              refine d_tB (d_cb (d_cons (d_var (by with_unfolding_all rfl) ?_)))
              refine d_cons (d_c (by with_unfolding_all rfl) ?_)
              refine d_nil ?_
              refine c_tup (tg_toD _) ⟨_, rfl, (br_t (by with_unfolding_all rfl) ?_)⟩
              refine d_call (d_cons (d_var (by with_unfolding_all rfl) ?_))
              refine d_cons (d_var (by with_unfolding_all rfl) ?_)
              refine d_nil ?_
              (with_reducible refine m_reck ox (by omega) he ?_; rw [hx]; dsimp only [oS])
              refine lcW_cons (g_nameV (by decide) ?_)
              refine d_tB (d_cb (d_cons (d_var (by with_unfolding_all rfl) ?_)))
              refine d_cons (d_c (by with_unfolding_all rfl) ?_)
              refine d_nil ?_
              refine c_tup (tg_toD _) ⟨_, rfl, (br_t (by with_unfolding_all rfl) ?_)⟩
              refine d_call (d_cons (d_var (by with_unfolding_all rfl) ?_))
              refine d_cons (d_var (by with_unfolding_all rfl) ?_)
              refine d_nil ?_
              (with_reducible refine m_reck oy (by omega) he ?_; rw [hy]; dsimp only [oS])
              refine lcW_cons (g_nameV (by decide) ?_)
              refine d_tB (d_cb (d_cons (d_var (by with_unfolding_all rfl) ?_)))
              refine d_cons (d_c (by with_unfolding_all rfl) ?_)
              refine d_nil ?_
              refine c_tup (tg_toD _) ⟨_, rfl, (br_t (by with_unfolding_all rfl) ?_)⟩
              refine d_call (d_cons (d_var (by with_unfolding_all rfl) ?_))
              refine d_cons (d_var (by with_unfolding_all rfl) ?_)
              refine d_nil ?_
              (with_reducible refine m_reck oz (by omega) he ?_; rw [hz]; dsimp only [oS])
              refine lcW_nil (s_seq (s_set (d_op (d_var (by with_unfolding_all rfl) ?_))))
              refine d_c (by with_unfolding_all rfl) ?_
              refine r_ix (.inr (r_ixT (by with_unfolding_all rfl) ?_))
              refine s_seq (s_if (d_test (d_op (d_c (by with_unfolding_all rfl) ?_))))
              refine d_var (by with_unfolding_all rfl) ?_
              refine r_in2 (ss := [kx, ky, kz]) ⟨_, rfl, (br_f (by assumption) ?_)⟩
              refine s_next (s_seq (s_if (d_test (d_op (d_var (by with_unfolding_all rfl) ?_)))))
              refine d_c (by with_unfolding_all rfl) ?_
              refine r_eqS ⟨_, rfl, (br_f (by with_unfolding_all rfl) ?_)⟩
              refine s_next (s_seq (s_if (d_test (d_op (d_var (by with_unfolding_all rfl) ?_)))))
              refine d_c (by with_unfolding_all rfl) ?_
              refine r_eqS ⟨_, rfl, (br_f (by with_unfolding_all rfl) ?_)⟩
              refine s_next (s_seq (s_if (d_test (d_op (d_var (by with_unfolding_all rfl) ?_)))))
              refine d_c (by with_unfolding_all rfl) ?_
              refine r_eqS ⟨_, rfl, (br_f (by with_unfolding_all rfl) ?_)⟩
              refine s_next (s_seq (s_if (d_test (d_op (d_var (by with_unfolding_all rfl) ?_)))))
              refine d_c (by with_unfolding_all rfl) ?_
              refine r_eqS ⟨_, rfl, (br_f (by with_unfolding_all rfl) ?_)⟩
              refine s_next (s_seq (s_if (d_test (d_op (d_var (by with_unfolding_all rfl) ?_)))))
              refine d_tup (d_cons (d_c (by with_unfolding_all rfl) ?_))
              refine d_cons (d_c (by with_unfolding_all rfl) ?_)
              refine d_nil (And.intro (show List.length _ ≤ 100000 by simp) ?_)
              refine r_in0 (ss := ["then", "same"]) ⟨_, rfl, (br_f (by with_unfolding_all rfl) ?_)⟩
              refine s_next (s_seq (s_if (d_test (d_op (d_var (by with_unfolding_all rfl) ?_)))))
              refine d_c (by with_unfolding_all rfl) ?_
              refine r_eqS ⟨_, rfl, (br_t (by with_unfolding_all rfl) ?_)⟩
              refine s_ret (d_ifE (d_and (d_test (d_op (d_op (d_var (by with_unfolding_all rfl) ?_))))))
              refine d_c (by with_unfolding_all rfl) ?_
              refine r_ix (.inl (r_ixL (by with_unfolding_all rfl) ?_))
              refine d_c (by with_unfolding_all rfl) ?_
              refine r_eqS ⟨_, rfl, (br_t (by assumption) ?_)⟩
              refine d_test (d_op (d_op (d_var (by with_unfolding_all rfl) ?_)))
              refine d_c (by with_unfolding_all rfl) ?_
              refine r_ix (.inl (r_ixL (by with_unfolding_all rfl) ?_))
              refine d_op (d_var (by with_unfolding_all rfl) ?_)
              refine d_c (by with_unfolding_all rfl) ?_
              refine r_ix (.inl (r_ixL (by with_unfolding_all rfl) ?_))
              refine r_eqS ⟨_, rfl, (br_t (by assumption) ?_)⟩
              refine d_op (d_var (by with_unfolding_all rfl) ?_)
              refine d_c (by with_unfolding_all rfl) ?_
              refine r_ix (.inl (r_ixL (by with_unfolding_all rfl) ?_))
              dsimp only
              rotate_left
              all_goals exact q
            · have e : byArms "if" [kx, ky, kz] = none := by
                show (if some kx = some _ ∧ some ky = some kz then _ else _) = _
                rw [if_neg (fun h => h2 (Option.some.inj h.2))]
              rw [e] at q
              have hd1 := decide_eq_true h1
              have hd2 := decide_eq_false h2
              refine s_seq (s_setL (i_tup (d_slT1 (d_var (by with_unfolding_all rfl) ?_))))
              refine ⟨_, _, rfl, ⟨_, rfl, ⟨(show _ ≤ 50000 by simp), ?_⟩⟩⟩
              refine lcW_cons (g_nameV (by decide) ?_)
              refine d_tB (d_cb (d_cons (d_var (by with_unfolding_all rfl) ?_)))
              refine d_cons (d_c (by with_unfolding_all rfl) ?_)
              refine d_nil ?_
              refine c_tup (tg_toD _) ⟨_, rfl, (br_t (by with_unfolding_all rfl) ?_)⟩
              refine d_call (d_cons (d_var (by with_unfolding_all rfl) ?_))
              refine d_cons (d_var (by with_unfolding_all rfl) ?_)
              refine d_nil ?_
              (with_reducible refine m_reck ox (by omega) he ?_; rw [hx]; dsimp only [oS])
              refine lcW_cons (g_nameV (by decide) ?_)
              refine d_tB (d_cb (d_cons (d_var (by with_unfolding_all rfl) ?_)))
              refine d_cons (d_c (by with_unfolding_all rfl) ?_)
              refine d_nil ?_
              refine c_tup (tg_toD _) ⟨_, rfl, (br_t (by with_unfolding_all rfl) ?_)⟩
              refine d_call (d_cons (d_var (by with_unfolding_all rfl) ?_))
              refine d_cons (d_var (by with_unfolding_all rfl) ?_)
              refine d_nil ?_
              (with_reducible refine m_reck oy (by omega) he ?_; rw [hy]; dsimp only [oS])
              refine lcW_cons (g_nameV (by decide) ?_)
              refine d_tB (d_cb (d_cons (d_var (by with_unfolding_all rfl) ?_)))
              refine d_cons (d_c (by with_unfolding_all rfl) ?_)
              refine d_nil ?_
              refine c_tup (tg_toD _) ⟨_, rfl, (br_t (by with_unfolding_all rfl) ?_)⟩
              refine d_call (d_cons (d_var (by with_unfolding_all rfl) ?_))
              refine d_cons (d_var (by with_unfolding_all rfl) ?_)
              refine d_nil ?_
              (with_reducible refine m_reck oz (by omega) he ?_; rw [hz]; dsimp only [oS])
              refine lcW_nil (s_seq (s_set (d_op (d_var (by with_unfolding_all rfl) ?_))))
              refine d_c (by with_unfolding_all rfl) ?_
              refine r_ix (.inr (r_ixT (by with_unfolding_all rfl) ?_))
              refine s_seq (s_if (d_test (d_op (d_c (by with_unfolding_all rfl) ?_))))
              refine d_var (by with_unfolding_all rfl) ?_
              refine r_in2 (ss := [kx, ky, kz]) ⟨_, rfl, (br_f (by assumption) ?_)⟩
              refine s_next (s_seq (s_if (d_test (d_op (d_var (by with_unfolding_all rfl) ?_)))))
              refine d_c (by with_unfolding_all rfl) ?_
              refine r_eqS ⟨_, rfl, (br_f (by with_unfolding_all rfl) ?_)⟩
              refine s_next (s_seq (s_if (d_test (d_op (d_var (by with_unfolding_all rfl) ?_)))))
              refine d_c (by with_unfolding_all rfl) ?_
              refine r_eqS ⟨_, rfl, (br_f (by with_unfolding_all rfl) ?_)⟩
              refine s_next (s_seq (s_if (d_test (d_op (d_var (by with_unfolding_all rfl) ?_)))))
              refine d_c (by with_unfolding_all rfl) ?_
              refine r_eqS ⟨_, rfl, (br_f (by with_unfolding_all rfl) ?_)⟩
              refine s_next (s_seq (s_if (d_test (d_op (d_var (by with_unfolding_all rfl) ?_)))))
              refine d_c (by with_unfolding_all rfl) ?_
              refine r_eqS ⟨_, rfl, (br_f (by with_unfolding_all rfl) ?_)⟩
              refine s_next (s_seq (s_if (d_test (d_op (d_var (by with_unfolding_all rfl) ?_)))))
              refine d_tup (d_cons (d_c (by with_unfolding_all rfl) ?_))
              refine d_cons (d_c (by with_unfolding_all rfl) ?_)
              refine d_nil (And.intro (show List.length _ ≤ 100000 by simp) ?_)
              refine r_in0 (ss := ["then", "same"]) ⟨_, rfl, (br_f (by with_unfolding_all rfl) ?_)⟩
              refine s_next (s_seq (s_if (d_test (d_op (d_var (by with_unfolding_all rfl) ?_)))))
              refine d_c (by with_unfolding_all rfl) ?_
              refine r_eqS ⟨_, rfl, (br_t (by with_unfolding_all rfl) ?_)⟩
              refine s_ret (d_ifE (d_and (d_test (d_op (d_op (d_var (by with_unfolding_all rfl) ?_))))))
              refine d_c (by with_unfolding_all rfl) ?_
              refine r_ix (.inl (r_ixL (by with_unfolding_all rfl) ?_))
              refine d_c (by with_unfolding_all rfl) ?_
              refine r_eqS ⟨_, rfl, (br_t (by assumption) ?_)⟩
              refine d_test (d_op (d_op (d_var (by with_unfolding_all rfl) ?_)))
              refine d_c (by with_unfolding_all rfl) ?_
              refine r_ix (.inl (r_ixL (by with_unfolding_all rfl) ?_))
              refine d_op (d_var (by with_unfolding_all rfl) ?_)
              refine d_c (by with_unfolding_all rfl) ?_
              refine r_ix (.inl (r_ixL (by with_unfolding_all rfl) ?_))
              refine r_eqS ⟨_, rfl, (br_f (by assumption) ?_)⟩
              refine d_c (by with_unfolding_all rfl) ?_
              dsimp only
              rotate_left
              all_goals exact q
          · have e : byArms "if" [kx, ky, kz] = none := by
              show (if some kx = some _ ∧ some ky = some kz then _ else _) = _
              rw [if_neg (fun h => h1 (Option.some.inj h.1))]
            rw [e] at q
            have hd1 := decide_eq_false h1
            refine s_seq (s_setL (i_tup (d_slT1 (d_var (by with_unfolding_all rfl) ?_))))
            refine ⟨_, _, rfl, ⟨_, rfl, ⟨(show _ ≤ 50000 by simp), ?_⟩⟩⟩
            refine lcW_cons (g_nameV (by decide) ?_)
            refine d_tB (d_cb (d_cons (d_var (by with_unfolding_all rfl) ?_)))
            refine d_cons (d_c (by with_unfolding_all rfl) ?_)
            refine d_nil ?_
            refine c_tup (tg_toD _) ⟨_, rfl, (br_t (by with_unfolding_all rfl) ?_)⟩
            refine d_call (d_cons (d_var (by with_unfolding_all rfl) ?_))
            refine d_cons (d_var (by with_unfolding_all rfl) ?_)
            refine d_nil ?_
            (with_reducible refine m_reck ox (by omega) he ?_; rw [hx]; dsimp only [oS])
            refine lcW_cons (g_nameV (by decide) ?_)
            refine d_tB (d_cb (d_cons (d_var (by with_unfolding_all rfl) ?_)))
            refine d_cons (d_c (by with_unfolding_all rfl) ?_)
            refine d_nil ?_
            refine c_tup (tg_toD _) ⟨_, rfl, (br_t (by with_unfolding_all rfl) ?_)⟩
            refine d_call (d_cons (d_var (by with_unfolding_all rfl) ?_))
            refine d_cons (d_var (by with_unfolding_all rfl) ?_)
            refine d_nil ?_
            (with_reducible refine m_reck oy (by omega) he ?_; rw [hy]; dsimp only [oS])
            refine lcW_cons (g_nameV (by decide) ?_)
            refine d_tB (d_cb (d_cons (d_var (by with_unfolding_all rfl) ?_)))
            refine d_cons (d_c (by with_unfolding_all rfl) ?_)
            refine d_nil ?_
            refine c_tup (tg_toD _) ⟨_, rfl, (br_t (by with_unfolding_all rfl) ?_)⟩
            refine d_call (d_cons (d_var (by with_unfolding_all rfl) ?_))
            refine d_cons (d_var (by with_unfolding_all rfl) ?_)
            refine d_nil ?_
            (with_reducible refine m_reck oz (by omega) he ?_; rw [hz]; dsimp only [oS])
            refine lcW_nil (s_seq (s_set (d_op (d_var (by with_unfolding_all rfl) ?_))))
            refine d_c (by with_unfolding_all rfl) ?_
            refine r_ix (.inr (r_ixT (by with_unfolding_all rfl) ?_))
            refine s_seq (s_if (d_test (d_op (d_c (by with_unfolding_all rfl) ?_))))
            refine d_var (by with_unfolding_all rfl) ?_
            refine r_in2 (ss := [kx, ky, kz]) ⟨_, rfl, (br_f (by assumption) ?_)⟩
            refine s_next (s_seq (s_if (d_test (d_op (d_var (by with_unfolding_all rfl) ?_)))))
            refine d_c (by with_unfolding_all rfl) ?_
            refine r_eqS ⟨_, rfl, (br_f (by with_unfolding_all rfl) ?_)⟩
            refine s_next (s_seq (s_if (d_test (d_op (d_var (by with_unfolding_all rfl) ?_)))))
            refine d_c (by with_unfolding_all rfl) ?_
            refine r_eqS ⟨_, rfl, (br_f (by with_unfolding_all rfl) ?_)⟩
            refine s_next (s_seq (s_if (d_test (d_op (d_var (by with_unfolding_all rfl) ?_)))))
            refine d_c (by with_unfolding_all rfl) ?_
            refine r_eqS ⟨_, rfl, (br_f (by with_unfolding_all rfl) ?_)⟩
            refine s_next (s_seq (s_if (d_test (d_op (d_var (by with_unfolding_all rfl) ?_)))))
            refine d_c (by with_unfolding_all rfl) ?_
            refine r_eqS ⟨_, rfl, (br_f (by with_unfolding_all rfl) ?_)⟩
            refine s_next (s_seq (s_if (d_test (d_op (d_var (by with_unfolding_all rfl) ?_)))))
            refine d_tup (d_cons (d_c (by with_unfolding_all rfl) ?_))
            refine d_cons (d_c (by with_unfolding_all rfl) ?_)
            refine d_nil (And.intro (show List.length _ ≤ 100000 by simp) ?_)
            refine r_in0 (ss := ["then", "same"]) ⟨_, rfl, (br_f (by with_unfolding_all rfl) ?_)⟩
            refine s_next (s_seq (s_if (d_test (d_op (d_var (by with_unfolding_all rfl) ?_)))))
            refine d_c (by with_unfolding_all rfl) ?_
            refine r_eqS ⟨_, rfl, (br_t (by with_unfolding_all rfl) ?_)⟩
            refine s_ret (d_ifE (d_and (d_test (d_op (d_op (d_var (by with_unfolding_all rfl) ?_))))))
            refine d_c (by with_unfolding_all rfl) ?_
            refine r_ix (.inl (r_ixL (by with_unfolding_all rfl) ?_))
            refine d_c (by with_unfolding_all rfl) ?_
            refine r_eqS ⟨_, rfl, (br_f (by assumption) ?_)⟩
            refine br_f (by with_unfolding_all rfl) ?_
            refine d_c (by with_unfolding_all rfl) ?_
            dsimp only
            rotate_left
            all_goals exact q
end
end Pr
set_option Elab.async false
set_option linter.all false
set_option maxRecDepth 100000
set_option maxHeartbeats 2000000
namespace Pr
open PySem L2 PD
abbrev s_law_due : Stmt := top 50
abbrev N_law_due : List Str := ["_law_part_here", "_law_deeds", "_law_row", "_law_deed", "_law_takes", "_law_tells", "_law_body_here"]
theorem sc_law_due : FnScope N_law_due ["_law_part_here"] (defScope s_law_due) := ⟨rfl, rfl, rfl, by decide +kernel, rfl, by decide +kernel, by decide +kernel⟩

section
variable {P : Program} {w : World} {K : PySem.W.Frag} {mg : Str → Option Value} {base : Heap}
/-- a part whose cells' tuple is known to have no attributes -/
def Pt.toF (p : Pt) : D := .tup [.str p.name, .tup (p.deeds.map Dd.toD), .tup (p.asks.map askD), .tpf (p.cells.map celD)]
theorem weak_toF (p : Pt) : Weak K p.toF p.toD := fun G v r => by
  obtain ⟨a, vs, rfl, h, r⟩ := rel_tup r
  refine .tup h ?_
  cases r with
  | cons r1 r =>
  cases r with
  | cons r2 r =>
  cases r with
  | cons r3 r =>
  cases r with
  | cons r4 r => exact .cons r1 (.cons r2 (.cons r3 (.cons (Rel.weak r4) r)))
def M_due : List D → (D → Prop) → Prop := fun ds k => ∃ p : Pt, ds = [p.toF] ∧ p.ok ∧ k (optD p.wrong)
theorem m_due {p : Pt} {k : D → Prop} (h1 : p.ok) (h : k (optD p.wrong)) : M_due [p.toF] k := ⟨p, rfl, h1, h⟩
theorem ok_due (F : DefT K mg "_law_due" s_law_due) (zd : mg "dict" = none) (C_law_reckoned : Cal P w K mg base 11 "_law_reckoned" ["_law_body_here", "_law_e"] none (M_reck 10)) : Cal P w K mg base 12 "_law_due" ["_law_part_here"] none M_due := by
  refine okF F sc_law_due (fun _ _ _ _ _ _ us hl => match us, hl with | [_], _ => rfl) (fun ds k h => ?_) (fun f cdv A outer s H E ds kk hr h => ?_)
  · obtain ⟨_, rfl, _⟩ := h
    rfl
  obtain ⟨p, rfl, hp, q⟩ := h
  have ld := hp.d8
  have la := hp.a8
  have lc := hp.c4
  have hu := hu_of hr
  refine ⟨_, (pss_cons (ps_set (i := 1) sc_law_due.nd rfl (by first | exact Or.inl rfl | exact Or.inr rfl) (pe_callTy (r := PD.rDictL K) (T := "dict")  (call_dictP rfl) (by rfl) zd (by decide +kernel) (pa_cons (pe_lc (own := [("_law_row", 2)]) (g := gName 2) (tt := tYes) rfl sc_law_due.nd (pi_tup (pe_op (r := rCatA K) op_catA (pe_ix (r := rIx K) ix_seq (pv 0) pe_int (fun _ _ => rfl)) (pe_ix (r := rIx K) ix_seq (pv 0) pe_int (fun _ _ => rfl)))) (blkOk_by (own := [("_law_row", 2)]) (N := N_law_due) (sc := defScope s_law_due) (by decide +kernel)) (fun _ _ _ _ _ => (pg_name (i := 2) sc_law_due.nd rfl (by first | exact Or.inl rfl | exact Or.inr rfl))) (fun _ _ _ _ _ => pts_nil) (fun _ _ _ _ _ => (pe_tup (pa_cons (pe_ix (r := rIx K) ix_seq (pv 2) pe_int (fun _ _ => rfl)) (pa_cons (pe_slice (r := rSlA K) sl_tupA (pv 2) (po_some pe_int) (po_some pe_int)) pa_nil))))) pa_nil)))
      (pss_cons (ps_for PassesOwn.never rfl (pi_tup (pe_ix (r := rIx K) ix_seq (pv 0) pe_int (fun _ _ => rfl))) (pg_tupK (K := K) (n := 4) rfl rfl (pgs_cons (pg_name (i := 3) sc_law_due.nd rfl (by first | exact Or.inl rfl | exact Or.inr rfl)) (pgs_cons (pg_name (i := 4) sc_law_due.nd rfl (by first | exact Or.inl rfl | exact Or.inr rfl)) (pgs_cons (pg_name (i := 5) sc_law_due.nd rfl (by first | exact Or.inl rfl | exact Or.inr rfl)) (pgs_cons (pg_name (i := 6) sc_law_due.nd rfl (by first | exact Or.inl rfl | exact Or.inr rfl)) pgs_nil))))) (pss_one (ps_if (pt_cmpR op_ne (pe_calK (K := K) rfl C_law_reckoned (hr.mono (by first | decide | omega)) rfl (pa_cons (pv 6) (pa_cons (pe_disp (pps_cons pe_str (pv 4) (pps_cons pe_str (pv 1) (pps_cons pe_str (pe_callTy (r := PD.rDictT K) (T := "dict")  (PD.cr_dictT rfl) (by rfl) zd (by decide +kernel) (pa_cons (pe_ix (r := rIx K) ix_seq (pv 0) pe_int (fun _ _ => rfl)) pa_nil)) pps_nil))) (by rfl) (by rfl) (fun z => by cases z) (by decide)) pa_nil))) (pv 5) (nomark _)) (pss_one (ps_ret (pv 3))) pss_nil)))
      (pss_one (ps_ret pe_non)))), ?_⟩
  try dsimp only [cxOf]
  change dS _ _ _ [Sl.d _, Sl.un, Sl.un, Sl.un, Sl.un, Sl.un, Sl.un] _
  dsimp only [Pt.toF]
  refine s_seq (s_set (d_dictL (d_lc (i_tup ?_))))
  refine d_op (d_op (d_var (by with_unfolding_all rfl) ?_))
  refine d_c (by with_unfolding_all rfl) ?_
  refine r_ix (.inr (r_ixT (by with_unfolding_all rfl) ?_))
  refine d_op (d_var (by with_unfolding_all rfl) ?_)
  refine d_c (by with_unfolding_all rfl) ?_
  refine r_ix (.inr (r_ixT (by with_unfolding_all rfl) ?_))
  dsimp only
  refine r_catA (by rw [List.length_map, List.length_map]; omega) ?_
  refine ⟨_, rfl, ?_⟩
  (refine ⟨(by rw [List.length_append, List.length_map, List.length_map]; omega), ?_⟩)
  rotate_left
  refine lcW_fun (P := fun d => ∃ x t u rest, d = .tup (.str x :: .str t :: .str u :: rest)) (p := fun _ => true) (f := fun d => match d with | .tup (a :: t :: u :: _) => .tup [a, .tup [t, u]] | _ => .non) (fun d hd kx hx => g_nameV (by decide) (hx _ (fun kb q => d_yes q) (fun _ k q => ?_))) _ [] ?_ ?_
  · obtain ⟨x, t, u, rest, rfl⟩ := hd
    refine d_tup (d_cons (d_op (d_var rfl (d_c rfl (r_ix (.inr (r_ixT (show atI _ ((0 : Nat) : Int) = _ from atI_nat rfl) (d_cons (d_slT13 (d_var rfl ⟨_, _, _, _, rfl, d_nil ⟨by simp, q⟩⟩)))))))))) 
  · intro d hd
    rcases List.mem_append.mp hd with h | h
    · obtain ⟨a, ha, rfl⟩ := List.mem_map.mp h
      exact ⟨_, _, _, _, rfl⟩
    · obtain ⟨a, ha, rfl⟩ := List.mem_map.mp h
      exact ⟨_, _, _, _, rfl⟩
  have ef : (p.deeds.map Dd.toD ++ p.asks.map askD).filter (fun _ => true) = p.deeds.map Dd.toD ++ p.asks.map askD := List.filter_eq_self.mpr fun _ _ => rfl
  rw [List.nil_append, ef]
  have e : (p.deeds.map Dd.toD ++ p.asks.map askD).map (fun d => match d with | .tup (a :: t :: u :: _) => D.tup [a, .tup [t, u]] | _ => .non) = (p.calls.map fun q => (q.1, D.tup [.str q.2.1, .str q.2.2])).map prD := by
    unfold Pt.calls
    rw [List.map_append, List.map_append, List.map_append, List.map_map, List.map_map, List.map_map, List.map_map, List.map_map]
    rfl
  rw [e]
  refine ⟨_, rfl, ?_⟩
  have nd : ((([] : List (Str × D)) ++ p.calls.map fun q => (q.1, D.tup [.str q.2.1, .str q.2.2])).map (·.1)).Nodup := by
    rw [List.nil_append, List.map_map]
    have := calls_nodup hp
    unfold Pt.calls
    rw [List.map_append, List.map_map]
    exact this
  rw [mergeD_new nd, List.nil_append]
  have ndc : ((([] : List (Str × D)) ++ p.cells.map fun q => (q.1, D.str q.2)).map (·.1)).Nodup := by
    rw [List.nil_append, List.map_map]
    exact List.Pairwise.imp (fun {a b} q => by
      intro e
      subst e
      exact up_irr a q) hp.cup
  have ne : ∀ s ∈ kindsS, ("" : Str) ≠ s := by decide +kernel
  refine s_seq (s_for (i_tup ?_))
  refine d_op (d_var (by with_unfolding_all rfl) ?_)
  refine d_c (by with_unfolding_all rfl) ?_
  refine r_ix (.inr (r_ixT (by with_unfolding_all rfl) ?_))
  refine ⟨_, rfl, ?_⟩
  dsimp only
  rotate_left
  have loop : ∀ (r : List Dd) (ρ : List Sl), (∀ d ∈ r, d ∈ p.deeds) → kk (optD (firstWrong p.calls p.cells r)) → (∃ s2 s3 s4 s5 s6, ρ = [Sl.d p.toF, Sl.d (ctD p.calls), s2, s3, s4, s5, s6]) →
      forW K none (gTup K 4 (gCons (gName 3) (gCons (gName 4) (gCons (gName 5) (gCons (gName 6) gNil))))) (tIfS (tTest (tOp rNe (tCall (spD K none (M_reck 10)) [] E0 (tCons (tVar 6) (tCons (tDisp [(tC (V.str "takes"), tVar 4), (tC (V.str "deeds"), tVar 1), (tC (V.str "cells"), tCB (rDictT K) (tCons (tOp (rIx K) (tVar 0) (tC (V.int 3))) tNil))]) tNil))) (tVar 5))) (tRet (tVar 3)) tNext)
        { nx := fun ρ' => dS K none (tRet (tC V.non)) ρ' { nx := fun x => kk D.non, rt := kk }, rt := kk } (r.map Dd.toD) ρ := by
    intro r
    induction r with
    | nil =>
      rintro ρ _ qq ⟨s2, s3, s4, s5, s6, rfl⟩
      exact s_ret (d_c rfl qq)
    | cons d r ih =>
      rintro ρ hm qq ⟨s2, s3, s4, s5, s6, rfl⟩
      have hd := hm d List.mem_cons_self
      have od := hp.d d hd
      have eo := env_ok hp hd
      rw [List.map_cons]
      refine forW_cons ?_
      simp only [firstWrong] at qq
      refine g_tup (ds := [.str d.name, .str d.takes, .str d.tells, d.body.toD]) rfl ?_
      refine gs_cons (g_name (gs_cons (g_name (gs_cons (g_name (gs_cons (g_name (gs_nil ?_))))))))
      refine s_if (d_test (d_op (d_callP (d_cons (d_var rfl (d_cons (d_disp ?_)))))))
      refine dP_cons (d_c rfl ⟨_, rfl, d_var rfl (dP_cons (d_c rfl ⟨_, rfl, d_var rfl (dP_cons (d_c rfl ⟨_, rfl, d_dictT (d_op (d_var rfl (d_c rfl (r_ix (.inr (r_ixT (show atI _ ((3 : Nat) : Int) = _ from atI_nat rfl) ?_))))))⟩))⟩))⟩)
      refine ⟨p.cells.map fun q => (q.1, D.str q.2), by rw [List.map_map]; rfl, ?_⟩
      rw [mergeD_new ndc, List.nil_append]
      refine dP_nil ⟨by simp, d_nil ?_⟩
      refine (show M_reck 10 [d.body.toD, eD d.takes p.calls p.cells] _ from m_reck od.b od.depth eo ?_)
      by_cases good : d.body.kind d.takes p.calls p.cells = some d.tells
      · rw [if_pos good] at qq
        rw [good]
        refine d_var rfl (r_neS ⟨_, rfl, br_f (by simp [oS]) (s_next ?_)⟩)
        exact ih _ (fun x hx => hm x (List.mem_cons_of_mem _ hx)) qq ⟨_, _, _, _, _, rfl⟩
      · rw [if_neg good] at qq
        have nt : (!decide (oS (d.body.kind d.takes p.calls p.cells) = d.tells)) = true := by
          cases ek : d.body.kind d.takes p.calls p.cells with
          | none =>
            have := ne _ od.u
            simp [oS, this]
          | some t =>
            have : t ≠ d.tells := fun e => good (by rw [ek, e])
            simp [oS, this]
        refine d_var rfl (r_neS ⟨_, rfl, br_t nt (s_ret (d_var rfl qq))⟩)
  exact loop _ _ (fun d h => h) q ⟨_, _, _, _, _, rfl⟩
end
end Pr
set_option Elab.async false
set_option linter.all false
set_option maxRecDepth 100000
set_option maxHeartbeats 2000000
namespace Pr
open PySem L2 PD
theorem kind_mono {takes : Str} {calls calls' : CT} {cells cells' : ET} : ∀ (b : B) (t : Str), b.kind takes calls cells = some t → (∀ x ∈ b.called, ∀ v, lookS calls x = some v → lookS calls' x = some v) →
    (∀ c ∈ b.uses, ∀ v, lookS cells c = some v → lookS cells' c = some v) → b.kind takes calls' cells' = some t := by
  intro b
  induction b with
  | num n => intro t e _ _; exact e
  | tru n => intro t e _ _; exact e
  | emp => intro t e _ _; exact e
  | arg => intro t e _ _; exact e
  | cel c => intro t e _ h; exact h c (by simp [B.uses]) _ e
  | set c x ih =>
    intro t e h1 h2
    simp only [B.kind] at e ⊢
    cases hx : x.kind takes calls cells with
    | none => rw [hx] at e; cases e
    | some k =>
      rw [hx] at e
      rw [ih k hx (fun y hy => h1 y (by simp only [B.called]; exact mem_addNew.mpr (.inr hy))) fun y hy => h2 y (by simp only [B.uses]; exact List.mem_cons_of_mem _ hy)]
      dsimp only at e ⊢
      by_cases hl : lookS cells c = some k
      · rw [if_pos hl] at e
        rw [if_pos (h2 c (by simp [B.uses]) _ hl)]
        exact e
      · rw [if_neg hl] at e; cases e
  | call d x ih =>
    intro t e h1 h2
    simp only [B.kind] at e ⊢
    cases hx : x.kind takes calls cells with
    | none => rw [hx] at e; cases e
    | some k =>
      rw [hx] at e
      rw [ih k hx (fun y hy => h1 y (by simp only [B.called]; exact mem_addNew.mpr (.inr hy))) fun y hy => h2 y hy]
      dsimp only at e ⊢
      cases hl : lookS calls d with
      | none => rw [hl] at e; cases e
      | some p =>
        rw [hl] at e
        rw [h1 d (by simp only [B.called]; exact mem_addNew.mpr (.inl (by simp))) _ hl]
        exact e
  | op1 v x ih =>
    intro t e h1 h2
    simp only [B.kind] at e ⊢
    cases hx : x.kind takes calls cells with
    | none => rw [hx] at e; cases e
    | some k =>
      rw [hx] at e
      rw [ih k hx (fun y hy => h1 y (by simp only [B.called]; exact mem_addNew.mpr (.inr hy))) fun y hy => h2 y hy]
      exact e
  | op2 v x y ihx ihy =>
    intro t e h1 h2
    simp only [B.kind] at e ⊢
    cases hx : x.kind takes calls cells with
    | none => rw [hx] at e; cases e
    | some k =>
      cases hy : y.kind takes calls cells with
      | none => rw [hx, hy] at e; cases e
      | some l =>
        rw [hx, hy] at e
        rw [ihx k hx (fun z hz => h1 z (by simp only [B.called]; exact mem_addNew.mpr (.inl (mem_addNew.mpr (.inr hz))))) fun z hz => h2 z (by simp only [B.uses]; exact List.mem_append_left _ hz),
          ihy l hy (fun z hz => h1 z (by simp only [B.called]; exact mem_addNew.mpr (.inr hz))) fun z hz => h2 z (by simp only [B.uses]; exact List.mem_append_right _ hz)]
        exact e
  | ite x y w ihx ihy ihw =>
    intro t e h1 h2
    simp only [B.kind] at e ⊢
    cases hx : x.kind takes calls cells with
    | none => rw [hx] at e; cases e
    | some k =>
      cases hy : y.kind takes calls cells with
      | none => rw [hx, hy] at e; cases e
      | some l =>
        cases hw : w.kind takes calls cells with
        | none => rw [hx, hy, hw] at e; cases e
        | some m =>
          rw [hx, hy, hw] at e
          rw [ihx k hx (fun z hz => h1 z (by simp only [B.called]; exact mem_addNew.mpr (.inl (mem_addNew.mpr (.inl (mem_addNew.mpr (.inr hz))))))) fun z hz => h2 z (by simp only [B.uses]; exact List.mem_append_left _ (List.mem_append_left _ hz)),
            ihy l hy (fun z hz => h1 z (by simp only [B.called]; exact mem_addNew.mpr (.inl (mem_addNew.mpr (.inr hz))))) fun z hz => h2 z (by simp only [B.uses]; exact List.mem_append_left _ (List.mem_append_right _ hz)),
            ihw m hw (fun z hz => h1 z (by simp only [B.called]; exact mem_addNew.mpr (.inr hz))) fun z hz => h2 z (by simp only [B.uses]; exact List.mem_append_right _ hz)]
          exact e
theorem size_pow : ∀ b : B, 2 * b.size + 1 ≤ 3 ^ b.depth := by
  intro b
  have up : ∀ {i j : Nat}, i ≤ j → 3 ^ i ≤ 3 ^ j := fun h => Nat.pow_le_pow_right (by omega) h
  induction b with
  | op1 v x ih => simp only [B.size, B.depth, Nat.pow_succ]; omega
  | set v x ih => simp only [B.size, B.depth, Nat.pow_succ]; omega
  | call v x ih => simp only [B.size, B.depth, Nat.pow_succ]; omega
  | op2 v x y ihx ihy =>
    simp only [B.size, B.depth, Nat.pow_succ]
    have h1 := up (Nat.le_max_left x.depth y.depth)
    have h2 := up (Nat.le_max_right x.depth y.depth)
    omega
  | ite x y z ihx ihy ihz =>
    simp only [B.size, B.depth, Nat.pow_succ]
    have h1 := up (Nat.le_trans (Nat.le_max_left x.depth y.depth) (Nat.le_max_left _ z.depth))
    have h2 := up (Nat.le_trans (Nat.le_max_right x.depth y.depth) (Nat.le_max_left _ z.depth))
    have h3 := up (Nat.le_max_right (max x.depth y.depth) z.depth)
    omega
  | _ => simp [B.size, B.depth]
theorem size40 {b : B} (h : b.depth ≤ 4) : b.size ≤ 40 := by
  have h1 := size_pow b
  have h2 : 3 ^ b.depth ≤ 3 ^ 4 := Nat.pow_le_pow_right (by omega) h
  omega
section
variable {K : PySem.W.Frag} {hs : Option (Addr × Addr)} {ρ : List Sl} {te : TE} {tt : TT} {g : TG}
/-- items that are drawn, but some must come -/
theorem lcW_dem {js : List Nat} {kl : List D → Prop} (must : Str → Bool) (f : Str → D) (P : Str → Prop) (h : ∀ s, P s → ∀ kk : List Sl → Prop, (∀ ρ', (∀ kb : Bool → Prop, kb true → (must s = false → kb false) → dT K hs tt ρ' kb) → (∀ k : D → Prop, k (f s) → dE K hs te ρ' k) → kk ρ') → dG K hs g (some js) (.str s) ρ kk) :
    ∀ (ss : List Str) (acc : List D), (∀ s ∈ ss, P s) → (∀ zs : List Str, zs.Sublist ss → (∀ s ∈ ss, must s = true → s ∈ zs) → kl (acc ++ zs.map f)) → lcW K hs g js tt te ρ kl (strsOf ss) acc
  | [], acc, _, q => by
    have := q [] (List.Sublist.refl _) (fun s hs => by cases hs)
    show kl acc
    simpa using this
  | s :: r, acc, hp, q => by
    refine h s (hp s List.mem_cons_self) _ fun ρ' h1 h2 => h1 _ ⟨fun _ => h2 _ ?_, fun e => (by cases e)⟩ fun em => ⟨fun e => (by cases e), fun _ => ?_⟩
    · refine lcW_dem must f P h r _ (fun x hx => hp x (List.mem_cons_of_mem _ hx)) fun zs z1 z2 => ?_
      have := q (s :: zs) (z1.cons_cons s) fun x hx hm => by
        rcases List.mem_cons.mp hx with rfl | hx
        · exact List.mem_cons_self
        · exact List.mem_cons_of_mem _ (z2 x hx hm)
      rw [List.append_assoc]
      exact this
    · refine lcW_dem must f P h r _ (fun x hx => hp x (List.mem_cons_of_mem _ hx)) fun zs z1 z2 => ?_
      exact q zs (z1.cons s) fun x hx hm => by
        rcases List.mem_cons.mp hx with rfl | hx
        · rw [em] at hm; cases hm
        · exact z2 x hx hm
end
end Pr
set_option Elab.async false
set_option linter.all false
set_option maxRecDepth 100000
set_option maxHeartbeats 2000000
namespace Pr
open PySem L2 PD
abbrev s_law_part : Stmt := top 46
abbrev N_law_part : List Str := ["_law_h", "_law_name", "_law_own", "_law_others", "_law_sig", "_law_cells", "_law_deeds", "_law_met", "_law_used_here", "_law_given", "_law_deed", "_law_e", "_law_body_here", "_law_asks", "_law_some", "_law_cell"]
theorem sc_law_part : FnScope N_law_part ["_law_h", "_law_name", "_law_own", "_law_others", "_law_sig", "_law_cells"] (defScope s_law_part) := ⟨rfl, rfl, rfl, by decide +kernel, rfl, by decide +kernel, by decide +kernel⟩

/-- right, and its bodies not deep -/
def Pt.fine (p : Pt) : Prop := p.wrong = none ∧ ∀ d ∈ p.deeds, d.body.depth ≤ 4
structure SigOk (sig : CT) : Prop where
  all : ∀ x ∈ deedsS, ∃ t u, lookS sig x = some (t, u) ∧ t ∈ kindsS ∧ u ∈ kindsS
structure CellOk (cells : ET) : Prop where
  n : (cells.map (·.1)).Nodup
  c : ∀ p ∈ cells, p.1 ∈ cellsS ∧ p.2 ∈ kindsS
  len : cells.length ≤ 4
def sigOf (sig : CT) (x : Str) : Str × Str := (lookS sig x).getD ("", "")
def celOf (cells : ET) (x : Str) : Str := (lookS cells x).getD ""
theorem SigOk.of {sig : CT} (h : SigOk sig) {x : Str} (hx : x ∈ deedsS) : lookS sig x = some (sigOf sig x) ∧ (sigOf sig x).1 ∈ kindsS ∧ (sigOf sig x).2 ∈ kindsS := by
  obtain ⟨t, u, e, h1, h2⟩ := h.all x hx
  unfold sigOf
  rw [e]
  exact ⟨rfl, h1, h2⟩
theorem CellOk.of {cells : ET} (h : CellOk cells) {x : Str} (hx : x ∈ cells.map (·.1)) : lookS cells x = some (celOf cells x) ∧ x ∈ cellsS ∧ celOf cells x ∈ kindsS := by
  obtain ⟨p, hp, rfl⟩ := List.mem_map.mp hx
  have e := look_in h.n hp
  unfold celOf
  rw [e]
  exact ⟨rfl, (h.c p hp).1, (h.c p hp).2⟩
def givenOf (sig : CT) (names : List Str) : CT := names.map fun x => (x, sigOf sig x)
theorem given_names {sig : CT} {names : List Str} : (givenOf sig names).map (·.1) = names := by
  unfold givenOf
  rw [List.map_map]
  exact (List.map_congr_left fun _ _ => rfl).trans (List.map_id names)
theorem look_given {sig : CT} {names : List Str} (nd : names.Nodup) {x : Str} (hx : x ∈ names) : lookS (givenOf sig names) x = some (sigOf sig x) :=
  look_in (by rw [given_names]; exact nd) (List.mem_map.mpr ⟨x, hx, rfl⟩)
structure PInv (sig given : CT) (cells : ET) (done : List Str) (dds : List Dd) (met used : List Str) : Prop where
  names : dds.map Dd.name = done
  each : ∀ d ∈ dds, d.takes = (sigOf sig d.name).1 ∧ d.tells = (sigOf sig d.name).2 ∧ Gen d.takes given cells d.tells 4 d.body
  m : ∀ d ∈ dds, ∀ x ∈ d.body.called, x ∈ met
  u : ∀ d ∈ dds, ∀ x ∈ d.body.uses, x ∈ used
  ml : met.length ≤ 40 * dds.length
  ul : used.length ≤ 40 * dds.length
theorem PInv.add {sig given : CT} {cells : ET} {done : List Str} {dds : List Dd} {met used : List Str} (h : PInv sig given cells done dds met used) {x : Str} {b : B} (hb : Gen (sigOf sig x).1 given cells (sigOf sig x).2 4 b) :
    PInv sig given cells (done ++ [x]) (dds ++ [⟨x, (sigOf sig x).1, (sigOf sig x).2, b⟩]) (met ++ b.called) (used ++ b.uses) := by
  have s40 := size40 hb.2.1
  refine ⟨by rw [List.map_append, h.names]; rfl, fun d hd => ?_, fun d hd y hy => ?_, fun d hd y hy => ?_, ?_, ?_⟩
  · rcases List.mem_append.mp hd with e | e
    · exact h.each d e
    · rw [List.mem_singleton.mp e]
      exact ⟨rfl, rfl, hb⟩
  · rcases List.mem_append.mp hd with e | e
    · exact List.mem_append_left _ (h.m d e y hy)
    · rw [List.mem_singleton.mp e] at hy
      exact List.mem_append_right _ hy
  · rcases List.mem_append.mp hd with e | e
    · exact List.mem_append_left _ (h.u d e y hy)
    · rw [List.mem_singleton.mp e] at hy
      exact List.mem_append_right _ hy
  · have := called_len b
    have := h.ml
    rw [List.length_append, List.length_append, List.length_singleton]; omega
  · have := uses_len b
    have := h.ul
    rw [List.length_append, List.length_append, List.length_singleton]; omega
theorem firstWrong_none {calls : CT} {cells : ET} : ∀ {r : List Dd}, (∀ d ∈ r, d.body.kind d.takes calls cells = some d.tells) → firstWrong calls cells r = none
  | [], _ => rfl
  | d :: r, h => by
    simp only [firstWrong]
    rw [if_pos (h d List.mem_cons_self)]
    exact firstWrong_none fun x hx => h x (List.mem_cons_of_mem _ hx)
theorem part_good {name : Str} {own others ys ys2 ys3 zs cs met used : List Str} {sig : CT} {cells : ET} {dds : List Dd} (hn : name ∈ partsS) (ho : ∀ x ∈ own, x ∈ deedsS) (ht : ∀ x ∈ others, x ∈ deedsS) (nd : (own ++ others).Nodup) (hs : SigOk sig) (hc : CellOk cells)
    (y1 : ys.Perm own) (y2 : PyProof.Rows.sortedS ys = true) (iv : PInv sig (givenOf sig (own ++ others)) cells ys dds met used)
    (a1 : ys2.Perm others) (a2 : PyProof.Rows.sortedS ys2 = true) (a3 : zs.Sublist ys2) (a4 : ∀ s ∈ ys2, s ∈ met → s ∈ zs)
    (c1 : ys3.Perm (cells.map (·.1))) (c2 : PyProof.Rows.sortedS ys3 = true) (c3 : cs.Sublist ys3) (c4 : ∀ s ∈ ys3, s ∈ used → s ∈ cs) :
    (⟨name, dds, givenOf sig zs, cs.map fun c => (c, celOf cells c)⟩ : Pt).ok ∧ (⟨name, dds, givenOf sig zs, cs.map fun c => (c, celOf cells c)⟩ : Pt).fine := by
  have nd1 := (List.nodup_append.mp nd).1
  have nd2 := (List.nodup_append.mp nd).2.1
  have nd3 := (List.nodup_append.mp nd).2.2
  have l8 : (own ++ others).length ≤ 8 := PT.nodup_le nd (m := deedsS) fun x hx => (List.mem_append.mp hx).elim (ho x) (ht x)
  rw [List.length_append] at l8
  have ny : ys.Nodup := (y1.nodup_iff).mpr nd1
  have ny2 : ys2.Nodup := (a1.nodup_iff).mpr nd2
  have ny3 : ys3.Nodup := (c1.nodup_iff).mpr hc.n
  have ld : dds.length = own.length := by
    have := congrArg List.length iv.names
    rw [List.length_map] at this
    rw [this, y1.length_eq]
  have lz : zs.length ≤ others.length := by
    have := a3.length_le
    rw [a1.length_eq] at this
    exact this
  have lc : cs.length ≤ 4 := by
    have := c3.length_le
    rw [c1.length_eq, List.length_map] at this
    exact Nat.le_trans this hc.len
  have mo : ∀ d ∈ dds, d.name ∈ own := fun d hd => y1.mem_iff.mp (by rw [← iv.names]; exact List.mem_map.mpr ⟨d, hd, rfl⟩)
  have mz : ∀ x ∈ zs, x ∈ others := fun x hx => a1.mem_iff.mp (a3.subset hx)
  have mc : ∀ x ∈ cs, x ∈ cells.map (·.1) := fun x hx => c1.mem_iff.mp (c3.subset hx)
  have ec : (cs.map fun c => (c, celOf cells c)).map (·.1) = cs := by
    rw [List.map_map]
    exact (List.map_congr_left fun _ _ => rfl).trans (List.map_id cs)
  have hp : (⟨name, dds, givenOf sig zs, cs.map fun c => (c, celOf cells c)⟩ : Pt).ok := {
    n := hn
    d8 := by show dds.length ≤ 8; omega
    d := fun d hd => by
      obtain ⟨e1, e2, hb⟩ := iv.each d hd
      have so := hs.of (ho _ (mo d hd))
      have s40 := size40 hb.2.1
      have d4 := hb.2.1
      exact ⟨ho _ (mo d hd), by rw [e1]; exact so.2.1, by rw [e2]; exact so.2.2, hb.1, by omega, by omega⟩
    dup := by
      show (dds.map Dd.name).Pairwise up
      rw [iv.names]
      exact sorted_up y2 ny
    a8 := by show (givenOf sig zs).length ≤ 8; unfold givenOf; rw [List.length_map]; omega
    a := fun a ha => by
      obtain ⟨x, hx, rfl⟩ := List.mem_map.mp ha
      have so := hs.of (ht _ (mz x hx))
      exact ⟨ht _ (mz x hx), so.2.1, so.2.2⟩
    aup := by
      show ((givenOf sig zs).map (·.1)).Pairwise up
      rw [given_names]
      exact (sorted_up a2 ny2).sublist a3
    apart := fun a ha => by
      obtain ⟨x, hx, rfl⟩ := List.mem_map.mp ha
      intro hm
      obtain ⟨d, hd, e⟩ := List.mem_map.mp hm
      exact nd3 _ (mo d hd) _ (mz x hx) e
    c4 := by show (cs.map _).length ≤ 4; rw [List.length_map]; exact lc
    c := fun c hc' => by
      obtain ⟨x, hx, rfl⟩ := List.mem_map.mp hc'
      have so := hc.of (mc x hx)
      exact ⟨so.2.1, so.2.2⟩
    cup := by
      show ((cs.map fun c => (c, celOf cells c)).map (·.1)).Pairwise up
      rw [ec]
      exact (sorted_up c2 ny3).sublist c3 }
  refine ⟨hp, ?_, fun d hd => (iv.each d hd).2.2.2.1⟩
  unfold Pt.wrong
  refine firstWrong_none fun d hd => ?_
  obtain ⟨e1, e2, hb⟩ := iv.each d hd
  have ndc := calls_nodup hp
  refine kind_mono d.body d.tells hb.2.2 (fun x hx v hv => ?_) (fun x hx v hv => ?_)
  · have hx' : x ∈ own ++ others := by
      have := look_mem hv
      rw [← given_names (sig := sig) (names := own ++ others)]
      exact List.mem_map.mpr ⟨_, this, rfl⟩
    rw [look_given nd hx'] at hv
    cases hv
    refine look_in ?_ ?_
    · unfold Pt.calls
      rw [List.map_append, List.map_map]
      exact ndc
    · unfold Pt.calls
      rcases List.mem_append.mp hx' with h | h
      · have : x ∈ dds.map Dd.name := by rw [iv.names]; exact y1.mem_iff.mpr h
        obtain ⟨d', hd', e⟩ := List.mem_map.mp this
        obtain ⟨f1, f2, _⟩ := iv.each d' hd'
        refine List.mem_append_left _ (List.mem_map.mpr ⟨d', hd', ?_⟩)
        rw [f1, f2, e]
      · exact List.mem_append_right _ (List.mem_map.mpr ⟨x, a4 x (a1.mem_iff.mpr h) (iv.m d hd x hx), rfl⟩)
  · have hm := look_mem hv
    have hx' : x ∈ cells.map (·.1) := List.mem_map.mpr ⟨_, hm, rfl⟩
    rw [(hc.of hx').1] at hv
    cases hv
    refine look_in ?_ ?_
    · show ((cs.map fun c => (c, celOf cells c)).map (·.1)).Nodup
      rw [ec]
      exact ny3.sublist c3
    · exact List.mem_map.mpr ⟨x, c4 x (c1.mem_iff.mpr hx') (iv.u d hd x hx), rfl⟩
end Pr
set_option Elab.async false
set_option linter.all false
set_option maxRecDepth 100000
set_option maxHeartbeats 2000000
namespace Pr
open PySem L2 PD
section
variable {P : Program} {w : World} {K : PySem.W.Frag} {mg : Str → Option Value} {base : Heap}
def M_lpart (ah : Addr) : List D → (D → Prop) → Prop := fun ds k => ∃ (name : Str) (own others : List Str) (sig : CT) (cells : ET), ds = [.adr ah, .str name, .lst (strsOf own), .lst (strsOf others), ctD sig, etD cells] ∧ name ∈ partsS ∧ (∀ x ∈ own, x ∈ deedsS) ∧ (∀ x ∈ others, x ∈ deedsS) ∧ (own ++ others).Nodup ∧
  SigOk sig ∧ CellOk cells ∧ ∀ p : Pt, p.ok → p.fine → k p.toF
theorem m_gens {ah : Addr} {takes : Str} {calls : CT} {cells : ET} {kind : Str} {i : Int} {k : D → Prop} (h0 : 1 ≤ i) (h3 : i ≤ 3) (hg : EnvG takes calls cells) (hk : kind ∈ kindsS) (h : ∀ b : B, Gen takes calls cells kind 4 b → k b.toD) : M_gens ah [.adr ah, eD takes calls cells, .str kind, .int i] k := by
  have : i = 1 ∨ i = 2 ∨ i = 3 := by omega
  rcases this with rfl | rfl | rfl
  · exact .inl (m_gen rfl hg hk fun b hb => h b (hb.up (by omega)))
  · exact .inr (.inl (m_gen rfl hg hk fun b hb => h b (hb.up (by omega))))
  · exact .inr (.inr (m_gen rfl hg hk h))
theorem ok_lpart {ah as : Addr} (F : DefT K mg "_law_part" s_law_part) (zd : mg "dict" = none) (zs : mg "sorted" = none) (zt : mg "tuple" = none) (C_law_next : Cal P w K mg base 1 "_law_next" ["_law_h", "_law_many"] (some (ah, as)) (M_next ah))
    (C_law_body : Cal P w K mg base 9 "_law_body" ["_law_h", "_law_e", "_law_kind", "_law_deep_here"] (some (ah, as)) (M_gens ah)) (C_law_calls : Cal P w K mg base 5 "_law_calls" ["_law_body_here"] none (M_lcalls 4)) (C_law_used : Cal P w K mg base 5 "_law_used" ["_law_body_here"] none (M_used 4)) :
    Cal P w K mg base 10 "_law_part" ["_law_h", "_law_name", "_law_own", "_law_others", "_law_sig", "_law_cells"] (some (ah, as)) (M_lpart ah) := by
  refine okF F sc_law_part (fun _ _ _ _ _ _ us hl => match us, hl with | [_, _, _, _, _, _], _ => rfl) (fun ds k h => ?_) (fun f cdv A outer s H E ds kk hr h => ?_)
  · obtain ⟨_, _, _, _, _, rfl, _⟩ := h
    rfl
  obtain ⟨name, own, others, sig, cells, rfl, hn, ho, ht, nd, hs, hc, q⟩ := h
  have hu := hu_of hr
  have l8 : (own ++ others).length ≤ 8 := PT.nodup_le nd (m := deedsS) fun x hx => (List.mem_append.mp hx).elim (ho x) (ht x)
  rw [List.length_append] at l8
  refine ⟨_, (pss_cons (ps_set (i := 6) sc_law_part.nd rfl (by first | exact Or.inl rfl | exact Or.inr rfl) (pe_lst pa_nil))
      (pss_cons (ps_set (i := 7) sc_law_part.nd rfl (by first | exact Or.inl rfl | exact Or.inr rfl) (pe_lst pa_nil))
      (pss_cons (ps_set (i := 8) sc_law_part.nd rfl (by first | exact Or.inl rfl | exact Or.inr rfl) (pe_lst pa_nil))
      (pss_cons (ps_set (i := 9) sc_law_part.nd rfl (by first | exact Or.inl rfl | exact Or.inr rfl) (pe_callTy (r := PD.rDictL K) (T := "dict")  (call_dictP rfl) (by rfl) zd (by decide +kernel) (pa_cons (pe_lc (own := [("_law_deed", 10)]) (g := gName 10) (tt := tYes) rfl sc_law_part.nd (pi_list (pe_op op_cat (pv 2) (pv 3))) (blkOk_by (own := [("_law_deed", 10)]) (N := N_law_part) (sc := defScope s_law_part) (by decide +kernel)) (fun _ _ _ _ _ => (pg_name (i := 10) sc_law_part.nd rfl (by first | exact Or.inl rfl | exact Or.inr rfl))) (fun _ _ _ _ _ => pts_nil) (fun _ _ _ _ _ => (pe_tup (pa_cons (pv 10) (pa_cons (pe_dget hu (pv 4) (pv 10) (fun _ _ => rfl)) pa_nil))))) pa_nil)))
      (pss_cons (ps_for PassesOwn.never rfl (pi_list (pe_callB (r := rSortedS K) (id := "sorted") cr_sortedS (by rfl) zs (by decide +kernel) (pa_cons (pv 2) pa_nil))) (pg_name (i := 10) sc_law_part.nd rfl (by first | exact Or.inl rfl | exact Or.inr rfl)) (pss_cons (ps_set (i := 11) sc_law_part.nd rfl (by first | exact Or.inl rfl | exact Or.inr rfl) (pe_disp (pps_cons pe_str (pe_ix (r := rIx K) ix_seq (pe_dget hu (pv 4) (pv 10) (fun _ _ => rfl)) pe_int (fun _ _ => rfl)) (pps_cons pe_str (pv 9) (pps_cons pe_str (pv 5) pps_nil))) (by rfl) (by rfl) (fun z => by cases z) (by decide)))
      (pss_cons (ps_set (i := 12) sc_law_part.nd rfl (by first | exact Or.inl rfl | exact Or.inr rfl) (pe_calK (K := K) rfl C_law_body (hr.mono (by first | decide | omega)) rfl (pa_cons (pv 0) (pa_cons (pv 11) (pa_cons (pe_ix (r := rIx K) ix_seq (pe_dget hu (pv 4) (pv 10) (fun _ _ => rfl)) pe_int (fun _ _ => rfl)) (pa_cons (pe_op op_add pe_int (pe_calK (K := K) rfl C_law_next (hr.mono (by first | decide | omega)) rfl (pa_cons (pv 0) (pa_cons pe_int pa_nil)))) pa_nil))))))
      (pss_cons (ps_expr (pe_bm PySem.F.plainAttrs_list PySem.F.slot_list_append PySem.F.type_list_append mt_append (pv 6) (pa_cons (pe_op (r := rCatA K) op_catA (pe_op (r := rCatA K) op_catA (pe_tup (pa_cons (pv 10) pa_nil)) (pe_dget hu (pv 4) (pv 10) (fun _ _ => rfl))) (pe_tup (pa_cons (pv 12) pa_nil))) pa_nil)))
      (pss_cons (ps_set (i := 7) sc_law_part.nd rfl (by first | exact Or.inl rfl | exact Or.inr rfl) (pe_op op_cat (pv 7) (pe_calK (K := K) rfl C_law_calls (hr.mono (by first | decide | omega)) rfl (pa_cons (pv 12) pa_nil))))
      (pss_one (ps_set (i := 8) sc_law_part.nd rfl (by first | exact Or.inl rfl | exact Or.inr rfl) (pe_op op_cat (pv 8) (pe_calK (K := K) rfl C_law_used (hr.mono (by first | decide | omega)) rfl (pa_cons (pv 12) pa_nil))))))))))
      (pss_cons (ps_setLc (i := 13) (own := [("_law_deed", 10)]) (g := gName 10) rfl sc_law_part.nd rfl rfl (sw_true rfl rfl rfl (by decide +kernel)) (pi_list (pe_callB (r := rSortedS K) (id := "sorted") cr_sortedS (by rfl) zs (by decide +kernel) (pa_cons (pv 3) pa_nil))) (blkOk_by (own := [("_law_deed", 10)]) (N := N_law_part) (sc := defScope s_law_part) (by decide +kernel)) (fun _ _ _ _ _ => (pg_name (i := 10) sc_law_part.nd rfl (by first | exact Or.inl rfl | exact Or.inr rfl))) (fun _ _ _ _ _ => (pts_one (PW.pt (pw_or (pt_cmpR (r := rIn K false) op_in_seq (pv 10) (pv 7) rfl) (pw_or1 (pt_cmpR op_eq (pe_calK (K := K) rfl C_law_next (hr.mono (by first | decide | omega)) rfl (pa_cons (pv 0) (pa_cons pe_int pa_nil))) pe_int (nomark _))))))) (fun _ _ _ _ _ => (pe_op (r := rCatA K) op_catA (pe_tup (pa_cons (pv 10) pa_nil)) (pe_dget hu (pv 4) (pv 10) (fun _ _ => rfl)))))
      (pss_cons (ps_setLc (i := 14) (own := [("_law_cell", 15)]) (g := gName 15) rfl sc_law_part.nd rfl rfl (sw_true rfl rfl rfl (by decide +kernel)) (pi_list (pe_callB (r := rSortD) (id := "sorted") (call_sortedD rfl) (by rfl) zs (by decide +kernel) (pa_cons (pv 5) pa_nil))) (blkOk_by (own := [("_law_cell", 15)]) (N := N_law_part) (sc := defScope s_law_part) (by decide +kernel)) (fun _ _ _ _ _ => (pg_name (i := 15) sc_law_part.nd rfl (by first | exact Or.inl rfl | exact Or.inr rfl))) (fun _ _ _ _ _ => (pts_one (PW.pt (pw_or (pt_cmpR (r := rIn K false) op_in_seq (pv 15) (pv 8) rfl) (pw_or1 (pt_cmpR op_eq (pe_calK (K := K) rfl C_law_next (hr.mono (by first | decide | omega)) rfl (pa_cons (pv 0) (pa_cons pe_int pa_nil))) pe_int (nomark _))))))) (fun _ _ _ _ _ => (pe_tup (pa_cons (pv 15) (pa_cons (pe_dget hu (pv 5) (pv 15) (fun _ _ => rfl)) pa_nil)))))
      (pss_one (ps_ret (pe_tup (pa_cons (pv 1) (pa_cons (pe_callTy (r := rTupQ K) (T := "tuple")  call_tuple_of (by rfl) zt (by decide +kernel) (pa_cons (pv 6) pa_nil)) (pa_cons (pe_callTy (r := rTupQ K) (T := "tuple")  call_tuple_of (by rfl) zt (by decide +kernel) (pa_cons (pv 13) pa_nil)) (pa_cons (pe_callTy (r := PD.rTupF K) (T := "tuple")  PD.cr_tupF (by rfl) zt (by decide +kernel) (pa_cons (pv 14) pa_nil)) pa_nil)))))))))))))), ?_⟩
  try dsimp only [cxOf]
  change dS _ _ _ [Sl.d _, Sl.d _, Sl.d _, Sl.d _, Sl.d _, Sl.d _, Sl.un, Sl.un, Sl.un, Sl.un, Sl.un, Sl.un, Sl.un, Sl.un, Sl.un, Sl.un] _
  have hsig : ∀ x ∈ deedsS, lookD (sig.map fun p => (p.1, D.tup [.str p.2.1, .str p.2.2])) x = some (.tup [.str (sigOf sig x).1, .str (sigOf sig x).2]) := fun x hx => by
    rw [look_map (fun p : Str × Str => D.tup [.str p.1, .str p.2]), (hs.of hx).1]
    rfl
  have hcel : ∀ x ∈ cells.map (·.1), lookD (cells.map fun p => (p.1, D.str p.2)) x = some (.str (celOf cells x)) := fun x hx => by
    rw [look_map D.str, (hc.of hx).1]
    rfl
  have mem : ∀ x ∈ own ++ others, x ∈ deedsS := fun x hx => (List.mem_append.mp hx).elim (ho x) (ht x)
  have hg : ∀ x ∈ own, EnvG (sigOf sig x).1 (givenOf sig (own ++ others)) cells := fun x hx => {
    t := (hs.of (ho x hx)).2.1
    c := fun p hp => by
      obtain ⟨y, hy, rfl⟩ := List.mem_map.mp hp
      exact (hs.of (mem y hy)).2
    e := fun p hp => (hc.c p hp).2
    cn := fun p hp => by
      obtain ⟨y, hy, rfl⟩ := List.mem_map.mp hp
      exact mem y hy
    en := fun p hp => (hc.c p hp).1
    clen := by unfold givenOf; rw [List.length_map, List.length_append]; exact l8
    elen := hc.len
    cnd := by rw [given_names]; exact nd
    ecd := hc.n }
  refine s_seq (s_own (l_lst (d_nil ⟨by simp, ?_⟩)))
  refine s_seq (s_set (d_lst (d_nil ⟨by simp, ?_⟩)))
  refine s_seq (s_set (d_lst (d_nil ⟨by simp, ?_⟩)))
  refine s_seq (s_set (d_dictL (d_lc (i_list (d_ofL (l_cat (d_var rfl (d_var rfl ⟨_, _, rfl, rfl, (by simp only [strsOf, List.length_map]; omega), ⟨_, rfl, (by simp only [strsOf, List.length_append, List.length_map]; omega), ?_⟩⟩))))))))
  refine lcW_fun (P := fun d => ∃ x ∈ deedsS, d = .str x) (p := fun _ => true) (f := fun d => match d with | .str x => .tup [.str x, .tup [.str (sigOf sig x).1, .str (sigOf sig x).2]] | _ => .non) (fun d hd kx hk => g_nameV (by decide) (hk _ (fun kb q => d_yes q) (fun _ k q => ?_))) _ [] ?_ ?_
  · obtain ⟨x, hx, rfl⟩ := hd
    exact d_tup (d_cons (d_var rfl (d_cons (d_dget (d_var rfl (d_var rfl ⟨_, _, _, rfl, rfl, hsig x hx, d_nil ⟨by simp, q⟩⟩))))))
  · intro d hd
    rw [show strsOf own ++ strsOf others = strsOf (own ++ others) by simp [strsOf]] at hd
    obtain ⟨x, hx, rfl⟩ := List.mem_map.mp hd
    exact ⟨x, mem x hx, rfl⟩
  have ef : (strsOf own ++ strsOf others).filter (fun _ => true) = strsOf own ++ strsOf others := List.filter_eq_self.mpr fun _ _ => rfl
  rw [List.nil_append, ef]
  have e : (strsOf own ++ strsOf others).map (fun d => match d with | .str x => D.tup [.str x, .tup [.str (sigOf sig x).1, .str (sigOf sig x).2]] | _ => .non) = ((givenOf sig (own ++ others)).map fun q => (q.1, D.tup [.str q.2.1, .str q.2.2])).map prD := by
    unfold givenOf strsOf
    rw [← List.map_append, List.map_map, List.map_map, List.map_map]
    rfl
  rw [e]
  refine ⟨_, rfl, ?_⟩
  have ndg : ((([] : List (Str × D)) ++ (givenOf sig (own ++ others)).map fun q => (q.1, D.tup [.str q.2.1, .str q.2.2])).map (·.1)).Nodup := by
    rw [List.nil_append, List.map_map]
    have := nd
    rw [← given_names (sig := sig) (names := own ++ others)] at this
    exact this
  rw [mergeD_new ndg, List.nil_append]
  let I : List Str → List Sl → Prop := fun done ρ' => ∃ (dds : List Dd) (met used : List Str) (s10 s11 s12 : Sl), PInv sig (givenOf sig (own ++ others)) cells done dds met used ∧
    ρ' = [.d (.adr ah), .d (.str name), .d (.lst (strsOf own)), .d (.lst (strsOf others)), .d (ctD sig), .d (etD cells), .own (dds.map Dd.toD), .d (.lst (strsOf met)), .d (.lst (strsOf used)), .d (ctD (givenOf sig (own ++ others))), s10, s11, s12, .un, .un, .un]
  refine s_cut (I := fun ρ' => ∃ ys : List Str, ys.Perm own ∧ PyProof.Rows.sortedS ys = true ∧ I ys ρ') (s_for (i_list (d_ofL (l_sortedL (d_var rfl ⟨own, rfl, by omega, fun ys y1 y2 => ⟨_, rfl, ?_⟩⟩))))) ?_
  · have loop : ∀ (r done : List Str) (ρ : List Sl), ys = done ++ r → I done ρ → forW K (some (ah, as)) (gName 10) (tSeq (tAsg (tDisp [(tC (V.str "takes"), tOp (rIx K) (tDGet (tVar 4) (tVar 10)) (tC (V.int 0))), (tC (V.str "deeds"), tVar 9), (tC (V.str "cells"), tVar 5)]) (gName 11)) (tSeq (tAsg (tCall (spD K (some (ah, as)) (M_gens ah)) [] E0 (tCons (tVar 0) (tCons (tVar 11) (tCons (tOp (rIx K) (tDGet (tVar 4) (tVar 10)) (tC (V.int 1))) (tCons (tOp (rI0 fun i j => .int (i + j)) (tC (V.int 1)) (tCall (spD K (some (ah, as)) (M_next ah)) [] E0 (tCons (tVar 0) (tCons (tC (V.int 3)) tNil)))) tNil))))) (gName 12))
          (tSeq (tDrop (tBM K "list" rAppend (tVar 6) (tCons (tOp (rCatA K) (tOp (rCatA K) (tTup (tCons (tVar 10) tNil)) (tDGet (tVar 4) (tVar 10))) (tTup (tCons (tVar 12) tNil))) tNil))) (tSeq (tAsg (tOp rCat (tVar 7) (tCall (spD K none (M_lcalls 4)) [] E0 (tCons (tVar 12) tNil))) (gName 7)) (tAsg (tOp rCat (tVar 8) (tCall (spD K none (M_used 4)) [] E0 (tCons (tVar 12) tNil))) (gName 8))))))
          { nx := fun ρ' => ∃ ys : List Str, ys.Perm own ∧ PyProof.Rows.sortedS ys = true ∧ I ys ρ', rt := kk } (strsOf r) ρ := by
      intro r
      induction r with
      | nil =>
        rintro done ρ e hI
        rw [List.append_nil] at e
        subst e
        exact ⟨ys, y1, y2, hI⟩
      | cons x r ih =>
        rintro done ρ e ⟨dds, met, used, s10, s11, s12, iv, rfl⟩
        have hx : x ∈ own := y1.mem_iff.mp (by rw [e]; simp)
        have hxd := ho x hx
        have lk := hsig x hxd
        have so := hs.of hxd
        have ll : dds.length ≤ 8 := by
          have h1 := congrArg List.length iv.names
          have h2 := congrArg List.length e
          have h3 := y1.length_eq
          rw [List.length_map] at h1
          rw [List.length_append] at h2
          omega
        have m1 := iv.ml
        have m2 := iv.ul
        refine forW_cons (g_name ?_)
        refine s_seq (s_set (d_disp ?_))
        refine dP_cons (d_c rfl ⟨_, rfl, d_op (d_dget (d_var rfl (d_var rfl ⟨_, _, _, rfl, rfl, lk, d_c rfl (r_ix (.inr (r_ixT (show atI _ ((0 : Nat) : Int) = _ from atI_nat rfl) ?_)))⟩)))⟩)
        refine dP_cons (d_c rfl ⟨_, rfl, d_var rfl (dP_cons (d_c rfl ⟨_, rfl, d_var rfl (dP_nil ⟨by simp, ?_⟩)⟩))⟩)
        refine s_seq (s_set (d_call ?_))
        refine d_cons (d_var rfl (d_cons (d_var rfl (d_cons ?_))))
        refine d_op (d_dget (d_var rfl (d_var rfl ⟨_, _, _, rfl, rfl, lk, d_c rfl ?_⟩)))
        refine r_ix (.inr (r_ixT (show atI _ ((1 : Nat) : Int) = _ from atI_nat rfl) ?_))
        refine d_cons (d_op (d_c rfl ?_))
        refine d_next rfl (by decide) (by decide) fun r3 r0 r1 => r_I0 rfl (d_nil ?_)
        refine (show M_gens ah [.adr ah, eD (sigOf sig x).1 (givenOf sig (own ++ others)) cells, .str (sigOf sig x).2, .int (1 + r3)] _ from m_gens (by omega) (by omega) (hg x hx) so.2.2 fun b hb => ?_)
        have s40 := size40 hb.2.1
        have c40 := called_len b
        have u40 := uses_len b
        refine s_seq (s_app (i := 6) rfl (by rw [List.length_map]; omega) ?_)
        refine d_op (d_op (d_tup (d_cons (d_var rfl (d_nil ⟨by simp, ?_⟩)))))
        refine d_dget (d_var rfl (d_var rfl ⟨_, _, _, rfl, rfl, lk, r_catA (by simp) ?_⟩))
        refine d_tup (d_cons (d_var rfl (d_nil ⟨by simp, r_catA (by simp) ?_⟩)))
        refine s_seq (s_set (d_ofL (l_cat (d_var rfl ?_))))
        refine d_callP (d_cons (d_var rfl (d_nil (m_lcalls hb.1 hb.2.1 (by omega) ⟨_, _, rfl, rfl, (by simp only [strsOf, List.length_map]; omega), ?_⟩))))
        refine s_set (d_ofL (l_cat (d_var rfl ?_)))
        refine d_callP (d_cons (d_var rfl (d_nil (m_used hb.1 hb.2.1 (by omega) ⟨_, _, rfl, rfl, (by simp only [strsOf, List.length_map]; omega), ?_⟩))))
        have e1 : strsOf (met ++ b.called) = strsOf met ++ strsOf b.called := by simp [strsOf]
        have e2 : strsOf (used ++ b.uses) = strsOf used ++ strsOf b.uses := by simp [strsOf]
        have e3 : (dds ++ [(⟨x, (sigOf sig x).1, (sigOf sig x).2, b⟩ : Dd)]).map Dd.toD = dds.map Dd.toD ++ [Dd.toD ⟨x, (sigOf sig x).1, (sigOf sig x).2, b⟩] := by simp
        refine ih (done ++ [x]) _ (by rw [e]; simp) ⟨dds ++ [⟨x, (sigOf sig x).1, (sigOf sig x).2, b⟩], met ++ b.called, used ++ b.uses, .d (.str x), .d (eD (sigOf sig x).1 (givenOf sig (own ++ others)) cells), .d b.toD, iv.add hb, ?_⟩
        rw [e1, e2, e3]
        rfl
    exact loop ys [] _ rfl ⟨[], [], [], _, _, _, ⟨rfl, fun d hd => (by cases hd), fun d hd => (by cases hd), fun d hd => (by cases hd), by simp, by simp⟩, rfl⟩
  rintro ρ' ⟨ys, y1, y2, dds, met, used, s10, s11, s12, iv, rfl⟩
  refine s_seq (s_setL (i_list (d_ofL (l_sortedL (d_var rfl ⟨others, rfl, by omega, fun ys2 a1 a2 => ⟨_, rfl, (by simp only [strsOf, List.length_map]; rw [a1.length_eq]; omega), ?_⟩⟩)))))
  refine lcW_dem (fun s => decide (s ∈ met)) (fun x => D.tup [.str x, .str (sigOf sig x).1, .str (sigOf sig x).2]) (fun x => x ∈ deedsS) (fun x hx kx hk => g_nameV (by decide) (hk _ (fun kb h1 h2 => ?_) (fun k qk => ?_))) ys2 [] (fun x hx => ht x (a1.mem_iff.mp hx)) fun zs a3 a4 => ?_
  · refine d_or (d_test (d_op (d_var rfl (d_var rfl (r_in2 ⟨_, rfl, fun e => h1, fun e => ?_⟩)))))
    refine d_test (d_op (d_next rfl (by decide) (by decide) fun r r0 r1 => d_c rfl (r_eqI ⟨_, rfl, ?_⟩)))
    by_cases er : r = 0
    · rw [decide_eq_true er]; exact h1
    · rw [decide_eq_false er]; exact h2 e
  · exact d_op (d_tup (d_cons (d_var rfl (d_nil ⟨by simp, d_dget (d_var rfl (d_var rfl ⟨_, _, _, rfl, rfl, hsig x hx, r_catA (by simp) qk⟩))⟩))))
  refine s_seq (s_setL (i_list (d_ofL (l_sortedD (d_var rfl ⟨_, rfl, (by rw [List.length_map]; have := hc.len; omega), fun ys3 c1 c2 => ⟨_, rfl, (by simp only [strsOf, List.length_map]; rw [c1.length_eq, List.length_map, List.length_map]; have := hc.len; omega), ?_⟩⟩)))))
  have c1' : ys3.Perm (cells.map (·.1)) := by
    rw [List.map_map] at c1
    exact c1
  refine lcW_dem (fun s => decide (s ∈ used)) (fun x => D.tup [.str x, .str (celOf cells x)]) (fun x => x ∈ cells.map (·.1)) (fun x hx kx hk => g_nameV (by decide) (hk _ (fun kb h1 h2 => ?_) (fun k qk => ?_))) ys3 [] (fun x hx => c1'.mem_iff.mp hx) fun cs c3 c4 => ?_
  · refine d_or (d_test (d_op (d_var rfl (d_var rfl (r_in2 ⟨_, rfl, fun e => h1, fun e => ?_⟩)))))
    refine d_test (d_op (d_next rfl (by decide) (by decide) fun r r0 r1 => d_c rfl (r_eqI ⟨_, rfl, ?_⟩)))
    by_cases er : r = 0
    · rw [decide_eq_true er]; exact h1
    · rw [decide_eq_false er]; exact h2 e
  · exact d_tup (d_cons (d_var rfl (d_cons (d_dget (d_var rfl (d_var rfl ⟨_, _, _, rfl, rfl, hcel x hx, d_nil ⟨by simp, qk⟩⟩))))))
  have pg := part_good hn ho ht nd hs hc y1 y2 iv a1 a2 a3 (fun s h1 h2 => a4 s h1 (decide_eq_true h2)) c1' c2 c3 (fun s h1 h2 => c4 s h1 (decide_eq_true h2))
  refine s_keep (i := 6) rfl (s_ret (d_tup (d_cons (d_var rfl (d_cons (d_cb (d_cons (d_var rfl (d_nil (c_tuple (.inl rfl) ?_))))))))))
  refine d_cons (d_cb (d_cons (d_var rfl (d_nil (c_tuple (.inl rfl) (d_cons (d_tupF (d_var rfl ⟨_, rfl, d_nil ⟨by simp, ?_⟩⟩))))))))
  have fin := q _ pg.1 pg.2
  unfold Pt.toF givenOf at fin
  simp only [List.map_map] at fin
  exact fin
end
end Pr
set_option Elab.async false
set_option linter.all false
set_option maxRecDepth 100000
set_option maxHeartbeats 2000000
namespace Pr
open PySem L2 PD
abbrev s_law_full : Stmt := top 48
abbrev N_law_full : List Str := ["_law_h", "_law_kinds", "_law_sig", "_law_deed", "_law_cells", "_law_cell", "_law_own"]
theorem sc_law_full : FnScope N_law_full ["_law_h"] (defScope s_law_full) := ⟨rfl, rfl, rfl, by decide +kernel, rfl, by decide +kernel, by decide +kernel⟩

abbrev s_law_shelf : Stmt := top 47
abbrev N_law_shelf : List Str := ["_law_h", "_law_kinds", "_law_sig", "_law_deed", "_law_cells", "_law_cell", "_law_many", "_law_owners", "_law_k", "_law_turn", "_law_every", "_law_own", "_law_found", "_law_others"]
theorem sc_law_shelf : FnScope N_law_shelf ["_law_h"] (defScope s_law_shelf) := ⟨rfl, rfl, rfl, by decide +kernel, rfl, by decide +kernel, by decide +kernel⟩

section
variable {K : PySem.W.Frag} {hs : Option (Addr × Addr)} {ρ : List Sl} {te : TE} {tt : TT} {g : TG} {k : D → Prop}
/-- elements that are drawn -/
theorem lcW_draw {α : Type} {js : List Nat} {kl : List D → Prop} (Q : α → Prop) (f : Str → α → D) (P : Str → Prop) (h : ∀ s, P s → ∀ kk : List Sl → Prop, (∀ ρ', (∀ kb : Bool → Prop, kb true → dT K hs tt ρ' kb) → (∀ k : D → Prop, (∀ x, Q x → k (f s x)) → dE K hs te ρ' k) → kk ρ') → dG K hs g (some js) (.str s) ρ kk) :
    ∀ (ss : List Str) (acc : List D), (∀ s ∈ ss, P s) → (∀ ps : List (Str × α), ps.map (·.1) = ss → (∀ p ∈ ps, Q p.2) → kl (acc ++ ps.map fun p => f p.1 p.2)) → lcW K hs g js tt te ρ kl (strsOf ss) acc
  | [], acc, _, q => by
    have := q [] rfl (fun s hs => by cases hs)
    show kl acc
    simpa using this
  | s :: r, acc, hp, q => by
    refine h s (hp s List.mem_cons_self) _ fun ρ' h1 h2 => h1 _ ⟨fun _ => h2 _ fun x hx => ?_, fun e => (by cases e)⟩
    refine lcW_draw Q f P h r _ (fun x hx => hp x (List.mem_cons_of_mem _ hx)) fun ps p1 p2 => ?_
    have := q ((s, x) :: ps) (by rw [List.map_cons, p1]) fun p hp => by
      rcases List.mem_cons.mp hp with rfl | hp
      · exact hx
      · exact p2 p hp
    rw [List.append_assoc]
    exact this
/-- items that may come if they are of a sort -/
theorem lcW_may {js : List Nat} {kl : List D → Prop} (ok : Str → Bool) (P : Str → Prop) (h : ∀ s, P s → ∀ kk : List Sl → Prop, (∀ ρ', (∀ kb : Bool → Prop, (ok s = true → kb true) → kb false → dT K hs tt ρ' kb) → (∀ k : D → Prop, k (.str s) → dE K hs te ρ' k) → kk ρ') → dG K hs g (some js) (.str s) ρ kk) :
    ∀ (ss acc : List Str), (∀ s ∈ ss, P s) → (∀ zs : List Str, zs.Sublist ss → (∀ s ∈ zs, ok s = true) → kl (strsOf (acc ++ zs))) → lcW K hs g js tt te ρ kl (strsOf ss) (strsOf acc)
  | [], acc, _, q => by
    have := q [] (List.Sublist.refl _) (fun s hs => by cases hs)
    show kl _
    simpa using this
  | s :: r, acc, hp, q => by
    refine h s (hp s List.mem_cons_self) _ fun ρ' h1 h2 => h1 _ (fun eo => ⟨fun _ => h2 _ ?_, fun e => (by cases e)⟩) ⟨fun e => (by cases e), fun _ => ?_⟩
    · have e1 : strsOf acc ++ [.str s] = strsOf (acc ++ [s]) := by simp [strsOf]
      rw [e1]
      refine lcW_may ok P h r _ (fun x hx => hp x (List.mem_cons_of_mem _ hx)) fun zs z1 z2 => ?_
      have := q (s :: zs) (z1.cons_cons s) fun x hx => by
        rcases List.mem_cons.mp hx with rfl | hx
        · exact eo
        · exact z2 x hx
      rw [List.append_assoc]
      exact this
    · exact lcW_may ok P h r _ (fun x hx => hp x (List.mem_cons_of_mem _ hx)) fun zs z1 z2 => q zs (z1.cons s) z2
theorem d_slS {tl th : TO} (h : dE K hs te ρ fun x => dO K hs tl ρ fun l => dO K hs th ρ fun u => ∃ z, x = .str z ∧ z.length ≤ 100000 ∧ k (.str (cutS z l u))) : dE K hs (tSl rSlS te tl th) ρ k := fun H0 σ G H Q f R z =>
  h H0 σ G H _ f R fun v G1 H1 x s1 r1 h1 => h1 H0 σ G1 H1 _ s1.fr (R.step s1) fun l G2 H2 s2 h2 => h2 H0 σ G2 H2 _ s2.fr (R.step (s1.trans s2)) fun hi G3 H3 s3 ⟨y, e, hl, q⟩ => by
    subst e
    exact ⟨y, rel_str r1, sz hl, z _ G3 H3 _ ((s1.trans s2).trans s3) .str q⟩
theorem abc : (("abcdefgh" : Str).cps.toList.map sgn) = strsOf deedsS := by
  have e : (("abcdefgh" : Str).cps.toList.map fun c => (⟨#[c]⟩ : Str)) = deedsS := by decide +kernel
  unfold strsOf
  rw [← e, List.map_map]
  rfl
theorem pqrs : (("pqrs" : Str).cps.toList.map sgn) = strsOf cellsS := by
  have e : (("pqrs" : Str).cps.toList.map fun c => (⟨#[c]⟩ : Str)) = cellsS := by decide +kernel
  unfold strsOf
  rw [← e, List.map_map]
  rfl
theorem abc_in {lo hi : Option Int} : ∀ d ∈ (cutS ("abcdefgh" : Str) lo hi).cps.toList.map sgn, ∃ s ∈ deedsS, d = .str s := fun d hd => by
  obtain ⟨c, hc, rfl⟩ := List.mem_map.mp hd
  have hc' : c ∈ ("abcdefgh" : Str).cps.toList := by
    unfold cutS at hc
    exact List.mem_of_mem_drop (List.mem_of_mem_take (by simpa using hc))
  have : sgn c ∈ strsOf deedsS := by
    rw [← abc]
    exact List.mem_map.mpr ⟨c, hc', rfl⟩
  obtain ⟨s, hs, e⟩ := List.mem_map.mp this
  exact ⟨s, hs, e.symm⟩
/-- a kind is drawn -/
theorem d_kind {ah : Addr} {X : XK} {i j : Nat} (e1 : ρ[i]? = some (.d (.lst (strsOf kindsS)))) (e2 : ρ[j]? = some (.d (.adr ah))) (q : ∀ o ∈ kindsS, k (.str o)) :
    dE K hs (tOp (rIx K) (tVar i) (tCall (spD K hs (M_next ah)) [] X (tCons (tVar j) (tCons (tC (.int 3)) tNil)))) ρ k :=
  d_op (d_var e1 (d_next e2 (by decide) (by decide) fun r r0 r1 => r_pick r0 (by simpa [strsOf, kindsS] using r1) fun d hd => by
    obtain ⟨o, ho, rfl⟩ := List.mem_map.mp hd
    exact q o ho))
def sigD (ps : List (Str × (Str × Str))) : List D := ps.map fun p => D.tup [.str p.1, .tup [.str p.2.1, .str p.2.2]]
theorem sig_ok {ps : List (Str × (Str × Str))} (h : ps.map (·.1) = deedsS) (hk : ∀ p ∈ ps, p.2.1 ∈ kindsS ∧ p.2.2 ∈ kindsS) : SigOk ps := ⟨fun x hx => by
  rw [← h] at hx
  obtain ⟨p, hp, rfl⟩ := List.mem_map.mp hx
  have nd : (ps.map (·.1)).Nodup := by rw [h]; decide
  exact ⟨p.2.1, p.2.2, look_in nd hp, hk p hp⟩⟩
theorem cel_ok {ps : List (Str × Str)} (h : ps.map (·.1) = cellsS) (hk : ∀ p ∈ ps, p.2 ∈ kindsS) : CellOk ps := ⟨by rw [h]; decide, fun p hp => ⟨by rw [← h]; exact List.mem_map.mpr ⟨p, hp, rfl⟩, hk p hp⟩, by
  have := congrArg List.length h
  rw [List.length_map] at this
  rw [this]; decide⟩
/-- the dict of what deeds take and tell -/
theorem d_sigs {ah : Addr} {X : XK} {i j l : Nat} {js : List Nat} (hj : l ∈ js) (e1 : (wipeR ρ js)[i]? = some (.d (.lst (strsOf kindsS)))) (e2 : (wipeR ρ js)[j]? = some (.d (.adr ah))) (hl : l < (wipeR ρ js).length) (n1 : l ≠ i) (n2 : l ≠ j) (q : ∀ sig : CT, SigOk sig → k (ctD sig)) :
    dE K hs (tCB (rDictL K) (tCons (tLc (iStr (tC (.str "abcdefgh"))) (gName l) tYes (tTup (tCons (tVar l) (tCons (tTup (tCons (tOp (rIx K) (tVar i) (tCall (spD K hs (M_next ah)) [] X (tCons (tVar j) (tCons (tC (.int 3)) tNil)))) (tCons (tOp (rIx K) (tVar i) (tCall (spD K hs (M_next ah)) [] X (tCons (tVar j) (tCons (tC (.int 3)) tNil)))) tNil))) tNil))) js) tNil)) ρ k := by
  refine d_dictL (d_lc (i_str (d_c rfl ⟨_, rfl, by decide, ?_⟩)))
  rw [abc]
  refine lcW_draw (α := Str × Str) (fun p => p.1 ∈ kindsS ∧ p.2 ∈ kindsS) (fun s p => D.tup [.str s, .tup [.str p.1, .str p.2]]) (fun _ => True) (fun s _ kk hk => g_nameV hj (hk _ (fun kb h => d_yes h) fun k qk => ?_)) deedsS [] (fun _ _ => trivial) fun ps p1 p2 => ?_
  · have a1 : ((wipeR ρ js).set l (.d (.str s)))[i]? = some (.d (.lst (strsOf kindsS))) := by rw [List.getElem?_set_ne n1]; exact e1
    have a2 : ((wipeR ρ js).set l (.d (.str s)))[j]? = some (.d (.adr ah)) := by rw [List.getElem?_set_ne n2]; exact e2
    exact d_tup (d_cons (d_var (get_set hl) (d_cons (d_tup (d_cons (d_kind a1 a2 fun o1 h1 => d_cons (d_kind a1 a2 fun o2 h2 => d_nil ⟨by simp, d_nil ⟨by simp, qk (o1, o2) ⟨h1, h2⟩⟩⟩)))))))
  · refine ⟨ps.map fun p => (p.1, D.tup [.str p.2.1, .str p.2.2]), by rw [List.map_map]; rfl, ?_⟩
    rw [mergeD_new (by rw [List.nil_append, List.map_map]; show (ps.map (·.1)).Nodup; rw [p1]; decide), List.nil_append]
    exact q ps (sig_ok p1 p2)
theorem d_cels {ah : Addr} {X : XK} {i j l : Nat} {js : List Nat} (hj : l ∈ js) (e1 : (wipeR ρ js)[i]? = some (.d (.lst (strsOf kindsS)))) (e2 : (wipeR ρ js)[j]? = some (.d (.adr ah))) (hl : l < (wipeR ρ js).length) (n1 : l ≠ i) (n2 : l ≠ j) (q : ∀ cells : ET, CellOk cells → k (etD cells)) :
    dE K hs (tCB (rDictL K) (tCons (tLc (iStr (tC (.str "pqrs"))) (gName l) tYes (tTup (tCons (tVar l) (tCons (tOp (rIx K) (tVar i) (tCall (spD K hs (M_next ah)) [] X (tCons (tVar j) (tCons (tC (.int 3)) tNil)))) tNil))) js) tNil)) ρ k := by
  refine d_dictL (d_lc (i_str (d_c rfl ⟨_, rfl, by decide, ?_⟩)))
  rw [pqrs]
  refine lcW_draw (α := Str) (fun p => p ∈ kindsS) (fun s p => D.tup [.str s, .str p]) (fun _ => True) (fun s _ kk hk => g_nameV hj (hk _ (fun kb h => d_yes h) fun k qk => ?_)) cellsS [] (fun _ _ => trivial) fun ps p1 p2 => ?_
  · have a1 : ((wipeR ρ js).set l (.d (.str s)))[i]? = some (.d (.lst (strsOf kindsS))) := by rw [List.getElem?_set_ne n1]; exact e1
    have a2 : ((wipeR ρ js).set l (.d (.str s)))[j]? = some (.d (.adr ah)) := by rw [List.getElem?_set_ne n2]; exact e2
    exact d_tup (d_cons (d_var (get_set hl) (d_cons (d_kind a1 a2 fun o1 h1 => d_nil ⟨by simp, qk o1 h1⟩))))
  · refine ⟨ps.map fun p => (p.1, D.str p.2), by rw [List.map_map]; rfl, ?_⟩
    rw [mergeD_new (by rw [List.nil_append, List.map_map]; show (ps.map (·.1)).Nodup; rw [p1]; decide), List.nil_append]
    exact q ps (cel_ok p1 p2)
end
section
variable {P : Program} {w : World} {K : PySem.W.Frag} {mg : Str → Option Value} {base : Heap}
def M_full (ah : Addr) : List D → (D → Prop) → Prop := fun ds k => ds = [.adr ah] ∧ ∀ p : Pt, p.ok → p.fine → k p.toF
theorem m_full {ah : Addr} {k : D → Prop} (h : ∀ p : Pt, p.ok → p.fine → k p.toF) : M_full ah [.adr ah] k := ⟨rfl, h⟩
theorem m_lpart {ah : Addr} {name : Str} {own others : List Str} {sig : CT} {cells : ET} {k : D → Prop} (h1 : name ∈ partsS) (h2 : ∀ x ∈ own, x ∈ deedsS) (h3 : ∀ x ∈ others, x ∈ deedsS) (h4 : (own ++ others).Nodup) (h5 : SigOk sig) (h6 : CellOk cells) (h : ∀ p : Pt, p.ok → p.fine → k p.toF) :
    M_lpart ah [.adr ah, .str name, .lst (strsOf own), .lst (strsOf others), ctD sig, etD cells] k := ⟨name, own, others, sig, cells, rfl, h1, h2, h3, h4, h5, h6, h⟩
theorem ok_full {ah as : Addr} (F : DefT K mg "_law_full" s_law_full) (zd : mg "dict" = none) (zl : mg "list" = none) (zn : mg "len" = none) (C_law_next : Cal P w K mg base 1 "_law_next" ["_law_h", "_law_many"] (some (ah, as)) (M_next ah))
    (C_law_part : Cal P w K mg base 10 "_law_part" ["_law_h", "_law_name", "_law_own", "_law_others", "_law_sig", "_law_cells"] (some (ah, as)) (M_lpart ah)) : Cal P w K mg base 11 "_law_full" ["_law_h"] (some (ah, as)) (M_full ah) := by
  refine okF F sc_law_full (fun _ _ _ _ _ _ us hl => match us, hl with | [_], _ => rfl) (fun ds k h => ?_) (fun f cdv A outer s H E ds kk hr h => ?_)
  · obtain ⟨rfl, _⟩ := h
    rfl
  obtain ⟨rfl, q⟩ := h
  have hu := hu_of hr
  refine ⟨_, (pss_cons (ps_set (i := 1) sc_law_full.nd rfl (by first | exact Or.inl rfl | exact Or.inr rfl) (pe_lst (pa_cons pe_str (pa_cons pe_str (pa_cons pe_str pa_nil)))))
      (pss_cons (ps_set (i := 2) sc_law_full.nd rfl (by first | exact Or.inl rfl | exact Or.inr rfl) (pe_callTy (r := PD.rDictL K) (T := "dict")  (call_dictP rfl) (by rfl) zd (by decide +kernel) (pa_cons (pe_lc (own := [("_law_deed", 3)]) (g := gName 3) (tt := tYes) rfl sc_law_full.nd (pi_str pe_str) (blkOk_by (own := [("_law_deed", 3)]) (N := N_law_full) (sc := defScope s_law_full) (by decide +kernel)) (fun _ _ _ _ _ => (pg_name (i := 3) sc_law_full.nd rfl (by first | exact Or.inl rfl | exact Or.inr rfl))) (fun _ _ _ _ _ => pts_nil) (fun _ _ _ _ _ => (pe_tup (pa_cons (pv 3) (pa_cons (pe_tup (pa_cons (pe_ix (r := rIx K) ix_seq (pv 1) (pe_calK (K := K) rfl C_law_next (hr.mono (by first | decide | omega)) rfl (pa_cons (pv 0) (pa_cons pe_int pa_nil))) (fun _ _ => rfl)) (pa_cons (pe_ix (r := rIx K) ix_seq (pv 1) (pe_calK (K := K) rfl C_law_next (hr.mono (by first | decide | omega)) rfl (pa_cons (pv 0) (pa_cons pe_int pa_nil))) (fun _ _ => rfl)) pa_nil))) pa_nil))))) pa_nil)))
      (pss_cons (ps_set (i := 4) sc_law_full.nd rfl (by first | exact Or.inl rfl | exact Or.inr rfl) (pe_callTy (r := PD.rDictL K) (T := "dict")  (call_dictP rfl) (by rfl) zd (by decide +kernel) (pa_cons (pe_lc (own := [("_law_cell", 5)]) (g := gName 5) (tt := tYes) rfl sc_law_full.nd (pi_str pe_str) (blkOk_by (own := [("_law_cell", 5)]) (N := N_law_full) (sc := defScope s_law_full) (by decide +kernel)) (fun _ _ _ _ _ => (pg_name (i := 5) sc_law_full.nd rfl (by first | exact Or.inl rfl | exact Or.inr rfl))) (fun _ _ _ _ _ => pts_nil) (fun _ _ _ _ _ => (pe_tup (pa_cons (pv 5) (pa_cons (pe_ix (r := rIx K) ix_seq (pv 1) (pe_calK (K := K) rfl C_law_next (hr.mono (by first | decide | omega)) rfl (pa_cons (pv 0) (pa_cons pe_int pa_nil))) (fun _ _ => rfl)) pa_nil))))) pa_nil)))
      (pss_cons (ps_set (i := 6) sc_law_full.nd rfl (by first | exact Or.inl rfl | exact Or.inr rfl) (pe_slice (r := rSlL K) sl_list (pe_callTy (r := PD.rListStr) (T := "list")  (PD.cr_listStr rfl) (by rfl) zl (by decide +kernel) (pa_cons pe_str pa_nil)) po_none (po_some (pe_op op_add pe_int (pe_calK (K := K) rfl C_law_next (hr.mono (by first | decide | omega)) rfl (pa_cons (pv 0) (pa_cons pe_int pa_nil)))))))
      (pss_one (ps_ret (pe_calK (K := K) rfl C_law_part (hr.mono (by first | decide | omega)) rfl (pa_cons (pv 0) (pa_cons pe_str (pa_cons (pv 6) (pa_cons (pe_slice (r := rSlL K) sl_list (pe_callTy (r := PD.rListStr) (T := "list")  (PD.cr_listStr rfl) (by rfl) zl (by decide +kernel) (pa_cons pe_str pa_nil)) (po_some (pe_callB (r := rLenQ K) (id := "len")  call_len_seq (by rfl) zn PySem.boot_len (pa_cons (pv 6) pa_nil))) po_none) (pa_cons (pv 2) (pa_cons (pv 4) pa_nil))))))))))))), ?_⟩
  try dsimp only [cxOf]
  change dS _ _ _ [Sl.d _, Sl.un, Sl.un, Sl.un, Sl.un, Sl.un, Sl.un] _
  refine s_seq (s_set (d_lst (d_cons (d_c rfl (d_cons (d_c rfl (d_cons (d_c rfl (d_nil ⟨by simp, ?_⟩)))))))))
  change dS K _ _ [.d (.adr ah), .d (.lst (strsOf kindsS)), .un, .un, .un, .un, .un] _
  refine s_seq (s_set (d_sigs (by decide) rfl rfl (show 3 < 7 by decide) (by decide) (by decide) fun sig hsig => ?_))
  change dS K _ _ [.d (.adr ah), .d (.lst (strsOf kindsS)), .d (ctD sig), .un, .un, .un, .un] _
  refine s_seq (s_set (d_cels (by decide) rfl rfl (show 5 < 7 by decide) (by decide) (by decide) fun cells hcel => ?_))
  change dS K _ _ [.d (.adr ah), .d (.lst (strsOf kindsS)), .d (ctD sig), .un, .d (etD cells), .un, .un] _
  refine s_seq (s_set (d_ofL (l_slL (d_ofL (l_listStr (d_c rfl ⟨_, rfl, by decide, ?_⟩))))))
  rw [abc]
  refine o_no (o_part (d_op (d_c rfl (d_next rfl (by decide) (by decide) fun r r0 r1 => r_I0 rfl ⟨_, rfl, _, rfl, ?_⟩))))
  have tk : ∀ n : Nat, n ≤ 8 → cutD (strsOf deedsS) none (some (n : Int)) = strsOf (deedsS.take n) ∧ cutD (strsOf deedsS) (some (n : Int)) none = strsOf (deedsS.drop n) := fun n hn => by
    have l8 : (strsOf deedsS).length = 8 := rfl
    unfold cutD
    rw [HT.sIx_none, HT.sIx_none, HT.sIx_nat, HT.sIx_nat, l8]
    have e : min n 8 = n := by omega
    simp only [e]
    refine ⟨?_, ?_⟩
    · simp [strsOf]
    · rw [List.take_of_length_le (by rw [List.length_drop, l8]; exact Nat.le_refl _)]
      simp [strsOf]
  have er : 5 + r = (((5 + r).toNat : Nat) : Int) := by omega
  have h8 : (5 + r).toNat ≤ 8 := by omega
  rw [er, (tk _ h8).1]
  refine s_ret (d_call (d_cons (d_var rfl (d_cons (d_c rfl (d_cons (d_var rfl (d_cons (d_ofL (l_slL (d_ofL (l_listStr (d_c rfl ⟨_, rfl, by decide, ?_⟩)))))))))))))
  rw [abc]
  refine o_part (d_cb (d_cons (d_var rfl (d_nil (c_lenS (.inl rfl) ⟨_, rfl, o_no ⟨_, rfl, ?_⟩⟩)))))
  have el : (strsOf (deedsS.take (5 + r).toNat)).length = (5 + r).toNat := by
    unfold strsOf
    rw [List.length_map, List.length_take]
    exact Nat.min_eq_left h8
  rw [el, (tk _ h8).2]
  refine d_cons (d_var rfl (d_cons (d_var rfl (d_nil (m_lpart (by decide) (fun x hx => List.mem_of_mem_take hx) (fun x hx => List.mem_of_mem_drop hx) ?_ hsig hcel q)))))
  rw [List.take_append_drop]
  decide
end
end Pr
set_option Elab.async false
set_option linter.all false
set_option maxRecDepth 100000
set_option maxHeartbeats 2000000
namespace Pr
open PySem L2 PD
def NotOwn : Sl → Prop
  | .own _ => False
  | _ => True
theorem flat_of {ρ : List Sl} (h : ∀ s ∈ ρ, NotOwn s) : Flat ρ := fun i ds e => h _ (List.mem_of_getElem? e)
def GoodO (m : Int) (oss : List (List Str)) : Prop := (oss.length : Int) = m ∧ ∀ os ∈ oss, os.Nodup ∧ (∀ x ∈ os, x ∈ deedsS) ∧ os.length ≤ 4
theorem GoodO.put {m : Int} {oss : List (List Str)} (h : GoodO m oss) {k : Nat} {os : List Str} {s : Str} (e : oss[k]? = some os) (hs : s ∈ deedsS) (n : s ∉ os) (l : (os.length : Int) < 4) : GoodO m (oss.set k (os ++ [s])) := by
  refine ⟨by rw [List.length_set]; exact h.1, fun o ho => ?_⟩
  rcases List.mem_or_eq_of_mem_set ho with z | z
  · exact h.2 o z
  · subst z
    obtain ⟨h1, h2, h3⟩ := h.2 os (List.mem_of_getElem? e)
    refine ⟨List.nodup_append.mpr ⟨h1, by simp, fun a ha b hb e => ?_⟩, fun x hx => ?_, by simp; omega⟩
    · rw [List.mem_singleton.mp hb] at e
      exact n (e ▸ ha)
    · rcases List.mem_append.mp hx with z | z
      · exact h2 x z
      · rw [List.mem_singleton.mp z]; exact hs
section
variable {P : Program} {w : World} {K : PySem.W.Frag} {mg : Str → Option Value} {base : Heap}
def M_shelf (ah : Addr) : List D → (D → Prop) → Prop := fun ds k => ds = [.adr ah] ∧ ∀ ps : List Pt, ps.length ≤ 6 → (∀ p ∈ ps, p.ok ∧ p.fine) → k (.lst (ps.map Pt.toF))
theorem m_shelf {ah : Addr} {k : D → Prop} (h : ∀ ps : List Pt, ps.length ≤ 6 → (∀ p ∈ ps, p.ok ∧ p.fine) → k (.lst (ps.map Pt.toF))) : M_shelf ah [.adr ah] k := ⟨rfl, h⟩
theorem r_pickP {hs : Option (Addr × Addr)} {r : Int} {k : D → Prop} (h0 : 0 ≤ r) (h1 : r < 6) (q : ∀ s ∈ partsS, k (.str s)) : dR K hs rIxS (.str "ABCDEF") (.int r) k := by
  have e : (("ABCDEF" : Str).cps.toList.length : Int) = 6 := by decide +kernel
  exact r_pickS (by decide) h0 (by rw [e]; exact h1) fun c hc => q _ ((by decide +kernel : ∀ c ∈ ("ABCDEF" : Str).cps.toList, (⟨#[c]⟩ : Str) ∈ partsS) c hc)
theorem ok_shelf {ah as : Addr} (F : DefT K mg "_law_shelf" s_law_shelf) (zd : mg "dict" = none) (zr : mg "range" = none) (zn : mg "len" = none) (C_law_next : Cal P w K mg base 1 "_law_next" ["_law_h", "_law_many"] (some (ah, as)) (M_next ah))
    (C_law_part : Cal P w K mg base 10 "_law_part" ["_law_h", "_law_name", "_law_own", "_law_others", "_law_sig", "_law_cells"] (some (ah, as)) (M_lpart ah)) : Cal P w K mg base 11 "_law_shelf" ["_law_h"] (some (ah, as)) (M_shelf ah) := by
  refine okF F sc_law_shelf (fun _ _ _ _ _ _ us hl => match us, hl with | [_], _ => rfl) (fun ds k h => ?_) (fun f cdv A outer s H E ds kk hr h => ?_)
  · obtain ⟨rfl, _⟩ := h
    rfl
  obtain ⟨rfl, q⟩ := h
  have hu := hu_of hr
  refine ⟨_, (pss_cons (ps_set (i := 1) sc_law_shelf.nd rfl (by first | exact Or.inl rfl | exact Or.inr rfl) (pe_lst (pa_cons pe_str (pa_cons pe_str (pa_cons pe_str pa_nil)))))
      (pss_cons (ps_set (i := 2) sc_law_shelf.nd rfl (by first | exact Or.inl rfl | exact Or.inr rfl) (pe_callTy (r := PD.rDictL K) (T := "dict")  (call_dictP rfl) (by rfl) zd (by decide +kernel) (pa_cons (pe_lc (own := [("_law_deed", 3)]) (g := gName 3) (tt := tYes) rfl sc_law_shelf.nd (pi_str pe_str) (blkOk_by (own := [("_law_deed", 3)]) (N := N_law_shelf) (sc := defScope s_law_shelf) (by decide +kernel)) (fun _ _ _ _ _ => (pg_name (i := 3) sc_law_shelf.nd rfl (by first | exact Or.inl rfl | exact Or.inr rfl))) (fun _ _ _ _ _ => pts_nil) (fun _ _ _ _ _ => (pe_tup (pa_cons (pv 3) (pa_cons (pe_tup (pa_cons (pe_ix (r := rIx K) ix_seq (pv 1) (pe_calK (K := K) rfl C_law_next (hr.mono (by first | decide | omega)) rfl (pa_cons (pv 0) (pa_cons pe_int pa_nil))) (fun _ _ => rfl)) (pa_cons (pe_ix (r := rIx K) ix_seq (pv 1) (pe_calK (K := K) rfl C_law_next (hr.mono (by first | decide | omega)) rfl (pa_cons (pv 0) (pa_cons pe_int pa_nil))) (fun _ _ => rfl)) pa_nil))) pa_nil))))) pa_nil)))
      (pss_cons (ps_set (i := 4) sc_law_shelf.nd rfl (by first | exact Or.inl rfl | exact Or.inr rfl) (pe_callTy (r := PD.rDictL K) (T := "dict")  (call_dictP rfl) (by rfl) zd (by decide +kernel) (pa_cons (pe_lc (own := [("_law_cell", 5)]) (g := gName 5) (tt := tYes) rfl sc_law_shelf.nd (pi_str pe_str) (blkOk_by (own := [("_law_cell", 5)]) (N := N_law_shelf) (sc := defScope s_law_shelf) (by decide +kernel)) (fun _ _ _ _ _ => (pg_name (i := 5) sc_law_shelf.nd rfl (by first | exact Or.inl rfl | exact Or.inr rfl))) (fun _ _ _ _ _ => pts_nil) (fun _ _ _ _ _ => (pe_tup (pa_cons (pv 5) (pa_cons (pe_ix (r := rIx K) ix_seq (pv 1) (pe_calK (K := K) rfl C_law_next (hr.mono (by first | decide | omega)) rfl (pa_cons (pv 0) (pa_cons pe_int pa_nil))) (fun _ _ => rfl)) pa_nil))))) pa_nil)))
      (pss_cons (ps_set (i := 6) sc_law_shelf.nd rfl (by first | exact Or.inl rfl | exact Or.inr rfl) (pe_op op_add pe_int (pe_calK (K := K) rfl C_law_next (hr.mono (by first | decide | omega)) rfl (pa_cons (pv 0) (pa_cons (pe_ix (r := rIx K) ix_seq (pe_lst (pa_cons pe_int (pa_cons pe_int pa_nil))) (pe_calK (K := K) rfl C_law_next (hr.mono (by first | decide | omega)) rfl (pa_cons (pv 0) (pa_cons pe_int pa_nil))) (fun _ _ => rfl)) pa_nil)))))
      (pss_cons (ps_set (i := 7) sc_law_shelf.nd rfl (by first | exact Or.inl rfl | exact Or.inr rfl) (pe_lc (own := [("_law_k", 8)]) (g := gName 8) (tt := tYes) rfl sc_law_shelf.nd (pi_range1 rfl zr (pa_cons (pv 6) pa_nil)) (blkOk_by (own := [("_law_k", 8)]) (N := N_law_shelf) (sc := defScope s_law_shelf) (by decide +kernel)) (fun _ _ _ _ _ => (pg_name (i := 8) sc_law_shelf.nd rfl (by first | exact Or.inl rfl | exact Or.inr rfl))) (fun _ _ _ _ _ => pts_nil) (fun _ _ _ _ _ => (pe_lst pa_nil))))
      (pss_cons (ps_for PassesOwn.never rfl (pi_str (pe_slice sl_str pe_str po_none (po_some (pe_op op_add pe_int (pe_calK (K := K) rfl C_law_next (hr.mono (by first | decide | omega)) rfl (pa_cons (pv 0) (pa_cons pe_int pa_nil))))))) (pg_name (i := 3) sc_law_shelf.nd rfl (by first | exact Or.inl rfl | exact Or.inr rfl)) (pss_one (ps_for PassesOwn.never rfl (pi_range1 rfl zr (pa_cons (pe_ix (r := rIx K) ix_seq (pe_lst (pa_cons pe_int (pa_cons pe_int (pa_cons pe_int (pa_cons pe_int pa_nil))))) (pe_calK (K := K) rfl C_law_next (hr.mono (by first | decide | omega)) rfl (pa_cons (pv 0) (pa_cons pe_int pa_nil))) (fun _ _ => rfl)) pa_nil)) (pg_name (i := 9) sc_law_shelf.nd rfl (by first | exact Or.inl rfl | exact Or.inr rfl)) (pss_cons (ps_set (i := 8) sc_law_shelf.nd rfl (by first | exact Or.inl rfl | exact Or.inr rfl) (pe_calK (K := K) rfl C_law_next (hr.mono (by first | decide | omega)) rfl (pa_cons (pv 0) (pa_cons (pv 6) pa_nil))))
      (pss_one (ps_if (PW.pt (pw_and (pt_cmpR (r := rIn K true) op_notIn_seq (pv 3) (pe_ix (r := rIx K) ix_seq (pv 7) (pv 8) (fun _ _ => rfl)) rfl) (pw_and1 (pt_cmpR op_lt (pe_callB (r := rLenQ K) (id := "len")  call_len_seq (by rfl) zn PySem.boot_len (pa_cons (pe_ix (r := rIx K) ix_seq (pv 7) (pv 8) (fun _ _ => rfl)) pa_nil)) pe_int (nomark _))))) (pss_one (ps_expr (pe_bm PySem.F.plainAttrs_list PySem.F.slot_list_append PySem.F.type_list_append mt_append (pe_ix (r := rIx K) ix_seq (pv 7) (pv 8) (fun _ _ => rfl)) (pa_cons (pv 3) pa_nil)))) pss_nil))))))
      (pss_cons (ps_set (i := 10) sc_law_shelf.nd rfl (by first | exact Or.inl rfl | exact Or.inr rfl) (pe_lst pa_nil))
      (pss_cons (ps_for PassesOwn.never rfl (pi_list (pv 7)) (pg_name (i := 11) sc_law_shelf.nd rfl (by first | exact Or.inl rfl | exact Or.inr rfl)) (pss_one (ps_set (i := 10) sc_law_shelf.nd rfl (by first | exact Or.inl rfl | exact Or.inr rfl) (pe_op op_cat (pv 10) (pe_lc (own := [("_law_deed", 3)]) (g := gName 3) rfl sc_law_shelf.nd (pi_list (pv 11)) (blkOk_by (own := [("_law_deed", 3)]) (N := N_law_shelf) (sc := defScope s_law_shelf) (by decide +kernel)) (fun _ _ _ _ _ => (pg_name (i := 3) sc_law_shelf.nd rfl (by first | exact Or.inl rfl | exact Or.inr rfl))) (fun _ _ _ _ _ => (pts_one (pt_cmpR (r := rIn K true) op_notIn_seq (pv 3) (pv 10) rfl))) (fun _ _ _ _ _ => (pv 3)))))))
      (pss_cons (ps_set (i := 12) sc_law_shelf.nd rfl (by first | exact Or.inl rfl | exact Or.inr rfl) (pe_lst pa_nil))
      (pss_cons (ps_for PassesOwn.never rfl (pi_range1 rfl zr (pa_cons (pv 6) pa_nil)) (pg_name (i := 8) sc_law_shelf.nd rfl (by first | exact Or.inl rfl | exact Or.inr rfl)) (pss_cons (ps_setLc (i := 13) (own := [("_law_deed", 3)]) (g := gName 3) rfl sc_law_shelf.nd rfl rfl (sw_true rfl rfl rfl (by decide +kernel)) (pi_list (pv 10)) (blkOk_by (own := [("_law_deed", 3)]) (N := N_law_shelf) (sc := defScope s_law_shelf) (by decide +kernel)) (fun _ _ _ _ _ => (pg_name (i := 3) sc_law_shelf.nd rfl (by first | exact Or.inl rfl | exact Or.inr rfl))) (fun _ _ _ _ _ => (pts_one (PW.pt (pw_and (pt_cmpR (r := rIn K true) op_notIn_seq (pv 3) (pe_ix (r := rIx K) ix_seq (pv 7) (pv 8) (fun _ _ => rfl)) rfl) (pw_and1 (pt_cmpR op_eq (pe_calK (K := K) rfl C_law_next (hr.mono (by first | decide | omega)) rfl (pa_cons (pv 0) (pa_cons pe_int pa_nil))) pe_int (nomark _))))))) (fun _ _ _ _ _ => (pv 3)))
      (pss_one (ps_expr (pe_bm PySem.F.plainAttrs_list PySem.F.slot_list_append PySem.F.type_list_append mt_append (pv 12) (pa_cons (pe_calK (K := K) rfl C_law_part (hr.mono (by first | decide | omega)) rfl (pa_cons (pv 0) (pa_cons (pe_ix ix_str pe_str (pv 8) (fun _ _ => rfl)) (pa_cons (pe_ix (r := rIx K) ix_seq (pv 7) (pv 8) (fun _ _ => rfl)) (pa_cons (pv 13) (pa_cons (pv 2) (pa_cons (pv 4) pa_nil))))))) pa_nil))))))
      (pss_one (ps_ret (pv 12))))))))))))), ?_⟩
  try dsimp only [cxOf]
  change dS _ _ _ [Sl.d _, Sl.un, Sl.un, Sl.un, Sl.un, Sl.un, Sl.un, Sl.un, Sl.un, Sl.un, Sl.un, Sl.un, Sl.un, Sl.un] _
  refine s_seq (s_set (d_lst (d_cons (d_c rfl (d_cons (d_c rfl (d_cons (d_c rfl (d_nil ⟨by simp, ?_⟩)))))))))
  change dS K _ _ [.d (.adr ah), .d (.lst (strsOf kindsS)), .un, .un, .un, .un, .un, .un, .un, .un, .un, .un, .un, .un] _
  refine s_seq (s_set (d_sigs (by decide) rfl rfl (show 3 < 14 by decide) (by decide) (by decide) fun sig hsig => ?_))
  change dS K _ _ [.d (.adr ah), .d (.lst (strsOf kindsS)), .d (ctD sig), .un, .un, .un, .un, .un, .un, .un, .un, .un, .un, .un] _
  refine s_seq (s_set (d_cels (by decide) rfl rfl (show 5 < 14 by decide) (by decide) (by decide) fun cells hcel => ?_))
  change dS K _ _ [.d (.adr ah), .d (.lst (strsOf kindsS)), .d (ctD sig), .un, .d (etD cells), .un, .un, .un, .un, .un, .un, .un, .un, .un] _
  refine s_cut (I := fun ρ' => ∃ m : Int, 1 ≤ m ∧ m ≤ 6 ∧ ρ' = [.d (.adr ah), .d (.lst (strsOf kindsS)), .d (ctD sig), .un, .d (etD cells), .un, .d (.int m), .un, .un, .un, .un, .un, .un, .un]) ?_ ?_
  · refine s_set (d_op (d_c rfl (d_call (d_cons (d_var rfl (d_cons (d_op (d_lst (d_cons (d_c rfl (d_cons (d_c rfl (d_nil ⟨by simp, ?_⟩))))))))))))) 
    refine d_next rfl (by decide) (by decide) fun r r0 r1 => r_two r0 r1 ?_ ?_
    · exact d_nil (m_next (by decide) (by decide) fun r2 a0 a1 => r_I0 rfl ⟨1 + r2, by omega, by omega, rfl⟩)
    · exact d_nil (m_next (by decide) (by decide) fun r2 a0 a1 => r_I0 rfl ⟨1 + r2, by omega, by omega, rfl⟩)
  rintro _ ⟨m, m1, m6, rfl⟩
  refine s_own2 (i := 7) (j := 6) (jk := 8) (flat_of (by simp [NotOwn])) (show 7 < 14 by decide) rfl (by omega) (by omega) (fun p => ?_) rfl
  let I : List Sl → List (List Str) → Prop := fun ρ' oss => GoodO m oss ∧ ∃ s3 s8 s9, NotOwn s3 ∧ NotOwn s8 ∧ NotOwn s9 ∧ ρ' = [.d (.adr ah), .d (.lst (strsOf kindsS)), .d (ctD sig), s3, .d (etD cells), .un, .d (.int m), .d (.adr p), s8, s9, .un, .un, .un, .un]
  have step : ∀ (ρ' : List Sl) (oss : List (List Str)), I ρ' oss → Flat ρ' ∧ ρ'[7]? = some (.d (.adr p)) ∧ dS K (some (ah, as)) (tSeq (tAsg (tLst tNil) (gName 10)) (tSeq (tFor (iList K (tVar 7)) (gName 11) (tAsg (tOp rCat (tVar 10) (tLc (iList K (tVar 11)) (gName 3) (tTest (tOp (rIn K true) (tVar 3) (tVar 10))) (tVar 3) (List.map (fun x => x.snd) [(("_law_deed" : Str), 3)]))) (gName 10)))
      (tSeq (tAsg (tLst tNil) (gName 12)) (tSeq (tFor (iRng1 (tCons (tVar 6) tNil)) (gName 8) (tSeq (tAsg (tLc (iList K (tVar 10)) (gName 3) (tAnd (tTest (tOp (rIn K true) (tVar 3) (tOp (rIx K) (tVar 7) (tVar 8)))) (tTest (tOp rEq (tCall (spD K (some (ah, as)) (M_next ah)) [] E0 (tCons (tVar 0) (tCons (tC (.int 3)) tNil))) (tC (.int 0))))) (tVar 3) (List.map (fun x => x.snd) [(("_law_deed" : Str), 3)])) (gName 13))
        (tDrop (tBM K "list" rAppend (tVar 12) (tCons (tCall (spD K (some (ah, as)) (M_lpart ah)) [] E0 (tCons (tVar 0) (tCons (tOp rIxS (tC (.str "ABCDEF")) (tVar 8)) (tCons (tOp (rIx K) (tVar 7) (tVar 8)) (tCons (tVar 13) (tCons (tVar 2) (tCons (tVar 4) tNil))))))) tNil))))) (tRet (tVar 12)))))) (ρ'.set 7 (.d (.lst (oss.map fun os => .lst (strsOf os))))) { nx := fun _ => kk .non, rt := kk } := by
    rintro ρ' oss ⟨⟨gl, go⟩, s3, s8, s9, n3, n8, n9, rfl⟩
    refine ⟨flat_of (fun s hs => ?_), rfl, ?_⟩
    · simp only [List.mem_cons, List.not_mem_nil, or_false] at hs
      rcases hs with rfl | rfl | rfl | rfl | rfl | rfl | rfl | rfl | rfl | rfl | rfl | rfl | rfl | rfl <;> first | trivial | assumption
    change dS K _ _ [.d (.adr ah), .d (.lst (strsOf kindsS)), .d (ctD sig), s3, .d (etD cells), .un, .d (.int m), .d (.lst (oss.map fun os => .lst (strsOf os))), s8, s9, .un, .un, .un, .un] _
    refine s_seq (s_set (d_lst (d_nil ⟨by simp, ?_⟩)))
    refine s_cut (I := fun ρ' => ∃ (every : List Str) (s8 s9 s11 : Sl), every.Nodup ∧ (∀ x ∈ every, x ∈ deedsS) ∧ ρ' = [.d (.adr ah), .d (.lst (strsOf kindsS)), .d (ctD sig), s3, .d (etD cells), .un, .d (.int m), .d (.lst (oss.map fun os => .lst (strsOf os))), s8, s9, .d (.lst (strsOf every)), s11, .un, .un]) (s_for (i_list (d_var rfl ⟨_, rfl, ?_⟩))) ?_
    · refine forW_inv (fun r ρ' => (∀ d ∈ r, ∃ os ∈ oss, d = .lst (strsOf os)) ∧ ∃ (every : List Str) (s8 s9 s11 : Sl), every.Nodup ∧ (∀ x ∈ every, x ∈ deedsS) ∧ ρ' = [.d (.adr ah), .d (.lst (strsOf kindsS)), .d (ctD sig), s3, .d (etD cells), .un, .d (.int m), .d (.lst (oss.map fun os => .lst (strsOf os))), s8, s9, .d (.lst (strsOf every)), s11, .un, .un]) (fun ρ h => h.2) (fun d r ρ h => ?_) _ _ ⟨fun d hd => ?_, [], _, _, _, by simp, by simp, rfl⟩
      · obtain ⟨hr', every, s8, s9, s11, e1, e2, rfl⟩ := h
        obtain ⟨os, hos, rfl⟩ := hr' d List.mem_cons_self
        obtain ⟨o1, o2, o3⟩ := go os hos
        have l8 : every.length ≤ 8 := PT.nodup_le e1 (m := deedsS) e2
        refine g_name (s_set (d_ofL (l_cat (d_var rfl (d_lc (i_list (d_var rfl ⟨_, rfl, by simp only [strsOf, List.length_map]; omega, ?_⟩)))))))
        refine lcW_txt (fun s => !decide (s ∈ every)) (fun s kx hk => g_nameV (by decide) (hk _ (fun kb hb => d_test (d_op (d_var rfl (d_var rfl (r_in3 ⟨_, rfl, hb⟩))))) (fun _ k qk => d_var rfl qk))) os [] ?_
        have lf := List.length_filter_le (fun s => !decide (s ∈ every)) os
        refine ⟨_, _, rfl, rfl, by simp only [strsOf, List.length_map, List.nil_append]; omega, fun d hd => hr' d (List.mem_cons_of_mem _ hd), every ++ os.filter fun s => !decide (s ∈ every), s8, s9, .d (.lst (strsOf os)), ?_, fun x hx => ?_, ?_⟩
        · refine List.nodup_append.mpr ⟨e1, o1.sublist (List.filter_sublist), fun a ha b hb e => ?_⟩
          subst e
          have := (List.mem_filter.mp hb).2
          simp [ha] at this
        · rcases List.mem_append.mp hx with z | z
          · exact e2 x z
          · exact o2 x (List.mem_filter.mp z).1
        · have e3 : strsOf every ++ strsOf ([] ++ os.filter fun s => !decide (s ∈ every)) = strsOf (every ++ os.filter fun s => !decide (s ∈ every)) := by simp [strsOf]
          rw [e3]
          rfl
      · obtain ⟨os, hos, rfl⟩ := List.mem_map.mp hd
        exact ⟨os, hos, rfl⟩
    rintro _ ⟨every, s8, s9, s11, e1, e2, rfl⟩
    have l8 : every.length ≤ 8 := PT.nodup_le e1 (m := deedsS) e2
    refine s_seq (s_own (l_lst (d_nil ⟨by simp, ?_⟩)))
    let J : List Sl → Prop := fun ρ' => ∃ (ps : List Pt) (s3 s8 s13 : Sl), (∀ p ∈ ps, p.ok ∧ p.fine) ∧ ρ' = [.d (.adr ah), .d (.lst (strsOf kindsS)), .d (ctD sig), s3, .d (etD cells), .un, .d (.int m), .d (.lst (oss.map fun os => .lst (strsOf os))), s8, s9, .d (.lst (strsOf every)), s11, .own (ps.map Pt.toF), s13] ∧ ps.length ≤ 6
    refine s_cut (I := J) (s_for (i_range1 (d_cons (d_var rfl (d_nil ⟨m, rfl, by omega, by omega, ?_⟩))))) ?_
    · have loop : ∀ (n i : Nat) (ρ : List Sl), (i : Int) + n = m → (∃ (ps : List Pt) (s3 s8 s13 : Sl), (∀ p ∈ ps, p.ok ∧ p.fine) ∧ ps.length = i ∧ ρ = [.d (.adr ah), .d (.lst (strsOf kindsS)), .d (ctD sig), s3, .d (etD cells), .un, .d (.int m), .d (.lst (oss.map fun os => .lst (strsOf os))), s8, s9, .d (.lst (strsOf every)), s11, .own (ps.map Pt.toF), s13]) →
          forW K (some (ah, as)) (gName 8) (tSeq (tAsg (tLc (iList K (tVar 10)) (gName 3) (tAnd (tTest (tOp (rIn K true) (tVar 3) (tOp (rIx K) (tVar 7) (tVar 8)))) (tTest (tOp rEq (tCall (spD K (some (ah, as)) (M_next ah)) [] E0 (tCons (tVar 0) (tCons (tC (.int 3)) tNil))) (tC (.int 0))))) (tVar 3) (List.map (fun x => x.snd) [(("_law_deed" : Str), 3)])) (gName 13))
        (tDrop (tBM K "list" rAppend (tVar 12) (tCons (tCall (spD K (some (ah, as)) (M_lpart ah)) [] E0 (tCons (tVar 0) (tCons (tOp rIxS (tC (.str "ABCDEF")) (tVar 8)) (tCons (tOp (rIx K) (tVar 7) (tVar 8)) (tCons (tVar 13) (tCons (tVar 2) (tCons (tVar 4) tNil))))))) tNil)))) { nx := J, rt := kk } ((List.range n).map fun (t : Nat) => D.int ((i : Int) + (t : Int))) ρ := by
        intro n
        induction n with
        | zero =>
          rintro i ρ hi ⟨ps, s3, s8, s13, h1, h2, rfl⟩
          exact ⟨ps, s3, s8, s13, h1, rfl, by omega⟩
        | succ n ih =>
          rintro i ρ hi ⟨ps, s3, s8, s13, h1, h2, rfl⟩
          have er : (List.range (n + 1)).map (fun (t : Nat) => D.int ((i : Int) + (t : Int))) = D.int ((i : Int) + ((0 : Nat) : Int)) :: (List.range n).map ((fun (t : Nat) => D.int ((i : Int) + (t : Int))) ∘ Nat.succ) := by rw [List.range_succ_eq_map, List.map_cons, List.map_map]
          rw [er]
          have hi' : i < oss.length := by omega
          have eo : (oss.map fun os => D.lst (strsOf os))[i]? = some (.lst (strsOf oss[i])) := by rw [List.getElem?_map, List.getElem?_eq_getElem hi']; rfl
          obtain ⟨o1, o2, o3⟩ := go oss[i] (List.getElem_mem hi')
          refine forW_cons (g_name ?_)
          refine s_seq (s_set (d_lc (i_list (d_var rfl ⟨_, rfl, by simp only [strsOf, List.length_map]; omega, ?_⟩))))
          refine lcW_may (fun s => !decide (s ∈ oss[i])) (fun x => x ∈ every) (fun x hx kx hk => g_nameV (by decide) (hk _ (fun kb g1 g2 => ?_) (fun k qk => d_var rfl qk))) every [] (fun x hx => hx) fun zs z1 z2 => ?_
          · refine d_and (d_test (d_op (d_var rfl (d_op (d_var rfl (d_var rfl (r_ix (.inl (r_ixL (atI_get (j := i) (by simp) eo) (r_in3 ⟨_, rfl, fun e => ?_, fun _ => g2⟩))))))))))
            refine d_test (d_op (d_next rfl (by decide) (by decide) fun r r0 r1 => d_c rfl (r_eqI ⟨_, rfl, ?_⟩)))
            by_cases er : r = 0
            · rw [decide_eq_true er]; exact g1 e
            · rw [decide_eq_false er]; exact g2
          · have nz : zs.Nodup := e1.sublist z1
            refine s_app (i := 12) rfl (by rw [List.length_map]; omega) (d_call (d_cons (d_var rfl (d_cons (d_op (d_c rfl (d_var rfl (r_pickP (by omega) (by omega) fun nm hnm => ?_))))))))
            refine d_cons (d_op (d_var rfl (d_var rfl (r_ix (.inl (r_ixL (atI_get (j := i) (by simp) eo) ?_))))))
            refine d_cons (d_var rfl (d_cons (d_var rfl (d_cons (d_var rfl (d_nil (m_lpart hnm o2 (fun x hx => e2 x (z1.subset (by simpa using hx))) ?_ hsig hcel fun p p1 p2 => ?_)))))))
            · rw [List.nil_append]
              refine List.nodup_append.mpr ⟨o1, nz, fun a ha b hb e => ?_⟩
              subst e
              have := z2 a hb
              simp [ha] at this
            · have e5 : (List.range n).map ((fun (t : Nat) => D.int ((i : Int) + (t : Int))) ∘ Nat.succ) = (List.range n).map fun (t : Nat) => D.int (((i + 1 : Nat) : Int) + (t : Int)) := by
                refine List.map_congr_left fun t _ => ?_
                show D.int _ = D.int _
                congr 1
                omega
              rw [e5]
              have e6 : (ps ++ [p]).map Pt.toF = ps.map Pt.toF ++ [p.toF] := by simp
              refine ih (i + 1) _ (by omega) ⟨ps ++ [p], s3, .d (.int ((i : Int) + ((0 : Nat) : Int))), .d (.lst (strsOf ([] ++ zs))), fun x hx => ?_, by simp [h2], ?_⟩
              · rcases List.mem_append.mp hx with z | z
                · exact h1 x z
                · rw [List.mem_singleton.mp z]; exact ⟨p1, p2⟩
              · rw [e6]
                rfl
      exact loop m.toNat 0 _ (by omega) ⟨[], s3, s8, .un, fun p hp => (by cases hp), rfl, rfl⟩
    rintro _ ⟨ps, s3, s8, s13, h1, rfl, h6⟩
    exact s_keep (i := 12) rfl (s_ret (d_var rfl (q ps h6 h1)))
  have start : I [.d (.adr ah), .d (.lst (strsOf kindsS)), .d (ctD sig), .un, .d (etD cells), .un, .d (.int m), .d (.adr p), .un, .un, .un, .un, .un, .un] (List.replicate m.toNat []) := ⟨⟨by simp; omega, fun os ho => by
    rw [(List.mem_replicate.mp ho).2]
    exact ⟨by simp, by simp, by simp⟩⟩, .un, .un, .un, trivial, trivial, trivial, rfl⟩
  have imp : ∀ (t : TS) (ρ : List Sl) (oss : List (List Str)) (nx nx' : List Sl → List (List Str) → Prop), dS2 K (some (ah, as)) p t ρ oss nx → (∀ ρ oss, nx ρ oss → nx' ρ oss) → dS2 K (some (ah, as)) p t ρ oss nx' := fun t ρ oss nx nx' h i G0 H0 Gb σ G H D s b R O z => h G0 H0 Gb σ G H D s b R O fun σ' G' H' ρ' oss' a b c d e => z σ' G' H' ρ' oss' a b c d (i _ _ e)
  refine imp _ _ _ I _ (o_for (Q := fun d => ∃ s ∈ deedsS, d = .str s) (i_str (d_slS (d_c rfl (o_no (o_part (d_op (d_c rfl (d_next rfl (by decide) (by decide) fun r r0 r1 => r_I0 rfl ⟨_, rfl, _, rfl, by decide, _, rfl, abc_in⟩)))))))) start fun d ρ oss hd hI => ?_) step
  obtain ⟨x, hx, rfl⟩ := hd
  obtain ⟨go, s3, s8, s9, n3, n8, n9, rfl⟩ := hI
  refine g_name (imp _ _ _ (fun ρ' oss => GoodO m oss ∧ ∃ s8 s9, NotOwn s8 ∧ NotOwn s9 ∧ ρ' = [.d (.adr ah), .d (.lst (strsOf kindsS)), .d (ctD sig), .d (.str x), .d (etD cells), .un, .d (.int m), .d (.adr p), s8, s9, .un, .un, .un, .un]) I (o_for (Q := fun _ => True) (i_range1 (d_cons (d_op (d_lst (d_cons (d_c rfl (d_cons (d_c rfl (d_cons (d_c rfl (d_cons (d_c rfl (d_nil ⟨by simp, ?_⟩))))))))))))) ⟨go, s8, s9, n8, n9, rfl⟩ fun d ρ oss _ hI => ?_) fun ρ' oss h => ?_)
  · refine d_next rfl (by decide) (by decide) fun r r0 r1 => r_pick r0 (by simpa using r1) fun d hd => ?_
    have : ∃ n : Int, d = .int n ∧ 0 ≤ n ∧ n ≤ 2 := by
      simp only [List.mem_cons, List.not_mem_nil, or_false] at hd
      rcases hd with rfl | rfl | rfl | rfl
      · exact ⟨1, rfl, by omega, by omega⟩
      · exact ⟨1, rfl, by omega, by omega⟩
      · exact ⟨1, rfl, by omega, by omega⟩
      · exact ⟨2, rfl, by omega, by omega⟩
    obtain ⟨n, rfl, n0, n2⟩ := this
    exact d_nil ⟨n, rfl, by omega, by omega, fun _ _ => trivial⟩
  · obtain ⟨go, s8, s9, n8, n9, rfl⟩ := hI
    refine g_name (o_seq (o_set (d_call ?_)))
    refine d_cons (d_var rfl (d_cons (d_var rfl (d_nil ?_))))
    refine m_next (by omega) (by omega) fun r r0 r1 => ?_
    refine o_put (ix := 3) (io := 7) (ik := 8) (s := x) (k := r) (flat_of ?_) rfl rfl rfl r0 (by rw [go.1]; exact r1) (by omega) fun os ho => ⟨fun n1 n2 => ⟨go.put ho hx n1 n2, .d (.int r), .d d, trivial, trivial, rfl⟩, ⟨go, .d (.int r), .d d, trivial, trivial, rfl⟩⟩
    intro s hs
    simp only [List.mem_cons, List.not_mem_nil, or_false, List.set] at hs
    rcases hs with rfl | rfl | rfl | rfl | rfl | rfl | rfl | rfl | rfl | rfl | rfl | rfl | rfl | rfl <;> first | trivial | assumption
  · obtain ⟨go, s8, s9, n8, n9, rfl⟩ := h
    exact ⟨go, .d (.str x), s8, s9, trivial, n8, n9, rfl⟩
end
end Pr
set_option Elab.async false
set_option linter.all false
set_option maxRecDepth 100000
set_option maxHeartbeats 2000000
namespace Pr
open PySem L2 PD
theorem toD_fit : ∀ (b : B), b.ok → D.fit b.depth b.toD = true := by
  have wok : ∀ v ∈ w1S ++ w2S, PyData.strOk v = true := by decide +kernel
  intro b
  induction b with
  | num n =>
    intro _
    have w : PyData.strOk ("number" : Str) = true := by decide +kernel
    simp [B.toD, B.depth, D.fit, D.fitL, w]
  | tru n =>
    intro _
    have w : PyData.strOk ("truth" : Str) = true := by decide +kernel
    simp [B.toD, B.depth, D.fit, D.fitL, w]
  | emp =>
    intro _
    have w : PyData.strOk ("empty" : Str) = true := by decide +kernel
    simp [B.toD, B.depth, D.fit, D.fitL, w]
  | arg =>
    intro _
    have w : PyData.strOk ("argument" : Str) = true := by decide +kernel
    simp [B.toD, B.depth, D.fit, D.fitL, w]
  | cel c =>
    intro h
    have := look_cells c h
    have w : PyData.strOk ("cell" : Str) = true := by decide +kernel
    simp [B.toD, B.depth, D.fit, D.fitL, this, w]
  | set c x ih =>
    intro h
    have := look_cells c h.1
    have w : PyData.strOk ("set" : Str) = true := by decide +kernel
    simp [B.toD, B.depth, D.fit, D.fitL, this, w, ih h.2]
  | call c x ih =>
    intro h
    have := look_kinds c h.1
    have w : PyData.strOk ("call" : Str) = true := by decide +kernel
    simp [B.toD, B.depth, D.fit, D.fitL, this, w, ih h.2]
  | op1 v x ih =>
    intro h
    have := wok v (List.mem_append_left _ h.1)
    simp [B.toD, B.depth, D.fit, D.fitL, this, ih h.2]
  | op2 v x y ihx ihy =>
    intro h
    have := wok v (List.mem_append_right _ h.1)
    simp [B.toD, B.depth, D.fit, D.fitL, this, fit_up (Nat.le_max_left x.depth y.depth) (ihx h.2.1), fit_up (Nat.le_max_right x.depth y.depth) (ihy h.2.2)]
  | ite x y z ihx ihy ihz =>
    intro h
    have w : PyData.strOk ("if" : Str) = true := by decide +kernel
    simp only [B.toD, B.depth, D.fit, D.fitL, w, Bool.true_and, Bool.and_true, Bool.and_eq_true]
    exact ⟨fit_up (by omega) (ihx h.1), fit_up (by omega) (ihy h.2.1), fit_up (by omega) (ihz h.2.2)⟩
theorem deeds_fit {l : List Dd} (h : ∀ d ∈ l, d.ok) : D.fit 12 (.tup (l.map Dd.toD)) = true := by
  simp only [D.fit]
  induction l with
  | nil => rfl
  | cons d r ih =>
    have o := h d List.mem_cons_self
    have k1 := look_kinds d.name o.n
    have k2 := kindsOk d.takes o.t
    have k3 := kindsOk d.tells o.u
    have k4 := fit_up o.depth (toD_fit d.body o.b)
    simp only [List.map_cons, D.fitL, ih fun x hx => h x (List.mem_cons_of_mem _ hx), Bool.and_true]
    simp [Dd.toD, D.fit, D.fitL, k1, k2, k3, k4]
def Pt.put (p : Pt) (k : Nat) (x : Dd) (r1 r2 : Nat) : Pt := ⟨p.name, p.deeds.take k ++ [x] ++ p.deeds.drop (k + 1), p.asks.drop r1, p.cells.drop r2⟩
theorem put_ok {p : Pt} (hp : p.ok) {k : Nat} (hk : k < p.deeds.length) {x : Dd} (hx : x.ok) (e : x.name = p.deeds[k].name) (r1 r2 : Nat) : (p.put k x r1 r2).ok := by
  have spl : p.deeds = p.deeds.take k ++ p.deeds[k] :: p.deeds.drop (k + 1) := by
    rw [← List.drop_eq_getElem_cons hk, List.take_append_drop]
  have nm : (p.deeds.take k ++ [x] ++ p.deeds.drop (k + 1)).map Dd.name = p.deeds.map Dd.name := by
    have q := congrArg (List.map Dd.name) spl
    rw [List.map_append, List.map_cons] at q
    rw [q, List.map_append, List.map_append, List.map_cons, List.map_nil, e]
    simp
  have ln : (p.deeds.take k ++ [x] ++ p.deeds.drop (k + 1)).length = p.deeds.length := by
    have := congrArg List.length nm
    simpa using this
  exact {
    n := hp.n
    d8 := by show (p.deeds.take k ++ [x] ++ p.deeds.drop (k + 1)).length ≤ 8; rw [ln]; exact hp.d8
    d := fun d hd => by
      have hd : d ∈ p.deeds.take k ++ [x] ++ p.deeds.drop (k + 1) := hd
      rcases List.mem_append.mp hd with z | z
      · rcases List.mem_append.mp z with z | z
        · exact hp.d d (List.mem_of_mem_take z)
        · rw [List.mem_singleton.mp z]; exact hx
      · exact hp.d d (List.mem_of_mem_drop z)
    dup := by
      show ((p.deeds.take k ++ [x] ++ p.deeds.drop (k + 1)).map Dd.name).Pairwise up
      rw [nm]; exact hp.dup
    a8 := by
      show (p.asks.drop r1).length ≤ 8
      rw [List.length_drop]
      have := hp.a8
      omega
    a := fun a ha => hp.a a (List.mem_of_mem_drop ha)
    aup := by
      show ((p.asks.drop r1).map (·.1)).Pairwise up
      rw [List.map_drop]
      exact hp.aup.sublist (List.drop_sublist _ _)
    apart := fun a ha => by
      show a.1 ∉ (p.deeds.take k ++ [x] ++ p.deeds.drop (k + 1)).map Dd.name
      rw [nm]
      exact hp.apart a (List.mem_of_mem_drop ha)
    c4 := by
      show (p.cells.drop r2).length ≤ 4
      rw [List.length_drop]
      have := hp.c4
      omega
    c := fun c hc => hp.c c (List.mem_of_mem_drop hc)
    cup := by
      show ((p.cells.drop r2).map (·.1)).Pairwise up
      rw [List.map_drop]
      exact hp.cup.sublist (List.drop_sublist _ _) }
theorem cut_drop {xs : List D} (n : Nat) : cutD xs (some (n : Int)) none = xs.drop n := by
  unfold cutD
  rw [HT.sIx_none, HT.sIx_nat]
  by_cases h : n ≤ xs.length
  · rw [Nat.min_eq_left h, List.take_of_length_le (by rw [List.length_drop]; exact Nat.le_refl _)]
  · rw [Nat.min_eq_right (by omega), List.drop_length, List.drop_eq_nil_of_le (by omega)]
    simp
theorem cut_take {xs : List D} (n : Nat) : cutD xs none (some (n : Int)) = xs.take n := by
  unfold cutD
  rw [HT.sIx_none, HT.sIx_nat]
  by_cases h : n ≤ xs.length
  · rw [Nat.min_eq_left h]; simp
  · rw [Nat.min_eq_right (by omega), List.take_of_length_le (by simp), List.take_of_length_le (by omega)]
    simp
end Pr
set_option Elab.async false
set_option linter.all false
set_option maxRecDepth 100000
set_option maxHeartbeats 2000000
namespace Pr
open PySem L2 PD
abbrev s_law : Stmt := top 55
abbrev N_law : List Str := ["_law_script", "_law_h", "_law_turn", "_law_part_here", "_law_name", "_law_deeds", "_law_asks", "_law_cells", "_law_k", "_law_body_here", "_law_takes", "_law_tells", "_law_row", "_law_other"]
theorem sc_law : FnScope N_law ["_law_script"] (defScope s_law) := ⟨rfl, rfl, rfl, by decide +kernel, rfl, by decide +kernel, by decide +kernel⟩

section
variable {P : Program} {w : World} {K : PySem.W.Frag} {mg : Str → Option Value} {base : Heap}
def spLaw (K : PySem.W.Frag) : Sp := fun vs H Q _ => ∃ (a : Addr) (ns : List Int), vs = [.ref a] ∧ SqL K H a (ns.map V.int) ∧ ns.length ≤ 63 ∧ ∀ H', Q (.bl true) H'
abbrev U (M : Addr → List D → (D → Prop) → Prop) (K : PySem.W.Frag) : Sp := fun vs H Q E => ∃ i : Addr × Addr, spD K (some i) (M i.1) vs H Q E
theorem d_callA {ah as : Addr} {ρ : List Sl} {k : D → Prop} {tx : TA} {X : XK} {M : Addr → List D → (D → Prop) → Prop} (h : dA K (some (ah, as)) tx ρ fun ds => M ah ds k) : dE K (some (ah, as)) (tCall (U M K) [] X tx) ρ k := d_callU (M := fun i => M i.1) (i := (ah, as)) h
theorem d_partW {hs : Option (Addr × Addr)} {ρ : List Sl} {i : Nat} {p : Pt} {k : D → Prop} {o : Pt → D} {X : XK} (e : ρ[i]? = some (.d p.toF)) (hp : p.ok) (q : k (o p)) : dE K hs (tCall (spD K none (M_part o)) [] X (tCons (tVar i) tNil)) ρ k :=
  d_callP (d_cons (d_weak (d_var e ⟨p.toD, weak_toF p, d_nil (m_part hp q)⟩)))
theorem d_dueV {hs : Option (Addr × Addr)} {ρ : List Sl} {i : Nat} {p : Pt} {k : D → Prop} {X : XK} (e : ρ[i]? = some (.d p.toF)) (hp : p.ok) (q : k (optD p.wrong)) : dE K hs (tCall (spD K none M_due) [] X (tCons (tVar i) tNil)) ρ k :=
  d_callP (d_cons (d_var e (d_nil (m_due hp q))))
theorem ok_law {f : Addr} {fd : FuncData} (F : FunD K "law" "law" (defArgs s_law) (defBody s_law) (defScope s_law) [] [] f fd) (zr : mg "range" = none) (zl : mg "len" = none)
    (C_law_mix : CalU P w K mg base 1 "_law_mix" ["_law_script", "_law_seed"] (spMix K)) (C_law_next : CalU P w K mg base 1 "_law_next" ["_law_h", "_law_many"] (U M_next K)) (C_law_shelf : CalU P w K mg base 11 "_law_shelf" ["_law_h"] (U M_shelf K)) (C_law_full : CalU P w K mg base 11 "_law_full" ["_law_h"] (U M_full K))
    (C_law_wrapped : CalU P w K mg base 12 "_law_wrapped" ["_law_h", "_law_body_here"] (U M_wrapped K)) (C_law_spoilt : CalU P w K mg base 5 "_law_spoilt" ["_law_h", "_law_body_here"] (U (fun ah => M_spoilt ah 4) K))
    (C_right : Cal P w K mg base 19 "right" ["part"] none (M_part fun p => optD p.wrong)) (C_law_due : Cal P w K mg base 12 "_law_due" ["_law_part_here"] none M_due) (C_law_alike : Cal P w K mg base 2 "_law_alike" ["_law_found", "_law_due_here"] none M_alike) :
    FnOk P w K mg base CX0 20 f fd ["_law_script"] (spLaw K) := by
  refine F.ok sc_law (fun vs H Q E h => ?_) (fun cdv A outer s H vs Q E hr h => ?_)
  · obtain ⟨_, _, rfl, _⟩ := h
    rfl
  obtain ⟨a, ns, rfl, hS, hl, z⟩ := h
  have hu := hu_of hr
  refine ⟨_, PSs.nox ((pss_cons (ps_set (i := 1) sc_law.nd rfl (by first | exact Or.inl rfl | exact Or.inr rfl) (PD.pe_calU (K := K) rfl C_law_mix (hr.mono (by first | decide | omega)) rfl (pa_cons (pv 0) (pa_cons pe_int pa_nil))))
      (pss_cons (ps_for PassesOwn.never rfl (pi_range1 rfl zr (pa_cons pe_int pa_nil)) (pg_name (i := 2) sc_law.nd rfl (by first | exact Or.inl rfl | exact Or.inr rfl)) (pss_one (ps_for PassesOwn.never rfl (pi_list (pe_op op_cat (PD.pe_calU (K := K) rfl C_law_shelf (hr.mono (by first | decide | omega)) rfl (pa_cons (pv 1) pa_nil)) (pe_lst (pa_cons (PD.pe_calU (K := K) rfl C_law_full (hr.mono (by first | decide | omega)) rfl (pa_cons (pv 1) pa_nil)) pa_nil)))) (pg_name (i := 3) sc_law.nd rfl (by first | exact Or.inl rfl | exact Or.inr rfl)) (pss_cons (ps_if (PW.pt (pw_or (pt_cmpR op_notN (pe_calK (K := K) rfl C_right (hr.mono (by first | decide | omega)) rfl (pa_cons (pv 3) pa_nil)) pe_non (nomark _)) (pw_or1 (pt_cmpR op_notN (pe_calK (K := K) rfl C_law_due (hr.mono (by first | decide | omega)) rfl (pa_cons (pv 3) pa_nil)) pe_non (nomark _))))) (pss_one (ps_ret pe_bl)) pss_nil)
      (pss_cons (ps_asg (pv 3) (pg_tupK (K := K) (n := 4) rfl rfl (pgs_cons (pg_name (i := 4) sc_law.nd rfl (by first | exact Or.inl rfl | exact Or.inr rfl)) (pgs_cons (pg_name (i := 5) sc_law.nd rfl (by first | exact Or.inl rfl | exact Or.inr rfl)) (pgs_cons (pg_name (i := 6) sc_law.nd rfl (by first | exact Or.inl rfl | exact Or.inr rfl)) (pgs_cons (pg_name (i := 7) sc_law.nd rfl (by first | exact Or.inl rfl | exact Or.inr rfl)) pgs_nil))))))
      (pss_one (ps_if (pt_cmpR (r := rNeD K) (op_neD hr.units) (pv 5) (pe_tup pa_nil) (nomark _)) (pss_cons (ps_set (i := 8) sc_law.nd rfl (by first | exact Or.inl rfl | exact Or.inr rfl) (PD.pe_calU (K := K) rfl C_law_next (hr.mono (by first | decide | omega)) rfl (pa_cons (pv 1) (pa_cons (pe_callB (r := rLenQ K) (id := "len")  call_len_seq (by rfl) zl PySem.boot_len (pa_cons (pv 5) pa_nil)) pa_nil))))
      (pss_cons (ps_set (i := 9) sc_law.nd rfl (by first | exact Or.inl rfl | exact Or.inr rfl) (PD.pe_calU (K := K) rfl C_law_wrapped (hr.mono (by first | decide | omega)) rfl (pa_cons (pv 1) (pa_cons (PD.pe_calU (K := K) rfl C_law_spoilt (hr.mono (by first | decide | omega)) rfl (pa_cons (pv 1) (pa_cons (pe_ix (r := rIx K) ix_seq (pe_ix (r := rIx K) ix_seq (pv 5) (pv 8) (fun _ _ => rfl)) pe_int (fun _ _ => rfl)) pa_nil))) pa_nil))))
      (pss_cons (ps_asg (pe_ix (r := rIx K) ix_seq (pe_lst (pa_cons (pe_slice (r := rSlA K) sl_tupA (pe_ix (r := rIx K) ix_seq (pv 5) (pv 8) (fun _ _ => rfl)) (po_some pe_int) (po_some pe_int)) (pa_cons (pe_tup (pa_cons pe_str (pa_cons (pe_ix (r := rIx K) ix_seq (pe_ix (r := rIx K) ix_seq (pv 5) (pv 8) (fun _ _ => rfl)) pe_int (fun _ _ => rfl)) pa_nil))) (pa_cons (pe_tup (pa_cons (pe_ix (r := rIx K) ix_seq (pe_ix (r := rIx K) ix_seq (pv 5) (pv 8) (fun _ _ => rfl)) pe_int (fun _ _ => rfl)) (pa_cons pe_str pa_nil))) pa_nil)))) (PD.pe_calU (K := K) rfl C_law_next (hr.mono (by first | decide | omega)) rfl (pa_cons (pv 1) (pa_cons pe_int pa_nil))) (fun _ _ => rfl)) (pg_tupK (K := K) (n := 2) rfl rfl (pgs_cons (pg_name (i := 10) sc_law.nd rfl (by first | exact Or.inl rfl | exact Or.inr rfl)) (pgs_cons (pg_name (i := 11) sc_law.nd rfl (by first | exact Or.inl rfl | exact Or.inr rfl)) pgs_nil))))
      (pss_cons (ps_set (i := 12) sc_law.nd rfl (by first | exact Or.inl rfl | exact Or.inr rfl) (pe_tup (pa_cons (pe_ix (r := rIx K) ix_seq (pe_ix (r := rIx K) ix_seq (pv 5) (pv 8) (fun _ _ => rfl)) pe_int (fun _ _ => rfl)) (pa_cons (pv 10) (pa_cons (pv 11) (pa_cons (pv 9) pa_nil))))))
      (pss_cons (ps_set (i := 13) sc_law.nd rfl (by first | exact Or.inl rfl | exact Or.inr rfl) (pe_tup (pa_cons (pv 4) (pa_cons (pe_op (r := rCatA K) op_catA (pe_op (r := rCatA K) op_catA (pe_slice (r := rSlA K) sl_tupA (pv 5) po_none (po_some (pv 8))) (pe_tup (pa_cons (pv 12) pa_nil))) (pe_slice (r := rSlA K) sl_tupA (pv 5) (po_some (pe_op op_add (pv 8) pe_int)) po_none)) (pa_cons (pe_slice (r := rSlA K) sl_tupA (pv 6) (po_some (PD.pe_calU (K := K) rfl C_law_next (hr.mono (by first | decide | omega)) rfl (pa_cons (pv 1) (pa_cons pe_int pa_nil)))) po_none) (pa_cons (pe_slice (r := PD.rSlF K) PD.sl_tupF (pv 7) (po_some (PD.pe_calU (K := K) rfl C_law_next (hr.mono (by first | decide | omega)) rfl (pa_cons (pv 1) (pa_cons pe_int pa_nil)))) po_none) pa_nil))))))
      (pss_one (ps_if (pt_not (pt_val (pe_calK (K := K) rfl C_law_alike (hr.mono (by first | decide | omega)) rfl (pa_cons (pe_calK (K := K) rfl C_right (hr.mono (by first | decide | omega)) rfl (pa_cons (pv 13) pa_nil)) (pa_cons (pe_calK (K := K) rfl C_law_due (hr.mono (by first | decide | omega)) rfl (pa_cons (pv 13) pa_nil)) pa_nil))))) (pss_one (ps_ret pe_bl)) pss_nil))))))) pss_nil)))))))
      (pss_one (ps_ret pe_bl))))), ?_⟩
  refine ⟨_, rfl, a, ns, rfl, hS, fun m ah as H' m0 m1 e1 e2 => ?_⟩
  have ne : ah ≠ as := fun e => by
    subst e
    rw [e1] at e2
    have e3 : [V.int m, V.ref ah, V.int 0] = ns.map V.int := by
      injection e2 with e2
      injection e2 with e2
    have : V.ref ah ∈ ns.map V.int := by rw [← e3]; simp
    obtain ⟨n, _, e4⟩ := List.mem_map.mp this
    cases e4
  let G : Hp := fun _ => none
  have fr : Fr (some (ah, as)) G H' := ⟨fun b o e => (by cases e), ne, rfl, rfl, m, 0, ns, e1, e2, hl, by omega, m0, m1⟩
  have env : EnvR K (some (ah, as)) H' G H' ((L2.start N_law [V.ref a]).set 1 (some (.ref ah))) ((startD N_law [.adr a]).set 1 (.d (.adr ah))) := (env_start (.cons .adr .nil)).set (s := .d (.adr ah)) ⟨_, rfl, .adr⟩ fun _ e => (by cases e)
  have ends : Ends' K (some (ah, as)) G H' G { nx := fun _ => False, rt := fun d => d = .bl true } { nx := fun _ H' => Q .non H', rt := Q } := ⟨fun _ _ _ _ _ _ _ q => q.elim, fun v G' H'' d _ r q => by
    subst q
    rw [rel_bl r]
    exact z _, fun _ _ _ _ _ _ _ q => q.elim, fun _ _ _ _ _ _ _ q => q.elim⟩
  have key : ∀ t u : TS, dS K (some (ah, as)) (tSeq t u) ((startD N_law [.adr a]).set 1 (.d (.adr ah))) { nx := fun _ => False, rt := fun d => d = .bl true } → tSeq t u { nx := fun _ H' => Q .non H', rt := Q } ((L2.start N_law [V.ref a]).set 1 (some (.ref ah))) H' := fun t u h => h G H' G _ G H' _ fr.refl (Same.refl G) env ends
  dsimp only [gName, cxOf]
  refine key (tFor _ _ _) (tRet _) ?_
  change dS K (some (ah, as)) _ [.d (.adr a), .d (.adr ah), .un, .un, .un, .un, .un, .un, .un, .un, .un, .un, .un, .un] _
  let J : List Sl → Prop := fun ρ => ∃ s2 s3 s4 s5 s6 s7 s8 s9 s10 s11 s12 s13, ρ = [.d (.adr a), .d (.adr ah), s2, s3, s4, s5, s6, s7, s8, s9, s10, s11, s12, s13]
  refine s_cut (I := J) (s_for (i_range1 (d_cons (d_c rfl (d_nil ⟨4, rfl, by decide, by decide, ?_⟩))))) ?_
  · refine forW_inv (fun _ ρ => J ρ) (fun ρ h => h) (fun d r ρ h => ?_) _ _ ⟨_, _, _, _, _, _, _, _, _, _, _, _, rfl⟩
    obtain ⟨s2, s3, s4, s5, s6, s7, s8, s9, s10, s11, s12, s13, rfl⟩ := h
    refine g_name (s_for (i_list (d_ofL (l_cat ?_))))
    refine d_callA (d_cons (d_var rfl (d_nil (m_shelf fun ps ps6 hps => ?_))))
    refine d_lst (d_cons (d_callA (d_cons (d_var rfl (d_nil (m_full fun pf hf1 hf2 => ?_))))))
    refine d_nil ⟨by simp, _, _, rfl, rfl, by simp; omega, _, rfl, ?_⟩
    have all : ∀ x ∈ ps.map Pt.toF ++ [pf.toF], ∃ p : Pt, x = p.toF ∧ p.ok ∧ p.fine := fun x hx => by
      rcases List.mem_append.mp hx with y | y
      · obtain ⟨p, hp, rfl⟩ := List.mem_map.mp y
        exact ⟨p, rfl, hps p hp⟩
      · exact ⟨pf, List.mem_singleton.mp y, hf1, hf2⟩
    refine forW_inv (fun r ρ => (∀ x ∈ r, ∃ p : Pt, x = p.toF ∧ p.ok ∧ p.fine) ∧ J ρ) (fun ρ h => h.2) (fun d r ρ h => ?_) _ _ ⟨all, _, _, _, _, _, _, _, _, _, _, _, _, rfl⟩
    obtain ⟨hr', s2, s3, s4, s5, s6, s7, s8, s9, s10, s11, s12, s13, rfl⟩ := h
    obtain ⟨p, rfl, hp, hw, hlow⟩ := hr' d List.mem_cons_self
    have rest : ∀ x ∈ r, ∃ p : Pt, x = p.toF ∧ p.ok ∧ p.fine := fun x hx => hr' x (List.mem_cons_of_mem _ hx)
    refine g_name ?_
    refine s_seq (s_if (d_or (d_test (d_op (d_partW rfl hp ?_)))))
    rw [hw]
    refine d_c rfl (r_notN ⟨_, rfl, fun e => (by cases e), fun _ => ?_⟩)
    refine d_test (d_op (d_dueV rfl hp ?_))
    rw [hw]
    refine d_c rfl (r_notN ⟨_, rfl, fun e => (by cases e), fun _ => s_next ?_⟩)
    refine s_seq (s_asg (d_var rfl ?_))
    refine g_tup (ds := [.str p.name, .tup (p.deeds.map Dd.toD), .tup (p.asks.map askD), .tpf (p.cells.map celD)]) rfl ?_
    refine gs_cons (g_name (gs_cons (g_name (gs_cons (g_name (gs_cons (g_name (gs_nil ?_))))))))
    refine s_if (d_test (d_op (d_var rfl (d_tup (d_nil ⟨by simp, r_neTup0 (n := 12) (by decide) (deeds_fit hp.d) ⟨_, rfl, fun e => ?_, fun e => ?_⟩⟩)))))
    · have hn : 0 < p.deeds.length := by
        cases hd : p.deeds with
        | nil => rw [hd] at e; cases e
        | cons x y => simp
      have h8 := hp.d8
      refine s_seq (s_set (d_callA (d_cons (d_var rfl (d_cons (d_cb (d_cons (d_var rfl (d_nil (c_lenS (.inr rfl) ?_))))))))))
      rw [List.length_map]
      refine d_nil (m_next (by omega) (by omega) fun k k0 k1 => ?_)
      obtain ⟨j, rfl⟩ : ∃ j : Nat, k = (j : Int) := ⟨k.toNat, by omega⟩
      have hj : j < p.deeds.length := by omega
      have od := hp.d _ (List.getElem_mem hj)
      have ej : (p.deeds.map Dd.toD)[j]? = some (p.deeds[j]).toD := by rw [List.getElem?_map, List.getElem?_eq_getElem hj]; rfl
      have pick : ∀ (ρ : List Sl) (kk : D → Prop), ρ[5]? = some (.d (.tup (p.deeds.map Dd.toD))) → ρ[8]? = some (.d (.int (j : Int))) → kk (p.deeds[j]).toD → dE K (some (ah, as)) (tOp (rIx K) (tVar 5) (tVar 8)) ρ kk := fun ρ kk a1 a2 q => d_op (d_var a1 (d_var a2 (r_ix (.inr (r_ixT (atI_nat ej) q)))))
      have dl := hlow _ (List.getElem_mem hj)
      have sl := size40 dl
      refine s_seq (s_set (d_callA (d_cons (d_var rfl (d_cons (d_callA (d_cons (d_var rfl (d_cons (d_op (pick _ _ rfl rfl (d_c rfl (r_ix (.inr (r_ixT (show atI _ ((3 : Nat) : Int) = _ from atI_nat rfl) ?_)))))))))))))))
      refine d_nil (m_spoilt od.b dl fun c1 c2 c3 c4 => ?_)
      refine d_nil ⟨c1, rfl, ⟨c2, by omega, by omega⟩, fun c hc => ?_⟩
      refine s_seq (s_asg (d_op (d_lst ?_)))
      refine d_cons (d_slT13 (pick _ _ rfl rfl ⟨_, _, _, _, rfl, ?_⟩))
      refine d_cons (d_tup (d_cons (d_c rfl (d_cons (d_op (pick _ _ rfl rfl (d_c rfl ?_)))))))
      refine r_ix (.inr (r_ixT (show atI _ ((2 : Nat) : Int) = _ from atI_nat rfl) (d_nil ⟨by simp, ?_⟩)))
      refine d_cons (d_tup (d_cons (d_op (pick _ _ rfl rfl (d_c rfl ?_)))))
      refine r_ix (.inr (r_ixT (show atI _ ((1 : Nat) : Int) = _ from atI_nat rfl) (d_cons (d_c rfl (d_nil ⟨by simp, ?_⟩)))))
      refine d_nil ⟨by simp, ?_⟩
      refine d_callA (d_cons (d_var rfl (d_cons (d_c rfl (d_nil (m_next (by decide) (by decide) fun r3 b0 b1 => ?_))))))
      refine r_pick b0 (by simpa using b1) fun d hd => ?_
      have hd : ∃ t u : Str, t ∈ kindsS ∧ u ∈ kindsS ∧ d = .tup [.str t, .str u] := by
        simp only [List.mem_cons, List.not_mem_nil, or_false] at hd
        rcases hd with rfl | rfl | rfl
        · exact ⟨_, _, od.t, od.u, rfl⟩
        · exact ⟨"list", _, by decide, od.u, rfl⟩
        · exact ⟨_, "truth", od.t, by decide, rfl⟩
      obtain ⟨t, u, ht, hu', rfl⟩ := hd
      refine g_tup rfl (gs_cons (g_name (gs_cons (g_name (gs_nil ?_)))))
      refine s_seq (s_set (d_tup (d_cons (d_op (pick _ _ rfl rfl (d_c rfl ?_))))))
      refine r_ix (.inr (r_ixT (show atI _ ((0 : Nat) : Int) = _ from atI_nat rfl) ?_))
      refine d_cons (d_var rfl (d_cons (d_var rfl (d_cons (d_var rfl (d_nil ⟨by simp, ?_⟩))))))
      have l1 : (p.deeds.map Dd.toD).length = p.deeds.length := List.length_map ..
      refine s_seq (s_set (d_tup (d_cons (d_var rfl (d_cons (d_op (d_op ?_)))))))
      refine d_slT (d_var rfl (o_no (o_part (d_var rfl ⟨_, rfl, _, rfl, ?_⟩))))
      rw [cut_take]
      refine d_tup (d_cons (d_var rfl (d_nil ⟨by simp, r_catA (by simp; omega) ?_⟩)))
      refine d_slT (d_var rfl (o_part (d_op (d_var rfl (d_c rfl (r_I0 rfl ⟨_, rfl, o_no ⟨_, rfl, ?_⟩⟩))))))
      rw [show ((j : Int) + 1) = ((j + 1 : Nat) : Int) by omega, cut_drop]
      refine r_catA (by simp; omega) ?_
      refine d_cons (d_slT (d_var rfl (o_part (d_callA (d_cons (d_var rfl (d_cons (d_c rfl (d_nil (m_next (by decide) (by decide) fun r1 a0 a1 => ⟨_, rfl, o_no ⟨_, rfl, ?_⟩⟩))))))))))
      obtain ⟨n1, rfl⟩ : ∃ n1 : Nat, r1 = (n1 : Int) := ⟨r1.toNat, by omega⟩
      rw [cut_drop]
      refine d_cons (d_slF (d_var rfl (o_part (d_callA (d_cons (d_var rfl (d_cons (d_c rfl (d_nil (m_next (by decide) (by decide) fun r2 c0 c1 => ⟨_, rfl, o_no ⟨_, rfl, ?_⟩⟩))))))))))
      obtain ⟨n2, rfl⟩ : ∃ n2 : Nat, r2 = (n2 : Int) := ⟨r2.toNat, by omega⟩
      rw [cut_drop]
      refine d_nil ⟨by simp, ?_⟩
      have ok2 : (p.put j ⟨p.deeds[j].name, t, u, c⟩ n1 n2).ok := put_ok hp hj (x := ⟨p.deeds[j].name, t, u, c⟩) ⟨od.n, ht, hu', hc.1, hc.2.1, hc.2.2⟩ rfl n1 n2
      have e13 : D.tup [.str p.name, .tup ((p.deeds.map Dd.toD).take j ++ [D.tup [.str p.deeds[j].name, .str t, .str u, c.toD]] ++ (p.deeds.map Dd.toD).drop (j + 1)), .tup ((p.asks.map askD).drop n1), .tpf ((p.cells.map celD).drop n2)] = (p.put j ⟨p.deeds[j].name, t, u, c⟩ n1 n2).toF := by
        unfold Pt.toF Pt.put
        simp only [List.map_append, List.map_take, List.map_drop, List.map_cons, List.map_nil, Dd.toD]
      rw [e13]
      refine s_if (d_not (d_tB (d_callP (d_cons (d_partW rfl ok2 (d_cons (d_dueV rfl ok2 (d_nil ⟨_, _, rfl, _, rfl, ?_⟩))))))))
      refine br_f (by simp) (s_next ?_)
      exact ⟨rest, _, _, _, _, _, _, _, _, _, _, _, _, rfl⟩
    · exact s_next ⟨rest, _, _, _, _, _, _, _, _, _, _, _, _, rfl⟩
  rintro _ ⟨s2, s3, s4, s5, s6, s7, s8, s9, s10, s11, s12, s13, rfl⟩
  exact s_ret (d_c rfl rfl)
end
end Pr
set_option Elab.async false
set_option linter.all false
set_option maxRecDepth 100000
set_option maxHeartbeats 4000000
namespace Pr
open PySem PySem.Spec PyProof.Rows L2 PD
section
variable {P : Program} {w : World} {K : PySem.W.Frag} {h : Heap} {mg : Str → Option Value}
theorem relV_ref {v : V} {a : Addr} (r : RelV v (.ref a)) : v = .ref a := by
  cases v <;> first | (cases r; rfl) | (cases r; done) | (obtain ⟨_, r⟩ := r; cases r)
theorem glo_rel {x : Str} {d : D} (e : gloB K x d = true) : ∀ G, Rel K G (.ref (He.ga K x)) d := by
  obtain ⟨v, r, q⟩ := con_rel e
  rw [relV_ref r] at q
  exact q
theorem txt_of (X : K.In h) (G : h.Ns mainGlobals mg) (c : He.SaysX faD fnD tsD [] exD w h K) : Txt w K mg := by
  obtain ⟨e, b6⟩ := Bool.and_eq_true_iff.mp c.more
  obtain ⟨e, b5⟩ := Bool.and_eq_true_iff.mp e
  obtain ⟨e, b4⟩ := Bool.and_eq_true_iff.mp e
  obtain ⟨e, b3⟩ := Bool.and_eq_true_iff.mp e
  obtain ⟨b1, b2⟩ := Bool.and_eq_true_iff.mp e
  obtain ⟨esA, nA, kA⟩ := c.t.tab 0 (t := ((fun K => He.ga K "BODY_ARMS"), _)) rfl
  obtain ⟨esF, nF, kF⟩ := c.t.tab 1 (t := ((fun K => He.ga K "FIXED"), _)) rfl
  have gF := He.glo_ok X G (c.t.d.fact 41 (f := .glo "FIXED") rfl)
  have D_size_of : DefV K mg "size_of" s_size_of [.int 0] := by
    obtain ⟨fd, F⟩ := c.t.d.def_ 0 (d := d_size_of) rfl
    exact ⟨_, fd, He.glo_ok X G (c.t.d.fact 0 (f := .glo "size_of") rfl), F⟩
  have D_is_number : DefT K mg "is_number" s_is_number := by
    obtain ⟨fd, F⟩ := c.t.d.def_ 1 (d := d_is_number) rfl
    exact ⟨_, fd, He.glo_ok X G (c.t.d.fact 1 (f := .glo "is_number") rfl), F⟩
  have D_body_arms : DefT K mg "body_arms" s_body_arms := by
    obtain ⟨fd, F⟩ := c.t.d.def_ 2 (d := d_body_arms) rfl
    exact ⟨_, fd, He.glo_ok X G (c.t.d.fact 2 (f := .glo "body_arms") rfl), F⟩
  have D_fits_body : DefT K mg "fits_body" s_fits_body := by
    obtain ⟨fd, F⟩ := c.t.d.def_ 3 (d := d_fits_body) rfl
    exact ⟨_, fd, He.glo_ok X G (c.t.d.fact 3 (f := .glo "fits_body") rfl), F⟩
  have D_is_body : DefT K mg "is_body" s_is_body := by
    obtain ⟨fd, F⟩ := c.t.d.def_ 4 (d := d_is_body) rfl
    exact ⟨_, fd, He.glo_ok X G (c.t.d.fact 4 (f := .glo "is_body") rfl), F⟩
  have D_bodies_in : DefT K mg "bodies_in" s_bodies_in := by
    obtain ⟨fd, F⟩ := c.t.d.def_ 5 (d := d_bodies_in) rfl
    exact ⟨_, fd, He.glo_ok X G (c.t.d.fact 5 (f := .glo "bodies_in") rfl), F⟩
  have D_kind_by_arms : DefT K mg "kind_by_arms" s_kind_by_arms := by
    obtain ⟨fd, F⟩ := c.t.d.def_ 6 (d := d_kind_by_arms) rfl
    exact ⟨_, fd, He.glo_ok X G (c.t.d.fact 6 (f := .glo "kind_by_arms") rfl), F⟩
  have D_kind_of : DefT K mg "kind_of" s_kind_of := by
    obtain ⟨fd, F⟩ := c.t.d.def_ 7 (d := d_kind_of) rfl
    exact ⟨_, fd, He.glo_ok X G (c.t.d.fact 7 (f := .glo "kind_of") rfl), F⟩
  have D_is_ask : DefT K mg "is_ask" s_is_ask := by
    obtain ⟨fd, F⟩ := c.t.d.def_ 8 (d := d_is_ask) rfl
    exact ⟨_, fd, He.glo_ok X G (c.t.d.fact 8 (f := .glo "is_ask") rfl), F⟩
  have D_is_deed : DefT K mg "is_deed" s_is_deed := by
    obtain ⟨fd, F⟩ := c.t.d.def_ 9 (d := d_is_deed) rfl
    exact ⟨_, fd, He.glo_ok X G (c.t.d.fact 9 (f := .glo "is_deed") rfl), F⟩
  have D_is_cell : DefT K mg "is_cell" s_is_cell := by
    obtain ⟨fd, F⟩ := c.t.d.def_ 10 (d := d_is_cell) rfl
    exact ⟨_, fd, He.glo_ok X G (c.t.d.fact 10 (f := .glo "is_cell") rfl), F⟩
  have D_are_rows : DefT K mg "are_rows" s_are_rows := by
    obtain ⟨fd, F⟩ := c.t.d.def_ 11 (d := d_are_rows) rfl
    exact ⟨_, fd, He.glo_ok X G (c.t.d.fact 11 (f := .glo "are_rows") rfl), F⟩
  have D_are_asks : DefT K mg "are_asks" s_are_asks := by
    obtain ⟨fd, F⟩ := c.t.d.def_ 12 (d := d_are_asks) rfl
    exact ⟨_, fd, He.glo_ok X G (c.t.d.fact 12 (f := .glo "are_asks") rfl), F⟩
  have D_fault_of : DefT K mg "fault_of" s_fault_of := by
    obtain ⟨fd, F⟩ := c.t.d.def_ 13 (d := d_fault_of) rfl
    exact ⟨_, fd, He.glo_ok X G (c.t.d.fact 13 (f := .glo "fault_of") rfl), F⟩
  have D_check_part : DefT K mg "check_part" s_check_part := by
    obtain ⟨fd, F⟩ := c.t.d.def_ 14 (d := d_check_part) rfl
    exact ⟨_, fd, He.glo_ok X G (c.t.d.fact 14 (f := .glo "check_part") rfl), F⟩
  have D_calls_of : DefT K mg "calls_of" s_calls_of := by
    obtain ⟨fd, F⟩ := c.t.d.def_ 15 (d := d_calls_of) rfl
    exact ⟨_, fd, He.glo_ok X G (c.t.d.fact 15 (f := .glo "calls_of") rfl), F⟩
  have D_right : DefT K mg "right" s_right := by
    obtain ⟨fd, F⟩ := c.t.d.def_ 16 (d := d_right) rfl
    exact ⟨_, fd, He.glo_ok X G (c.t.d.fact 16 (f := .glo "right") rfl), F⟩
  exact {
    KINDS := ⟨_, He.glo_ok X G (c.t.d.fact 36 (f := .glo "KINDS") rfl), glo_rel b1⟩
    DEEDS := ⟨_, He.glo_ok X G (c.t.d.fact 37 (f := .glo "DEED_NAMES") rfl), glo_rel b2⟩
    CELLS := ⟨_, He.glo_ok X G (c.t.d.fact 38 (f := .glo "CELL_NAMES") rfl), glo_rel b3⟩
    PARTS := ⟨_, He.glo_ok X G (c.t.d.fact 39 (f := .glo "PART_NAMES") rfl), glo_rel b4⟩
    ARMS := ⟨_, esA, nA, He.glo_ok X G (c.t.d.fact 40 (f := .glo "BODY_ARMS") rfl), kA, (has_ok b5).1⟩
    FIXED := ⟨_, esF, nF, gF, kF, (has_ok b6).1⟩
    NOFIX := ⟨fun a e p hp => by
      rw [gF] at e
      cases e
      exact (has_ok b6).2 p hp⟩
    GREAT := He.int_ok X G (c.t.d.fact 44 (f := .int "GREATEST_IN_BODIES" 99) rfl)
    WORDS := He.int_ok X G (c.t.d.fact 43 (f := .int "MOST_WORDS" 60) rfl)
    AROUND := He.int_ok X G (c.t.d.fact 42 (f := .int "MOST_AROUND" 9) rfl)
    MDEEDS := He.int_ok X G (c.t.d.fact 45 (f := .int "MOST_DEEDS" 8) rfl)
    MCELLS := He.int_ok X G (c.t.d.fact 46 (f := .int "MOST_CELLS" 4) rfl)
    z_len := He.free_ok X G (c.t.d.fact 53 (f := .free "len") rfl)
    z_isinstance := He.free_ok X G (c.t.d.fact 52 (f := .free "isinstance") rfl)
    z_tuple := He.free_ok X G (c.t.d.fact 61 (f := .free "tuple") rfl)
    z_int := He.free_ok X G (c.t.d.fact 51 (f := .free "int") rfl)
    z_bool := He.free_ok X G (c.t.d.fact 49 (f := .free "bool") rfl)
    z_str := He.free_ok X G (c.t.d.fact 59 (f := .free "str") rfl)
    z_zip := He.free_ok X G (c.t.d.fact 62 (f := .free "zip") rfl)
    z_any := He.free_ok X G (c.t.d.fact 48 (f := .free "any") rfl)
    z_set := He.free_ok X G (c.t.d.fact 57 (f := .free "set") rfl)
    z_sorted := He.free_ok X G (c.t.d.fact 58 (f := .free "sorted") rfl)
    f_size_of := D_size_of
    f_is_number := D_is_number
    f_body_arms := D_body_arms
    f_fits_body := D_fits_body
    f_is_body := D_is_body
    f_bodies_in := D_bodies_in
    f_kind_by_arms := D_kind_by_arms
    f_kind_of := D_kind_of
    f_is_ask := D_is_ask
    f_is_deed := D_is_deed
    f_is_cell := D_is_cell
    f_are_rows := D_are_rows
    f_are_asks := D_are_asks
    f_fault_of := D_fault_of
    f_check_part := D_check_part
    f_calls_of := D_calls_of
    f_right := D_right }
theorem facts (X : K.In h) (G : h.Ns mainGlobals mg) (c : He.SaysX faD fnD tsD [] exD w h K) {f : Addr} (hf : mg ("law" : Str) = some (.ref f)) :
    ∃ fd : FuncData, (∀ (s : Shared) (v : Value), BindsTo s fd ⟨[v], []⟩ [("_law_script", v)]) ∧ ∀ base : Heap, FnOk P w K mg base CX0 20 f fd ["_law_script"] (spLaw K) := by
  have T := txt_of X G c
  have D_law_mix : DefT K mg "_law_mix" s_law_mix := by
    obtain ⟨fd, F⟩ := c.t.d.def_ 17 (d := d_law_mix) rfl
    exact ⟨_, fd, He.glo_ok X G (c.t.d.fact 17 (f := .glo "_law_mix") rfl), F⟩
  have D_law_next : DefT K mg "_law_next" s_law_next := by
    obtain ⟨fd, F⟩ := c.t.d.def_ 18 (d := d_law_next) rfl
    exact ⟨_, fd, He.glo_ok X G (c.t.d.fact 18 (f := .glo "_law_next") rfl), F⟩
  have D_law_alike : DefT K mg "_law_alike" s_law_alike := by
    obtain ⟨fd, F⟩ := c.t.d.def_ 19 (d := d_law_alike) rfl
    exact ⟨_, fd, He.glo_ok X G (c.t.d.fact 19 (f := .glo "_law_alike") rfl), F⟩
  have D_law_leaf : DefT K mg "_law_leaf" s_law_leaf := by
    obtain ⟨fd, F⟩ := c.t.d.def_ 20 (d := d_law_leaf) rfl
    exact ⟨_, fd, He.glo_ok X G (c.t.d.fact 20 (f := .glo "_law_leaf") rfl), F⟩
  have D_law_call : DefT K mg "_law_call" s_law_call := by
    obtain ⟨fd, F⟩ := c.t.d.def_ 21 (d := d_law_call) rfl
    exact ⟨_, fd, He.glo_ok X G (c.t.d.fact 21 (f := .glo "_law_call") rfl), F⟩
  have D_law_body : DefT K mg "_law_body" s_law_body := by
    obtain ⟨fd, F⟩ := c.t.d.def_ 22 (d := d_law_body) rfl
    exact ⟨_, fd, He.glo_ok X G (c.t.d.fact 22 (f := .glo "_law_body") rfl), F⟩
  have D_law_reckons : DefT K mg "_law_reckons" s_law_reckons := by
    obtain ⟨fd, F⟩ := c.t.d.def_ 23 (d := d_law_reckons) rfl
    exact ⟨_, fd, He.glo_ok X G (c.t.d.fact 23 (f := .glo "_law_reckons") rfl), F⟩
  have D_law_calls : DefT K mg "_law_calls" s_law_calls := by
    obtain ⟨fd, F⟩ := c.t.d.def_ 24 (d := d_law_calls) rfl
    exact ⟨_, fd, He.glo_ok X G (c.t.d.fact 24 (f := .glo "_law_calls") rfl), F⟩
  have D_law_used : DefT K mg "_law_used" s_law_used := by
    obtain ⟨fd, F⟩ := c.t.d.def_ 25 (d := d_law_used) rfl
    exact ⟨_, fd, He.glo_ok X G (c.t.d.fact 25 (f := .glo "_law_used") rfl), F⟩
  have D_law_part : DefT K mg "_law_part" s_law_part := by
    obtain ⟨fd, F⟩ := c.t.d.def_ 26 (d := d_law_part) rfl
    exact ⟨_, fd, He.glo_ok X G (c.t.d.fact 26 (f := .glo "_law_part") rfl), F⟩
  have D_law_shelf : DefT K mg "_law_shelf" s_law_shelf := by
    obtain ⟨fd, F⟩ := c.t.d.def_ 27 (d := d_law_shelf) rfl
    exact ⟨_, fd, He.glo_ok X G (c.t.d.fact 27 (f := .glo "_law_shelf") rfl), F⟩
  have D_law_full : DefT K mg "_law_full" s_law_full := by
    obtain ⟨fd, F⟩ := c.t.d.def_ 28 (d := d_law_full) rfl
    exact ⟨_, fd, He.glo_ok X G (c.t.d.fact 28 (f := .glo "_law_full") rfl), F⟩
  have D_law_reckoned : DefT K mg "_law_reckoned" s_law_reckoned := by
    obtain ⟨fd, F⟩ := c.t.d.def_ 29 (d := d_law_reckoned) rfl
    exact ⟨_, fd, He.glo_ok X G (c.t.d.fact 29 (f := .glo "_law_reckoned") rfl), F⟩
  have D_law_due : DefT K mg "_law_due" s_law_due := by
    obtain ⟨fd, F⟩ := c.t.d.def_ 30 (d := d_law_due) rfl
    exact ⟨_, fd, He.glo_ok X G (c.t.d.fact 30 (f := .glo "_law_due") rfl), F⟩
  have D_law_spoilt : DefT K mg "_law_spoilt" s_law_spoilt := by
    obtain ⟨fd, F⟩ := c.t.d.def_ 31 (d := d_law_spoilt) rfl
    exact ⟨_, fd, He.glo_ok X G (c.t.d.fact 31 (f := .glo "_law_spoilt") rfl), F⟩
  have D_law_deep : DefT K mg "_law_deep" s_law_deep := by
    obtain ⟨fd, F⟩ := c.t.d.def_ 32 (d := d_law_deep) rfl
    exact ⟨_, fd, He.glo_ok X G (c.t.d.fact 32 (f := .glo "_law_deep") rfl), F⟩
  have D_law_big : DefT K mg "_law_big" s_law_big := by
    obtain ⟨fd, F⟩ := c.t.d.def_ 33 (d := d_law_big) rfl
    exact ⟨_, fd, He.glo_ok X G (c.t.d.fact 33 (f := .glo "_law_big") rfl), F⟩
  have D_law_wrapped : DefT K mg "_law_wrapped" s_law_wrapped := by
    obtain ⟨fd, F⟩ := c.t.d.def_ 34 (d := d_law_wrapped) rfl
    exact ⟨_, fd, He.glo_ok X G (c.t.d.fact 34 (f := .glo "_law_wrapped") rfl), F⟩
  have z_len : mg "len" = none := He.free_ok X G (c.t.d.fact 53 (f := .free "len") rfl)
  have z_isinstance : mg "isinstance" = none := He.free_ok X G (c.t.d.fact 52 (f := .free "isinstance") rfl)
  have z_tuple : mg "tuple" = none := He.free_ok X G (c.t.d.fact 61 (f := .free "tuple") rfl)
  have z_int : mg "int" = none := He.free_ok X G (c.t.d.fact 51 (f := .free "int") rfl)
  have z_bool : mg "bool" = none := He.free_ok X G (c.t.d.fact 49 (f := .free "bool") rfl)
  have z_str : mg "str" = none := He.free_ok X G (c.t.d.fact 59 (f := .free "str") rfl)
  have z_any : mg "any" = none := He.free_ok X G (c.t.d.fact 48 (f := .free "any") rfl)
  have z_set : mg "set" = none := He.free_ok X G (c.t.d.fact 57 (f := .free "set") rfl)
  have z_sorted : mg "sorted" = none := He.free_ok X G (c.t.d.fact 58 (f := .free "sorted") rfl)
  have z_list : mg "list" = none := He.free_ok X G (c.t.d.fact 54 (f := .free "list") rfl)
  have z_dict : mg "dict" = none := He.free_ok X G (c.t.d.fact 50 (f := .free "dict") rfl)
  have z_range : mg "range" = none := He.free_ok X G (c.t.d.fact 56 (f := .free "range") rfl)
  have z_max : mg "max" = none := He.free_ok X G (c.t.d.fact 55 (f := .free "max") rfl)
  have z_sum : mg "sum" = none := He.free_ok X G (c.t.d.fact 60 (f := .free "sum") rfl)
  obtain ⟨fd, F⟩ := c.t.d.def_ 35 (d := d_law) rfl
  have e := hf.symm.trans (He.glo_ok X G (c.t.d.fact 35 (f := .glo "law") rfl))
  cases e
  have b := FunD.bindsA (ps := ["_law_script"]) F (fun _ _ _ _ _ _ us hl => match us, hl with | [_], _ => rfl)
  refine ⟨fd, fun s v => b s [v] rfl, fun base => ?_⟩
  have nx := fun i : Addr × Addr => ok_next (P := P) (w := w) (base := base) (ah := i.1) (as := i.2) D_law_next z_len z_max
  have lf := fun i : Addr × Addr => ok_leaf D_law_leaf z_len z_sorted (nx i)
  have bd := fun i : Addr × Addr => ok_body123 D_law_body D_law_call D_law_reckons z_len z_sorted (nx i) (lf i)
  have cs := ok_lcalls (P := P) (w := w) (base := base) D_law_calls z_isinstance z_tuple 4
  have us := ok_used (P := P) (w := w) (base := base) D_law_used z_isinstance z_tuple 4
  have pt := fun i : Addr × Addr => ok_lpart D_law_part z_dict z_sorted z_tuple (nx i) (bd i) cs us
  have sh := fun i : Addr × Addr => ok_shelf D_law_shelf z_dict z_range z_len (nx i) (pt i)
  have fl := fun i : Addr × Addr => ok_full D_law_full z_dict z_list z_len (nx i) (pt i)
  have dp := ok_deep (P := P) (w := w) (base := base) D_law_deep z_max z_isinstance z_tuple 10
  have bg := ok_big (P := P) (w := w) (base := base) D_law_big z_sum z_isinstance z_tuple 10
  have wr := fun i : Addr × Addr => ok_wrapped D_law_wrapped z_range z_int (nx i) dp bg
  have sp := fun i : Addr × Addr => ok_spoilt D_law_spoilt z_range z_len z_isinstance z_tuple (nx i) 4
  have rk := ok_reckoned (P := P) (w := w) (base := base) D_law_reckoned z_isinstance z_tuple 10
  have du := ok_due D_law_due z_dict rk
  have al := ok_alike (P := P) (w := w) (base := base) D_law_alike z_isinstance z_tuple z_list z_str z_int z_bool z_len z_range
  have rt := ok_right (P := P) (base := base) T
  exact ok_law (base := base) F z_range z_len (ok_mix D_law_mix z_list) (Cal.all (0, 0) (hs := fun i => some i) (M := fun i => M_next i.1) nx) (Cal.all (0, 0) (hs := fun i => some i) (M := fun i => M_shelf i.1) sh)
    (Cal.all (0, 0) (hs := fun i => some i) (M := fun i => M_full i.1) fl) (Cal.all (0, 0) (hs := fun i => some i) (M := fun i => M_wrapped i.1) wr) (Cal.all (0, 0) (hs := fun i => some i) (M := fun i => M_spoilt i.1 4) sp) rt du al
end
end Pr
open PySem PySem.W PySem.Calls PyProof.Rows
theorem PySem.Challenge.cw_partdeeds_k02_right_parts_holds : PySem.Challenge.rw_partdeeds_k02_right_parts.Holds := by
  w_on; o_law
  refine HandSHeadRun.head_any (r := OpenLaw.row PySem.Challenge.rw_partdeeds_k02_right_parts) (q := view (OpenLaw.row PySem.Challenge.rw_partdeeds_k02_right_parts).prog [55]) (H := Pr.hkD) (ob := Pr.obD) (M := 6000) (loose := Pr.namesD) (d := HandSHeadRun.topDef (OpenLaw.row PySem.Challenge.rw_partdeeds_k02_right_parts).prog 55) (kwd := []) Pr.obD_eq
    (by kernel_rfl) (fun s => by kernel_rfl) Pr.runD (by kernel_rfl) (by kernel_rfl) (by kernel_rfl) (by rfl) (by first | assumption | decide +kernel) (by decide +kernel) ⟨rfl, rfl, rfl, rfl, rfl, by decide +kernel⟩ ?hw ?hc
  case hw => w_witness2
  case hc =>
    refine L2.walk_ofE (l := PySem.Challenge.rw_partdeeds_k02_right_parts) (n := 63) (k := 20) (x := "_law_script") (CX := L2.CX0) rfl (by decide) (by kernel_rfl) ⟨rfl, by decide, by decide⟩ ?F (fun _ _ _ _ z => z)
    intro w mg fa h Y G hmg0
    obtain ⟨K, KX, c⟩ := Y
    have hmg : mg ("law" : PySem.Str) = some (.ref fa) := by
      have e : (HandSHeadRun.topDef (OpenLaw.row PySem.Challenge.rw_partdeeds_k02_right_parts).prog 55).name = ("law" : PySem.Str) := by kernel_rfl
      rw [← e]
      exact hmg0
    obtain ⟨fd, hb, hF⟩ := Pr.facts (P := (PySem.Challenge.rw_partdeeds_k02_right_parts).prog) (w := w) KX G c hmg
    exact ⟨K, fd, Pr.spLaw K, KX, hb, fun H a ns hl _ hS => ⟨a, ns, rfl, hS, hl, fun _ => rfl⟩, fun base _ _ => hF base⟩
#print axioms PySem.Challenge.cw_partdeeds_k02_right_parts_holds
