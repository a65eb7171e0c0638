import PyProof.Rows.All
import Wide.All
import OpenK.AllK
import Wide.FinOn
import HandS.ForMost
import HandS.Set
import HandS.SetFor
import HandS.TupSets
import KE.KSortTupG
import HandS.SetBool
import HandS.IsInst
import HandS.CallLocal
import HandS.TupAny
import HandS.Zip
import HandS.Defaults
import HandS.More
import HandS.Wide
import HandS.Iter
import HandS.Deep
import HandS.SetKeys
import HandS.Nested
import HandS.DictComp
import KE.DataMinMax
import HandS.SortKw
import PyProof.ListStr
import PyProof.DictUpdate
import KE.KDictPairs
import HandS.HeadHook4
import KE.KExcIs
import HandS.ExcInit
import HandS.ExcField
import KE.KStateDown
import HandS.Head0
import HandS.Head1
import HandS.Head2
import HandS.HeadEnd
import HandS.RaiseMore
import KE.SortKeyHeap
import HandS.Style
import HandS.ExcOwn
import HandS.ExcIs
import HandS.Star
import HandS.Text
import HandS.StrMore
import HandS.Strs
import PyProof.StrBlock2
import HandS.HeadWalk
import PySem.Challenge.RW_partdeeds_k20_texts_that_write_no_tree
set_option Elab.async false
set_option linter.all false
set_option maxRecDepth 100000
set_option maxHeartbeats 1000000
namespace PT
open PySem PySem.Spec PyProof.Rows L2
def tx (e : Int × Value) : Str := match e.2 with
 | .str x _ => x
 | _ => Str.empty
def IsE (w : World) (e : Int × Value) : Prop := ∃ (x : Str) (tk : Tok), e = (hashStr w x, Value.str x tk)
structure Body (w : World) (L : List Str) (es : Array (Int × Value)) : Prop where
 good : ∀ e ∈ es.toList, IsE w e
 nd : (es.toList.map tx).Nodup
 mem : ∀ x, x ∈ es.toList.map tx ↔ x ∈ L
 room : es.size < scanBound
 few : es.size ≤ L.length
def Tab (w : World) (n : Nat) (t : SetTable) : Prop := t.fits n = true ∧ Ris t.place.toList ∧ (w.params.followText "set-order" = true ∨ t.led = true)
def At (w : World) (h : Heap) (a : Addr) (L : List Str) : Prop := ∃ o es ep t, h.get? a = some o ∧ o.ExactSet ∧ o.data = .set es ep t ∧ Body w L es ∧ Tab w es.size t
section
variable {P : Program} {w : World} {h h' : Heap} {a : Addr} {L : List Str} {es : Array (Int × Value)}
theorem At.keep (R : At w h a L) (k : ∀ o, h.get? a = some o → h'.get? a = some o) : At w h' a L := by
 obtain ⟨o, es, ep, t, ho, more⟩ := R
 exact ⟨o, es, ep, t, k o ho, more⟩
theorem At.same {L' : List Str} (R : At w h a L) (l : L.length ≤ L'.length) (e : ∀ x, x ∈ L ↔ x ∈ L') : At w h a L' := by
 obtain ⟨o, es, ep, t, ho, hx, hd, b, tb⟩ := R
 exact ⟨o, es, ep, t, ho, hx, hd, ⟨b.good, b.nd, fun x => (b.mem x).trans (e x), b.room, Nat.le_trans b.few l⟩, tb⟩
theorem elems {l : List (Int × Value)} (g : ∀ e ∈ l, IsE w e) : ElemsOf (PySem.strKind P w) l := by
 intro e he
 obtain ⟨x, tk, rfl⟩ := g e he
 exact ⟨⟨x, PySem.strKind_is P w x tk, rfl⟩, rfl⟩
theorem is_tx {e : Int × Value} (g : IsE w e) (x : Str) : (PySem.strKind P w).is x e.2 = true ↔ tx e = x := by
 obtain ⟨y, tk, rfl⟩ := g
 show (y == x) = true ↔ y = x
 exact beq_iff_eq
theorem mem_tx {l : List (Int × Value)} (g : ∀ e ∈ l, IsE w e) (x : Str) : x ∈ l.map tx ↔ ∃ e ∈ l, (PySem.strKind P w).is x e.2 = true := by
 rw [List.mem_map]
 exact ⟨fun ⟨e, he, q⟩ => ⟨e, he, (is_tx (g e he) x).mpr q⟩, fun ⟨e, he, q⟩ => ⟨e, he, (is_tx (g e he) x).mp q⟩⟩
theorem Body.perm {es' : Array (Int × Value)} (b : Body w L es) (p : es'.toList.Perm es.toList) : Body w L es' where
 good := fun e he => b.good e (p.mem_iff.mp he)
 nd := (p.map tx).nodup_iff.mpr b.nd
 mem := fun x => (p.map tx).mem_iff.trans (b.mem x)
 room := by
  have q := p.length_eq
  rw [Array.length_toList, Array.length_toList] at q
  rw [q]; exact b.room
 few := by
  have q := p.length_eq
  rw [Array.length_toList, Array.length_toList] at q
  rw [q]; exact b.few
end
section
variable {P : Program} {w : World} {A : Around} {E : Value → Shared → Prop} {s : Shared} {a : Addr} {L : List Str}
theorem put {o : Obj} {es es' : Array (Int × Value)} {ep : Nat} {t t' : SetTable} {Q : Unit → Shared → Prop} (ho : s.heap.get? a = some o) (hx : o.ExactSet) (hd : o.data = .set es ep t) (b : Body w L es') (tb : Tab w es'.size t')
  (q : ∀ h', Heap.SameBut a s.heap h' → At w h' a L → (∃ o', h'.get? a = some o' ∧ o'.ExactSet ∧ o'.data = .set es' (ep + 1) t') → Q () { s with heap := h' }) : wpAny (model P w) A (storeSet a es' t') Q E s := by
 have here := L2.store_at (es' := es') (t' := t') ho hd
 exact wpAny_storeSet_of ho hd (q _ (Heap.SameBut.update s.heap a (Obj.putSet es' t')) ⟨_, es', _, t', here, hx, rfl, b, tb⟩ ⟨_, here, hx, rfl⟩) (fits_of_scanBound b.room)
theorem lay {g : Bool → Sem Unit} (hg : ∀ (b : Bool) (z : Shared) (R : Unit → Shared → Prop), R () z → wpAny (model P w) A (g b) R E z) {o : Obj} {es es1 : Array (Int × Value)} {ep : Nat} {t t2 : SetTable}
  (ho : s.heap.get? a = some o) (hx : o.ExactSet) (hd : o.data = .set es ep t) (b : Body w L es1) (tb : Tab w es1.size t2) {dm : Bool} {R : Option Bool → Shared → Prop}
  (hR : ∀ h', Heap.SameBut a s.heap h' → At w h' a L → R (some true) { s with heap := h' }) :
  wpAny (model P w) A (do
   storeSet a es1 t2
   if (!dm && t2.tooFull) = true then do g (relayAll t2 es1 (SetTable.grown es1.size)).2.2; storeSet a (relayAll t2 es1 (SetTable.grown es1.size)).1 (relayAll t2 es1 (SetTable.grown es1.size)).2.1; pure (some true)
   else pure (some true)) R E s := by
 refine wpAny_bind (put ho hx hd b tb fun h1 sb1 at1 ⟨o1, ho1, hx1, hd1⟩ => ?_)
 by_cases full : (!dm && t2.tooFull) = true
 ·rw [if_pos full]
  have p2 := relayAll_perm t2 es1 (SetTable.grown es1.size)
  have f2 := relayAll_fits t2 es1 (SetTable.grown es1.size)
  have r2 := relayAll_ris t2 es1 (SetTable.grown es1.size)
  have l2 := relayAll_led t2 es1 (SetTable.grown es1.size)
  revert p2 f2 r2 l2
  generalize relayAll t2 es1 (SetTable.grown es1.size) = new
  intro p2 f2 r2 l2
  refine wpAny_bind (hg _ _ _ (wpAny_bind ?_))
  refine put (s := { s with heap := h1 }) ho1 hx1 hd1 (b.perm p2) ⟨f2, r2, tb.2.2.imp id fun z => l2.trans z⟩ fun h2 sb2 at2 _ => ?_
  exact wpAny_pure (hR h2 (sb1.trans sb2) at2)
 ·rw [if_neg full]
  exact wpAny_pure (hR h1 sb1 at1)
theorem add {x : Str} {tk : Tok} {Q : Bool → Shared → Prop} (R : At w s.heap a L) (room : L.length + 1 < scanBound)
  (hQ : ∀ b h', Heap.SameBut a s.heap h' → At w h' a (x :: L) → Q b { s with heap := h' }) : wpAny (model P w) A (setAddHashed a (.str x tk) (hashStr w x)) Q E s := by
 obtain ⟨o, es, ep, t, ho, hx, hd, b, tb⟩ := R
 have key : (PySem.strKind P w).is x (.str x tk) = true := PySem.strKind_is P w x tk
 have scn : (Value.str x tk).scannable = true := rfl
 have els : ElemsOf (PySem.strKind P w) es.toList := elems b.good
 unfold setAddHashed setAddHashedIn
 refine wpAny_holding (wpAny_bind (wpAny_setState_of ho hd tb.1 ?_))
 dsimp only
 rw [byScan_of scn b.room els, if_pos rfl]
 unfold setAddByScan
 refine wpAny_bind (wpAny_bind (wpAny_rule (wpAny_bind (wpAny_setScan_of key ho hd tb.1 els ?_))))
 cases found : List.findIdx? (fun e => (PySem.strKind P w).is x e.2) es.toList with
 | some j =>
  obtain ⟨lj, pj, _⟩ := List.findIdx?_eq_some_iff_getElem.mp found
  have old : x ∈ L := (b.mem x).mp ((mem_tx (P := P) b.good x).mpr ⟨_, List.getElem_mem lj, pj⟩)
  have q := hQ false s.heap (Heap.SameBut.refl a s.heap) (At.same ⟨o, es, ep, t, ho, hx, hd, b, tb⟩ (Nat.le_succ _) fun y => by
   rw [List.mem_cons]
   exact ⟨.inr, fun z => z.elim (fun e => by rw [e]; exact old) id⟩)
  dsimp only
  exact wpAny_pure (wpAny_pure q)
 | none =>
  have new : x ∉ es.toList.map tx := fun z => by
   obtain ⟨e, he, q⟩ := (mem_tx (P := P) b.good x).mp z
   rw [List.findIdx?_eq_none_iff.mp found e he] at q
   cases q
  have r1 : es.size + 1 < scanBound := Nat.lt_of_le_of_lt (Nat.succ_le_succ b.few) room
  have p1 := layNew_perm t es (hashStr w x) (.str x tk)
  have f1 := layNew_fits t es (hashStr w x) (.str x tk)
  have i1 := layNew_ris t es (hashStr w x) (.str x tk) tb.2.1
  have l1 := layNew_led t es (hashStr w x) (.str x tk)
  dsimp only
  revert p1 f1 i1 l1
  generalize layNew t es (hashStr w x) (.str x tk) = laid
  intro p1 f1 i1 l1
  obtain ⟨es1, t1, dm, gave⟩ := laid
  dsimp only at p1 f1 i1 l1 ⊢
  rw [Array.toList_push] at p1
  have pc : es1.toList.Perm ((hashStr w x, Value.str x tk) :: es.toList) := p1.trans (List.perm_append_singleton _ _)
  have px : (es1.toList.map tx).Perm (x :: es.toList.map tx) := pc.map tx
  have n1 : es1.size = es.size + 1 := by
   have q := pc.length_eq
   rw [List.length_cons, Array.length_toList, Array.length_toList] at q
   exact q
  have b1 : Body w (x :: L) es1 := {
   good := fun e he => by
    rcases List.mem_cons.mp (pc.mem_iff.mp he) with z | z
    ·exact ⟨x, tk, z⟩
    ·exact b.good e z
   nd := px.nodup_iff.mpr (List.nodup_cons.mpr ⟨new, b.nd⟩)
   mem := fun y => by rw [px.mem_iff, List.mem_cons, List.mem_cons, b.mem y]
   room := by rw [n1]; exact r1
   few := by rw [n1]; exact Nat.succ_le_succ b.few }
  have led1 : w.params.followText "set-order" = true ∨ t1.led = true := tb.2.2.imp id fun z => l1.trans z
  have quiet : ∀ (c : Bool) (z : Shared) (R : Unit → Shared → Prop), R () z → wpAny (model P w) A (match c with | true => rule "set.scan.the-table-gave-way" | false => pure ()) R E z := by
   intro c z R q
   cases c
   ·exact wpAny_pure q
   ·exact wpAny_rule q
  refine wpAny_bind (quiet _ _ _ ?_)
  by_cases pl : t1.plain = true
  ·rw [if_pos pl]
   refine wpAny_bind ?_
   rw [hashByValue_scannable 8 scn]
   refine wpAny_pure ?_
   have tb' : Tab w es1.size (if plainKind (Value.str x tk) = true then t1 else { t1 with plain := false }) := by
    cases plainKind (Value.str x tk)
    ·exact ⟨SetTable.fits_plain_off f1, i1, led1⟩
    ·exact ⟨f1, i1, led1⟩
   exact lay quiet ho hx hd b1 tb' fun h' sb at' => wpAny_pure (hQ true h' sb at')
  ·rw [if_neg pl]
   refine wpAny_bind (wpAny_pure ?_)
   rw [if_pos rfl]
   exact lay quiet ho hx hd b1 ⟨f1, i1, led1⟩ fun h' sb at' => wpAny_pure (hQ true h' sb at')
theorem fill {I : Addr} {fp wr : List Addr} {Gn : Array GenState → Array GenState → Prop} {n : Nat} {Pv : Nat → Value → Prop} {St : Nat → Shared → Prop} {R : Result → Shared → Prop}
  (W : WalksS P w A.in1 I fp wr Gn n Pv St) (c : Addr) (cf : c ∉ fp) (ss : List Str) (hn : n = ss.length) (hb : ss.length + 1 < scanBound) (hv : ∀ i v, Pv i v → ∃ x t, ss[i]? = some x ∧ v = .str x t) :
  ∀ (left i : Nat) (z : Shared), i + left = n → St i z → At w z.heap c (ss.take i).reverse → (∀ z', Moved (c :: wr) Gn z z' → At w z'.heap c ss.reverse → R (.ok (.ret .none)) z') →
   codeAny (model P w) A (.builtin "set.update.loop" ⟨[.ref c, .ref I], []⟩) R z := by
 have cw : c ∉ wr := fun q => cf (W.sub _ q)
 intro left
 induction left with
 | zero =>
  intro i z e st at' go
  refine codeAny_builtin F.entry_set_update_loop ?_
  rw [Around.under_plainId F.plain_set_update_loop _]
  have ei : i = n := e
  subst ei
  refine wpAny_bind (m := pyNext (.ref I)) (W.done z _ _ st fun z' mv => ?_)
  rw [List.take_of_length_le (Nat.le_of_eq hn.symm)] at at'
  refine wpAny_pure (go z' (mv.mono fun b hb => List.mem_cons_of_mem _ hb) (at'.keep fun o eo => mv.heap c o cw eo))
 | succ left ih =>
  intro i z e st at' go
  have lt : i < n := by omega
  refine codeAny_builtin F.entry_set_update_loop ?_
  rw [Around.under_plainId F.plain_set_update_loop _]
  refine wpAny_bind (m := pyNext (.ref I)) (W.item i z _ _ lt st fun v z' hP st' mv => ?_)
  obtain ⟨x, t, ex, rfl⟩ := hv i v hP
  have at1 := at'.keep fun o eo => mv.heap c o cw eo
  refine wpAny_bind (m := holding [Value.str x t] (setAdd c (.str x t))) (wpAny_holding ?_)
  unfold setAdd
  refine wpAny_holding (wpAny_bind ((PySem.strKind P w).pyHash (k := x) (PySem.strKind_is _ _ _ _) ?_))
  have room : (ss.take i).reverse.length + 1 < scanBound := by
   rw [List.length_reverse, List.length_take]
   omega
  refine add (s := { z' with toks := z'.toks + 1 }) at1 room fun b h' sb at2 => ?_
  have el : x :: (ss.take i).reverse = (ss.take (i + 1)).reverse := by rw [List.take_add_one, ex]; simp
  rw [el] at at2
  refine wpAny_pure ⟨plainId_quiet F.plain_set_update_loop _, ih (i + 1) _ (by omega) (W.frame _ z' _ _ st' (Nat.le_succ _) fun u hu o eo => ?_) at2 fun z2 mv2 at3 => ?_⟩
  ·rw [sb.2 u fun q => cf (q ▸ hu)]; exact eo
  ·refine go z2 (Moved.trans W.gtrans ((mv.mono fun b hb => List.mem_cons_of_mem _ hb).then_heap (Nat.le_succ _) fun u o hu eo => ?_) mv2) at3
   rw [sb.2 u fun q => hu (q ▸ List.mem_cons_self)]; exact eo
abbrev bare (w : World) : Obj := { cls := .type "set", dict := none, data := .set #[] 0 (.fresh 0 0 (!w.params.followText "set-order")) }
theorem at_bare {h : Heap} {c : Addr} (ho : h.get? c = some (bare w)) : At w h c [] := by
 refine ⟨_, #[], 0, _, ho, ⟨rfl, rfl, rfl⟩, rfl, ⟨fun e he => by simp at he, by simp, fun x => by simp, by decide, Nat.le_refl _⟩, by rfl, List.Pairwise.nil, ?_⟩
 cases q : w.params.followText "set-order"
 ·exact .inr rfl
 ·exact .inl rfl
abbrev made (w : World) (s : Shared) : Shared := { s with heap := s.heap.push (bare w) }
theorem strs_get : ∀ {us : List Value} {ss : List Str}, StrsAre us ss → us.length = ss.length ∧ ∀ (i : Nat) (v : Value), us[i]? = some v → ∃ x t, ss[i]? = some x ∧ v = .str x t
 | _, _, .nil => ⟨rfl, fun i v e => by simp at e⟩
 | _, _, .cons y t r => by
  obtain ⟨h1, h2⟩ := strs_get r
  refine ⟨congrArg (· + 1) h1, fun i v e => ?_⟩
  cases i with
  | zero => simp at e; exact ⟨y, t, rfl, e.symm⟩
  | succ i => exact h2 i v (by simpa using e)
end
end PT
set_option Elab.async false
set_option linter.all false
set_option maxRecDepth 100000
namespace PT
open PySem PySem.Spec PyProof.Rows L2
section
variable {P : Program} {w : World} {A : Around} {E : Value → Shared → Prop} {s : Shared} {a : Addr} {L : List Str}
set_option maxHeartbeats 4000000 in
theorem set_of_list {l : Addr} {items : Array Value} (ss : List Str) {Q : Value → Shared → Prop} (hh : A.handled = none) (hl : s.heap.IsList l items) (hi : StrsAre items.toList ss) (hb : ss.length + 1 < scanBound)
  (go : ∀ h' tk, At w h' s.heap.objs.size ss.reverse → (∀ b o, s.heap.get? b = some o → h'.get? b = some o) → Q (.ref s.heap.objs.size) { s with heap := h', toks := tk }) :
  wpAny (model P w) A (call (.type "set") [.ref l]) Q E s := by
 obtain ⟨lenE, vals⟩ := strs_get hi
 have c0 := F.called_set
 obtain ⟨cc, tl, order⟩ := c0.mro
 have ⟨q1, q2, q3, q4⟩ := And.intro c0.made (And.intro c0.sub (And.intro c0.notType c0.canCreate))
 have q5 := F.typeCall_set_1 (.ref l)
 apply wpAny_call; apply codeAny_of_tree
 refine wpAny_pure (Q := _) (show _ from ⟨Code.quiet_builtin _ (by decide +kernel), codeAny_builtin F.entry_type_call ?_⟩)
 rw [Around.under_plain (PySem.weight_type_call_type "set" [.ref l] []) rfl]
 repeat (any_goals (first | assumption | wp_step))
 refine codeAny_mono (code_set_led1 (.ref l) (E := E) (Q₁ := fun ob z => ob = .ref s.heap.objs.size ∧ z = made w s) ⟨rfl, rfl⟩) fun r z hr => ?_
 match r, hr with
 | .error e, hr => exact hr
 | .ok .next, hr => exact hr.elim
 | .ok .brk, hr => exact hr.elim
 | .ok .cont, hr => exact hr.elim
 | .ok (.ret ob), hr =>
  obtain ⟨rfl, rfl⟩ := hr
  have hS : (made w s).heap.get? s.heap.objs.size = some (bare w) := Heap.get?_push_size _ rfl
  have hT : (made w s).TypeIs (.ref s.heap.objs.size) "set" := ⟨_, hS, rfl⟩
  have q6 := c0.init.lookup
  have q7 := c0.init.bind (.ref s.heap.objs.size)
  repeat (any_goals (first | assumption | wp_step))
  refine codeAny_mono (codeAny_call_builtin (R := wants (fun r z => r = .none ∧ ∃ h' tk, z = { s with heap := h', toks := tk } ∧ At w h' s.heap.objs.size ss.reverse ∧ ∀ b o, s.heap.get? b = some o → h'.get? b = some o) E) c0.init.plain F.entry_set_init (PySem.check_set_init_1 hT ?_)) fun r2 z2 hr2 => ?_
  ·have ll : l < s.heap.objs.size := by
    obtain ⟨_, e, _⟩ := hl
    exact Heap.lt_size e
   have hl1 : (made w s).heap.IsList l items := hl.push _
   obtain ⟨ol, e1, e2, nl, e3⟩ := id hl1
   obtain ⟨ocls, odict, odata, oslots⟩ := ol
   simp only at e2 e3
   subst e2 e3
   have n1 := F.sub_list_set
   have n2 := F.sub_list_frozenset
   have n3 : (Value.type "list" == Value.type "dict") = false := by decide
   unfold Builtin.«set.__init__» noKeywords Builtin.Frozenset.updateFrom
   generalize hPI : pyIter = PI
   wp_walk
   subst hPI
   refine wpAny_pyIter_list hl1 (wpAny_bind (wpAny_runValue ?_))
   have big : (made w s).heap.objs.size = s.heap.objs.size + 1 := Heap.size_push ..
   have ne1 : l ≠ (made w s).heap.objs.size := by rw [big]; exact Nat.ne_of_lt (Nat.lt_succ_of_lt ll)
   have ne2 : s.heap.objs.size ∉ [(made w s).heap.objs.size, l] := by
    rw [big]
    simp only [List.mem_cons, List.not_mem_nil, or_false, not_or]
    exact ⟨Nat.ne_of_lt (Nat.lt_succ_self _), Nat.ne_of_gt ll⟩
   have hh3 : A.in1.in1.in1.handled = none := by simp [hh]
   have itl : items.size = ss.length := by rw [← lenE, Array.length_toList]
   refine fill ((Walks.list hh3 _ l ne1 items).toS) s.heap.objs.size ne2 ss itl hb (fun i v e => vals i v (by rw [Array.getElem?_toList]; exact e)) items.size 0 _ (Nat.zero_add _)
    ⟨⟨_, Heap.get?_push_size _ rfl, rfl, rfl⟩, hl1.push _⟩ (at_bare (Heap.get?_push_of_some _ hS)) fun z mv at' => ?_
   obtain ⟨h', gz, dz, tz, oz⟩ := z
   obtain rfl : gz = s.gens := mv.gens
   obtain rfl : dz = s.drawn := mv.drawn
   obtain rfl : oz = s.os := mv.os
   refine wpAny_pure (wpAny_pure ⟨rfl, h', tz, rfl, at', fun b o e => ?_⟩)
   have lb := Heap.lt_size e
   refine mv.heap b o ?_ (Heap.get?_push_of_some _ (Heap.get?_push_of_some _ e))
   simp only [List.mem_cons, List.not_mem_nil, or_false, not_or]
   exact ⟨Nat.ne_of_lt lb, by rw [big]; exact Nat.ne_of_lt (Nat.lt_succ_of_lt lb)⟩
  ·match r2, hr2 with
   | .error e, hr2 => exact hr2
   | .ok .next, hr2 => exact hr2.elim
   | .ok .brk, hr2 => exact hr2.elim
   | .ok .cont, hr2 => exact hr2.elim
   | .ok (.ret ob), hr2 =>
    obtain ⟨rfl, h', tk, rfl, at', kp⟩ := hr2
    repeat (any_goals (first | assumption | wp_step))
    exact go h' tk at' kp
end
end PT
set_option Elab.async false
set_option linter.all false
set_option maxRecDepth 100000
set_option maxHeartbeats 1000000
namespace PT
open PySem PySem.Spec PyProof.Rows L2
section
variable {P : Program} {w : World} {A : Around} {E : Value → Shared → Prop} {s : Shared} {a : Addr} {L : List Str}
theorem nodup_le {α : Type} [DecidableEq α] : ∀ {l m : List α}, l.Nodup → (∀ x ∈ l, x ∈ m) → l.length ≤ m.length
 | [], _, _, _ => Nat.zero_le _
 | x :: l, m, d, h => by
  obtain ⟨d1, d2⟩ := List.nodup_cons.mp d
  have hm : x ∈ m := h x List.mem_cons_self
  have q := nodup_le (l := l) (m := m.erase x) d2 fun y hy => (List.mem_erase_of_ne (fun e : y = x => d1 (by rw [← e]; exact hy))).mpr (h y (List.mem_cons_of_mem _ hy))
  rw [List.length_erase_of_mem hm] at q
  have := List.length_pos_of_mem hm
  rw [List.length_cons]
  omega
theorem strs_tx {l : List (Int × Value)} (g : ∀ e ∈ l, IsE w e) : ∀ {vs : List Value}, (∀ v ∈ vs, ∃ e ∈ l, e.2 = v) → StrsAre vs (vs.map strOf) := fun {vs} h => strsAre_map vs fun v hv => by
 obtain ⟨e, he, rfl⟩ := h v hv
 obtain ⟨x, t, rfl⟩ := g e he
 exact ⟨x, t, rfl⟩
theorem sorted_of {Q : Value → Shared → Prop} (R : At w s.heap a L) (hh : A.handled = none) (few : L.length < 64)
  (go : ∀ s' p (out : Array Value) (c : Nat) (ys : List Str), (∀ b o, s.heap.get? b = some o → s'.heap.get? b = some o) → s'.gens = s.gens → s'.os = s.os → s.heap.objs.size ≤ p →
   s'.heap.get? p = some (seqObj "list" out c) → StrsAre out.toList ys → sortedS ys = true → ys.Nodup → (∀ x, x ∈ ys ↔ x ∈ L) → Q (.ref p) s') : wpAny (model P w) A (call (.builtin "sorted") [.ref a]) Q E s := by
 obtain ⟨o, es, ep, t, ho, hx, hd, b, f1, f2, f3⟩ := R
 have n64 : es.size < 64 := Nat.lt_of_le_of_lt b.few few
 apply Calls.call_function_entry kind_sorted plain_sorted entry_sorted (args_sorted1 _)
 unfold Builtin.«sorted»
 refine wpAny_bind (m := checkCount "sorted" 1 1 _) (wpAny_pure (wpAny_bind (collect_set (A := A.in1) hh ⟨o, ho, hx.1, hd⟩ f1 b.room f2 f3 fun z vs kz sz gz oz pm => ?_)))
 have len : vs.length = es.size := by rw [pm.length_eq, List.length_map, Array.length_toList]
 have txt : StrsAre vs (vs.map strOf) := strs_tx b.good fun v hv => by
  obtain ⟨e, he, q⟩ := List.mem_map.mp (pm.mem_iff.mp hv)
  exact ⟨e, he, q⟩
 have same : (vs.map strOf).Perm (es.toList.map tx) := by
  have q := pm.map strOf
  rw [List.map_map] at q
  refine q.trans (List.Perm.of_eq (List.map_congr_left fun e he => ?_))
  obtain ⟨x, t, rfl⟩ := b.good e he
  rfl
 refine wpAny_bind (wpAny_newList ?_ (by rw [len, sizeLine_eq]; omega))
 have here : (z.heap.push (seqObj "list" vs.toArray 0)).get? z.heap.objs.size = some (seqObj "list" vs.toArray 0) := Heap.get?_push_size _ rfl
 refine wpAny_bind (wpAny_holding (wpAny_call_entry slot_list_sort ⟨_, here, rfl⟩ entry_list_sort (list_sort_treeK strKind_oneLt here txt.keysOf (fun v₁ v₂ rest e => keyKind_strs (by rw [← e]; exact txt)) (by rw [len]; exact n64) fun st' hp hs => ⟨_, rfl, ?_⟩) (args_list_sort _)))
 obtain ⟨ys, y1, y2, y3⟩ := sorted_out_str txt hp hs
 obtain ⟨c, hc⟩ := sortedHeap_at (vs := vs) (out := (arrOf st').map (·.2)) here
 have yp : ys.Perm (es.toList.map tx) := y2.trans same
 refine wpAny_pure ⟨_, rfl, go _ z.heap.objs.size _ c ys (fun u o e => ?_) gz oz sz hc y1 y3 (yp.nodup_iff.mpr b.nd) (fun x => yp.mem_iff.trans (b.mem x))⟩
 have e1 := kz u o e
 have lt := Heap.lt_size e1
 refine (sortedHeap_old (Nat.ne_of_lt lt) ?_).trans (Heap.get?_push_of_some _ e1)
 rw [size_push']; exact Nat.lt_succ_of_lt lt
end
def SetTx (w : World) (a : Addr) (L : List Str) : HO := .ext fun h => At w h a L
theorem setTx_new {w : World} {P : Program} {H : Hp} {h : Heap} {a : Addr} {L : List Str} (R : At w h a L) : ObjOk P w H h a (SetTx w a L) := by
 have ⟨o, _, _, _, ho, _⟩ := R
 exact ⟨R, ⟨o, ho⟩, fun _ _ p k => At.keep p k⟩
def rSetTx (K : PySem.W.Frag) (w : World) : List V → Hp → VK → Prop := fun xs H Q => ∃ (l : Addr) (ss : List Str), xs = [V.ref l] ∧ SqL K H l (ss.map V.str) ∧ ss.length ≤ 60 ∧ ∀ a, H a = none → Q (.ref a) (upd H a (SetTx w a ss.reverse))
theorem cr_setTx {X : Cx} (hc : X.calm = true) : CallR X (.type "set") (rSetTx X.K X.w) := by
 intro pins s σ H xs us Q I r ⟨l, ss, ex, hl, few, q⟩
 subst ex
 rw [Vals.ref1 r]
 obtain ⟨its, rv, pl, _⟩ := I.list hl
 have free : H s.heap.objs.size = none := I.hok.fresh (Nat.le_refl _)
 have room : ss.length + 1 < scanBound := Nat.lt_of_le_of_lt (Nat.succ_le_succ few) (by decide)
 refine set_of_list ss (I.ok.hd hc) pl.isList (by simpa using rv.strs) room fun h' tk at' kp => ?_
 exact ⟨.ref _, upd H _ (SetTx X.w _ ss.reverse), I.laid (t' := tk) kp (Nat.le_refl _) (setTx_new at'), rfl, q _ free⟩
def rSortedTx (w : World) : List V → Hp → VK → Prop := fun xs H Q => ∃ (a : Addr) (L : List Str), xs = [V.ref a] ∧ H a = some (SetTx w a L) ∧ L.length < 64 ∧
 ∀ (ys : List Str) (p : Addr), sortedS ys = true → ys.Nodup → (∀ x, x ∈ ys ↔ x ∈ L) → H p = none → Q (.ref p) (upd H p (.lst (ys.map V.str)))
theorem cr_sortedTx {X : Cx} (hc : X.calm = true) : CallR X (.builtin "sorted") (rSortedTx X.w) := by
 intro pins s σ H xs us Q I r ⟨a, L, ex, ha, few, q⟩
 subst ex
 rw [Vals.ref1 r]
 have at' : At X.w s.heap a L := (I.hok a _ ha).1
 refine sorted_of at' (I.ok.hd hc) few fun s' p out c ys kp g o sz hp st y1 y2 y3 => ?_
 have free : H p = none := I.hok.fresh sz
 have short : (ys.map V.str).length ≤ sizeLine := by
  obtain ⟨o', es, ep, t, ho, hx, hd, b, _⟩ := at'
  have h1 : ys.length ≤ L.length := (nodup_le y2 fun x hx => (y3 x).mp hx)
  rw [List.length_map, sizeLine_eq]
  omega
 have J : Inv X pins σ (upd H p (.lst (ys.map V.str))) { s with heap := s'.heap, gens := s'.gens, drawn := s'.drawn, toks := s'.toks } :=
  I.call (ch := []) (Un.laid kp sz free) (I.hok.laid kp sz ⟨short, out.toList, c, vals_of_strs st, hp⟩) (by rw [g]; exact I.bare) (fun _ z => nomatch z)
 have back : s' = { s with heap := s'.heap, gens := s'.gens, drawn := s'.drawn, toks := s'.toks } := by
  cases s'; cases s; cases o; rfl
 rw [back]
 exact ⟨.ref p, _, J, rfl, q ys p y1 y2 y3 free⟩
end PT
set_option Elab.async false
set_option linter.all false
set_option maxRecDepth 100000
set_option maxHeartbeats 1000000
namespace PTT
open PySem PySem.Spec PyProof.Rows L2
abbrev TS := List Str
abbrev hsh (P : Program) (w : World) (k : TS) : Int := tupleKeyHash (PySem.strKind P w) k
abbrev TAt (P : Program) (w : World) (h : Heap) (k : TS) (b : Addr) : Prop := IsTupleKey (PySem.strKind P w) h k b
section
variable {P : Program} {w : World} {A : Around} {E : Value → Shared → Prop} {s : Shared}
theorem texts {k : TS} {vs : List Value} (h : ItemsAre (PySem.strKind P w) k vs) : ∀ v ∈ vs, ∃ x t, v = Value.str x t := by
 induction h with
 | nil => exact fun v hv => (by cases hv)
 | @cons x0 v0 _ _ h1 _ ih =>
  intro v hv
  rcases List.mem_cons.mp hv with rfl | hv
  ·obtain ⟨t, e⟩ := Value.isStrOf_shape h1
   exact ⟨_, t, e⟩
  ·exact ih v hv
theorem noClass {k : TS} {b : Addr} {Q : Bool → Shared → Prop} (hk : TAt P w s.heap k b) (q : Q false s) : wpAny (model P w) A (ofAClassStatement 8 (.ref b)) Q E s := by
 have ty := hk.typeIs
 obtain ⟨ob, its, n, hob, _, hd, hi⟩ := hk
 unfold ofAClassStatement
 refine wpAny_bind (wpAny_typeOf ty ?_)
 have e1 : ("tuple" == "tuple") = true := by decide
 dsimp only
 rw [if_pos e1]
 refine wpAny_bind (wpAny_pure ?_)
 rw [if_neg (by decide)]
 try refine wpAny_bind (wpAny_pure ?_)
 refine wpAny_bind (m := seqItems? (.ref b)) (wpAny_seqItems hob hd ?_)
 dsimp only
 refine wpAny_bind ?_
 show wpAny (model P w) A (forIn its _ _) _ E s
 rw [← Array.forIn_toList]
 refine wpAny_forIn_list _ (fun left r z => (r.1 = none ∧ z = s) ∧ ∀ v ∈ left, ∃ x t, v = Value.str x t) _ ?_ ?_ _ _ ⟨⟨rfl, rfl⟩, texts hi⟩
 ·rintro v left r z ⟨⟨r0, rfl⟩, all⟩
  obtain ⟨x, t, rfl⟩ := all v List.mem_cons_self
  have e2 : ofAClassStatement 7 (.str x t) = pure false := rfl
  rw [e2]
  refine wpAny_bind (wpAny_pure ?_)
  rw [if_neg (by decide)]
  exact wpAny_pure ⟨⟨rfl, rfl⟩, fun u hu => all u (List.mem_cons_of_mem _ hu)⟩
 ·rintro ⟨r1, r2⟩ z ⟨⟨r0, rfl⟩, _⟩
  obtain rfl : r1 = none := r0
  exact wpAny_pure q
theorem byVal {k : TS} {b : Addr} {Q : Bool → Shared → Prop} (hk : TAt P w s.heap k b) (q : ∀ r, Q r s) : wpAny (model P w) A (hashByValue 8 (.ref b)) Q E s := by
 have ty := hk.typeIs
 obtain ⟨ob, its, n, hob, _, hd, hi⟩ := hk
 unfold hashByValue
 refine wpAny_bind (wpAny_specialOf ty F.slot_tuple_hash.lookup ?_)
 dsimp only
 refine wpAny_bind (m := seqItems? (.ref b)) (wpAny_seqItems hob hd ?_)
 refine wpAny_bind ?_
 show wpAny (model P w) A (forIn its _ _) _ E s
 rw [← Array.forIn_toList]
 have tx := texts hi
 revert tx
 generalize its.toList = l
 intro tx
 cases l with
 | nil =>
  rw [List.forIn_nil]
  refine wpAny_pure ?_
  exact wpAny_pure (q _)
 | cons v l =>
  obtain ⟨x, t, rfl⟩ := tx v List.mem_cons_self
  rw [List.forIn_cons]
  have e2 : hashByValue 7 (.str x t) = pure false := by unfold hashByValue; rfl
  rw [e2]
  refine wpAny_bind (wpAny_bind (wpAny_pure ?_))
  rw [if_pos (by decide)]
  refine wpAny_pure ?_
  dsimp only
  refine wpAny_pure ?_
  exact wpAny_pure (q _)
theorem unseen {k : TS} {b : Addr} {Q : Bool → Shared → Prop} (hk : TAt P w s.heap k b) {ys : List Value} (hy : ∀ y ∈ ys, ∃ k' c, y = Value.ref c ∧ TAt P w s.heap k' c) (q : Q false s) :
  wpAny (model P w) A (searchCouldBeSeen (.ref b) ys) Q E s := by
 unfold searchCouldBeSeen
 refine wpAny_bind ?_
 refine wpAny_forIn_list _ (fun left r z => (r.1 = none ∧ z = s) ∧ ∀ y ∈ left, ∃ k' c, y = Value.ref c ∧ TAt P w s.heap k' c) _ ?_ ?_ _ _ ⟨⟨rfl, rfl⟩, hy⟩
 ·rintro v left r z ⟨⟨r0, rfl⟩, all⟩
  obtain ⟨k', c, rfl, hc⟩ := all v List.mem_cons_self
  have more : ∀ y ∈ left, ∃ k' c, y = Value.ref c ∧ TAt P w z.heap k' c := fun u hu => all u (List.mem_cons_of_mem _ hu)
  dsimp only
  by_cases e : (b == c || (carriedByValue (.ref b) && carriedByValue (.ref c))) = true
  ·exact wp_if_pos e (wpAny_pure ⟨⟨rfl, rfl⟩, more⟩)
  ·refine wp_if_neg e (wpAny_bind (wpAny_eqIsQuiet_tuple hk ?_))
   rw [if_neg (by decide)]
   try refine wpAny_bind (wpAny_pure ?_)
   refine wpAny_bind (wpAny_eqIsQuiet_tuple hc ?_)
   rw [if_neg (by decide)]
   try refine wpAny_bind (wpAny_pure ?_)
   refine wpAny_bind (noClass hk ?_)
   rw [if_neg (by decide)]
   try refine wpAny_bind (wpAny_pure ?_)
   refine wpAny_bind (noClass hc ?_)
   rw [if_neg (by decide)]
   exact wpAny_pure ⟨⟨rfl, rfl⟩, more⟩
 ·rintro ⟨r1, r2⟩ z ⟨⟨r0, rfl⟩, _⟩
  obtain rfl : r1 = none := r0
  exact wpAny_pure q
end
end PTT
set_option Elab.async false
set_option linter.all false
set_option maxRecDepth 100000
set_option maxHeartbeats 2000000
namespace PTT
open PySem PySem.Spec PyProof.Rows L2
abbrev Rw := Addr × TS
abbrev ent (P : Program) (w : World) (p : Rw) : Int × Value := (hsh P w p.2, .ref p.1)
abbrev hs_ (P : Program) (w : World) (L : List Rw) : List Int := L.map fun p => hsh P w p.2
structure Hold (P : Program) (w : World) (h : Heap) (c : Addr) (L : List Rw) (es : Array (Int × Value)) (ep : Nat) (t : SetTable) : Prop where
 obj : ∃ o, h.get? c = some o ∧ o.ExactSet ∧ o.data = .set es ep t
 all : es.toList = L.map (ent P w)
 tab : TabOk t (hs_ P w L)
 nd : (L.map Prod.snd).Nodup
 at_ : ∀ p ∈ L, TAt P w h p.2 p.1
 led : w.params.followText "set-order" = true ∨ t.led = true
 room : L.length * 5 < t.mask * 3
 few : L.length < 70
section
variable {P : Program} {w : World} {A : Around} {E : Value → Shared → Prop} {s : Shared} {c : Addr} {L : List Rw} {es : Array (Int × Value)} {ep : Nat} {t : SetTable}
theorem Hold.many {h : Heap} (R : Hold P w h c L es ep t) : es.size = L.length := by
 rw [← Array.length_toList, R.all, List.length_map]
theorem fits_of {n : Nat} (h1 : t.place.size = n) (h2 : t.dummies = #[]) (h3 : n ≤ t.mask) : t.fits n = true := by
 unfold SetTable.fits SetTable.fill
 rw [h2, Bool.and_eq_true, beq_iff_eq, decide_eq_true_eq]
 exact ⟨h1, by show t.place.size + 0 ≤ _; omega⟩
theorem Hold.fits {h : Heap} (R : Hold P w h c L es ep t) : t.fits es.size = true := by
 have a := R.tab.sz
 have b := R.many
 have d := R.room
 rw [List.length_map] at a
 exact fits_of (by omega) R.tab.dm (by omega)
theorem Hold.ith {h : Heap} (R : Hold P w h c L es ep t) {i : Nat} {p : Rw} (e : L[i]? = some p) : es[i]? = some (ent P w p) := by
 rw [← Array.getElem?_toList, R.all, List.getElem?_map, e]
 rfl
theorem Hold.stay {h h' : Heap} (R : Hold P w h c L es ep t) (k : ∀ o, h.get? c = some o → h'.get? c = some o) (q : ∀ p ∈ L, TAt P w h' p.2 p.1) : Hold P w h' c L es ep t := by
 obtain ⟨o, ho, r⟩ := R.obj
 exact { R with obj := ⟨o, k o ho, r⟩, at_ := q }
theorem noDummy (t : SetTable) (h : Int) : ∀ k, (nth t.mask (runAt t.mask (SetTable.bits h % (t.mask + 1)) (SetTable.bits h)) k).dummy = none := by
 have step : ∀ (n : Nat) (p : SetTable.Probe), p.dummy = none → (nth t.mask p n).dummy = none := by
  intro n
  induction n with
  | zero => exact fun p q => q
  | succ n ih =>
   refine fun p q => ih (adv t.mask p) ?_
   unfold adv
   split
   ·exact q
   ·exact q
 exact fun k => step k _ rfl
theorem seek (R : Hold P w s.heap c L es ep t) {b : Addr} {k : TS} (hb : TAt P w s.heap k b) (hu : A.units < cLine) {K : Nat} (hlim : K < 10 * SetTable.turns t.mask) (hfree : way t.mask (hsh P w k) K ∉ t.place.toList)
  (hfull : ∀ j, j < K → way t.mask (hsh P w k) j ∈ t.place.toList) {Q : SetFound → Shared → Prop} (old : k ∈ L.map Prod.snd → Q (.there none) s) (new : k ∉ L.map Prod.snd → Q (.free (way t.mask (hsh P w k) K) false) s) :
  ∀ (fuel c0 : Nat) (st : Option SetTable.Probe), st.getD (t.probeStart (hsh P w k)) = nth t.mask (runAt t.mask (SetTable.bits (hsh P w k) % (t.mask + 1)) (SetTable.bits (hsh P w k))) c0 → c0 ≤ K → K - c0 < fuel →
   (∀ (i : Nat) (p : Rw), L[i]? = some p → p.2 = k → ∃ j, (c0 ≤ j ∧ j < K) ∧ t.place.toList[i]? = some (way t.mask (hsh P w k) j)) → wpAny (model P w) A (setSearchFrom c (.ref b) (hsh P w k) true fuel st) Q E s := by
 intro fuel
 induction fuel with
 | zero => exact fun c0 st _ _ h _ => absurd h (Nat.not_lt_zero _)
 | succ fuel ih =>
  intro c0 st hst hle hlt ahead
  obtain ⟨o, ho, hx, hd⟩ := R.obj
  rw [setSearchFrom_succ]
  refine wpAny_bind (wpAny_setState_of ho hd R.fits ?_)
  dsimp only
  have kept : ¬ t.gaveWay = true := by
   unfold SetTable.gaveWay
   rw [mask_odd R.tab.mok]
   decide
  refine wp_if_neg kept ?_
  try refine wpAny_bind (wpAny_pure ?_)
  have ahead1 : ∀ q, (nth t.mask (nth t.mask (runAt t.mask (SetTable.bits (hsh P w k) % (t.mask + 1)) (SetTable.bits (hsh P w k))) c0) q) = nth t.mask (runAt t.mask (SetTable.bits (hsh P w k) % (t.mask + 1)) (SetTable.bits (hsh P w k))) (c0 + q) := fun q => (nth_add t.mask c0 _ q).symm
  have ahead2 : ∀ q, (nth t.mask (nth t.mask (runAt t.mask (SetTable.bits (hsh P w k) % (t.mask + 1)) (SetTable.bits (hsh P w k))) c0) q).j = way t.mask (hsh P w k) (c0 + q) := fun q => congrArg SetTable.Probe.j (ahead1 q)
  have hashes : ∀ (i : Nat) (p : Rw), L[i]? = some p → (fun i => (es[i]?.map (·.1)).getD 0) i = hsh P w p.2 := fun i p e => by
   show (es[i]?.map (·.1)).getD 0 = _
   rw [R.ith e]
   rfl
  have look := go_spec t R.tab.ris R.tab.dm (fun i => (es[i]?.map (·.1)).getD 0) (hsh P w k) (10 * SetTable.turns t.mask) (K - c0) _ (noDummy t (hsh P w k) c0) (by omega)
   (fun q hq => by rw [ahead2]; exact hfull (c0 + q) (by omega)) (by rw [ahead2, show c0 + (K - c0) = K by omega]; exact hfree)
  rcases look with ⟨q, i, hq, hi, hhash, before, hp⟩ | ⟨before, hp⟩
  ·have hp1 : t.probe (fun i => (es[i]?.map (·.1)).getD 0) (hsh P w k) (st.getD (t.probeStart (hsh P w k))) = some (.candidate (way t.mask (hsh P w k) (c0 + q)) i (nth t.mask (runAt t.mask (SetTable.bits (hsh P w k) % (t.mask + 1)) (SetTable.bits (hsh P w k))) (c0 + (q + 1)))) := by
    rw [hst, ← ahead2, ← ahead1]
    exact hp
   rw [hp1]
   dsimp only
   rw [ahead2] at hi
   have il : i < L.length := by
    have a1 := (List.getElem?_eq_some_iff.mp hi).1
    have a2 := R.tab.sz
    rw [List.length_map] at a2
    rw [Array.length_toList] at a1
    omega
   obtain ⟨p, ep1⟩ : ∃ p, L[i]? = some p := ⟨_, List.getElem?_eq_getElem il⟩
   have pm := List.mem_of_getElem? ep1
   have live := slot_live R.tab.ris hi
   have go : wpAny (model P w) A (searchRest c (.ref b) (hsh P w k) true fuel es t (way t.mask (hsh P w k) (c0 + q)) i (nth t.mask (runAt t.mask (SetTable.bits (hsh P w k) % (t.mask + 1)) (SetTable.bits (hsh P w k))) (c0 + (q + 1)))) Q E s := by
    unfold searchRest
    rw [R.ith ep1]
    dsimp only
    refine wpAny_bind (wpAny_holding (wpAny_eqBool_tuple hu (R.at_ p pm) hb ?_))
    refine wpAny_bind (wpAny_setState_of ho hd R.fits ?_)
    dsimp only
    by_cases same : p.2 = k
    ·exact wp_if_pos (by simp [same]) (wpAny_pure (old (List.mem_map.mpr ⟨p, pm, same⟩)))
    ·refine wp_if_neg (by simp [same]) ?_
     try refine wpAny_bind (wpAny_pure ?_)
     rw [sameMem]
     dsimp only
     simp only [if_true, live, R.ith ep1]
     refine wpAny_bind (wpAny_isSame_ref_self (wpAny_bind (wpAny_pure ?_)))
     simp only [if_true]
     refine wp_if_neg (by simp [same]) (ih (c0 + (q + 1)) _ rfl (by omega) (by omega) fun i2 p2 e2 k2 => ?_)
     obtain ⟨j, ⟨j1, j2⟩, j3⟩ := ahead i2 p2 e2 k2
     refine ⟨j, ⟨?_, j2⟩, j3⟩
     rcases Nat.lt_trichotomy j (c0 + q) with z | z | z
     ·refine absurd ((hashes i2 p2 e2).trans (congrArg (hsh P w) k2)) (before (j - c0) i2 (by omega) ?_)
      rw [ahead2, show c0 + (j - c0) = j by omega]
      exact j3
     ·subst z
      have l2 := slot_live R.tab.ris j3
      rw [live] at l2
      injection l2 with l2
      subst l2
      rw [ep1] at e2
      cases e2
      exact absurd k2 same
     ·omega
   by_cases led : t.led = true
   ·refine wp_if_neg (by simp [led]) ?_
    try refine wpAny_bind (wpAny_pure ?_)
    exact go
   ·refine wp_if_pos (by simp [led]) (wpAny_bind (unseen hb (fun y hy => ?_) ?_))
    ·obtain ⟨x, hx1, rfl⟩ := List.mem_map.mp hy
     have hx2 : x ∈ es.toList := by simpa using (show x ∈ es ∧ x.1 = hsh P w k by simpa using hx1).1
     rw [R.all] at hx2
     obtain ⟨p2, hp2, rfl⟩ := List.mem_map.mp hx2
     exact ⟨p2.2, p2.1, rfl, R.at_ p2 hp2⟩
    ·refine wp_if_neg (by decide) ?_
     try refine wpAny_bind (wpAny_pure ?_)
     exact go
  ·have hp1 : t.probe (fun i => (es[i]?.map (·.1)).getD 0) (hsh P w k) (st.getD (t.probeStart (hsh P w k))) = some (.empty (way t.mask (hsh P w k) K) none) := by
    have e0 : way t.mask (hsh P w k) K = (nth t.mask (nth t.mask (runAt t.mask (SetTable.bits (hsh P w k) % (t.mask + 1)) (SetTable.bits (hsh P w k))) c0) (K - c0)).j := by
     rw [ahead2, show c0 + (K - c0) = K by omega]
    rw [hst, e0]
    exact hp
   rw [hp1]
   dsimp only
   refine wpAny_pure (new fun hm => ?_)
   obtain ⟨p, hp2, hk⟩ := List.mem_map.mp hm
   obtain ⟨i, hi, e⟩ := List.getElem_of_mem hp2
   have ei : L[i]? = some p := by rw [List.getElem?_eq_getElem hi, e]
   obtain ⟨j, ⟨j1, j2⟩, j3⟩ := ahead i p ei hk
   refine absurd ((hashes i p ei).trans (congrArg (hsh P w) hk)) (before (j - c0) i (by omega) ?_)
   rw [ahead2, show c0 + (j - c0) = j by omega]
   exact j3
theorem seek0 (R : Hold P w s.heap c L es ep t) {b : Addr} {k : TS} (hb : TAt P w s.heap k b) (hu : A.units < cLine) {Q : SetFound → Shared → Prop} (old : k ∈ L.map Prod.snd → Q (.there none) s)
  (new : ∀ K, k ∉ L.map Prod.snd → way t.mask (hsh P w k) K ∉ t.place.toList → (∀ j, j < K → way t.mask (hsh P w k) j ∈ t.place.toList) → Q (.free (way t.mask (hsh P w k) K) false) s) :
  wpAny (model P w) A (setSearch c (.ref b) (hsh P w k) true) Q E s := by
 have rm := R.room
 obtain ⟨K, k1, k2, k3⟩ := R.tab.first (by rw [List.length_map]; omega) (hsh P w k)
 have turns : 10 * SetTable.turns t.mask ≤ 1420 := by
  unfold SetTable.turns
  rcases R.tab.mok with e | e | e <;> rw [e] <;> omega
 unfold setSearch
 refine seek R hb hu k1 k2 k3 old (fun n => new K n k2 k3) 100000 0 none rfl (Nat.zero_le _) (by omega) fun i p ei hk => ?_
 have hh : (hs_ P w L)[i]? = some (hsh P w k) := by rw [List.getElem?_map, ei, ← hk]; rfl
 have il : i < t.place.toList.length := by
  have a1 := (List.getElem?_eq_some_iff.mp ei).1
  have a2 := R.tab.sz
  rw [List.length_map] at a2
  rw [Array.length_toList]
  omega
 obtain ⟨j, j1, j2⟩ := R.tab.before k2 hh (List.getElem?_eq_getElem il)
 exact ⟨j, ⟨Nat.zero_le _, j1⟩, by rw [List.getElem?_eq_getElem il, j2]⟩
end
end PTT
set_option Elab.async false
set_option linter.all false
set_option maxRecDepth 100000
set_option maxHeartbeats 2000000
namespace PTT
open PySem PySem.Spec PyProof.Rows L2
section
variable {P : Program} {w : World} {A : Around} {E : Value → Shared → Prop} {s : Shared} {c : Addr} {L : List Rw} {es : Array (Int × Value)} {ep : Nat} {t : SetTable}
theorem TAt.other {h h' : Heap} {k : TS} {b : Addr} {o : Obj} (q : TAt P w h k b) (ho : h.get? c = some o) (hd : o.data = .set es ep t) (sb : Heap.SameBut c h h') : TAt P w h' k b := by
 obtain ⟨ob, its, n, hob, hc, hdt, hi⟩ := q
 have ne : b ≠ c := fun e => by
  subst e
  rw [ho] at hob
  cases hob
  rw [hd] at hdt
  cases hdt
 exact ⟨ob, its, n, by rw [sb.2 b ne]; exact hob, hc, hdt, hi⟩
theorem TAt.on {h h' : Heap} {k : TS} {b : Addr} (q : TAt P w h k b) (kp : ∀ u o, h.get? u = some o → h'.get? u = some o) : TAt P w h' k b := by
 obtain ⟨ob, its, n, hob, r⟩ := q
 exact ⟨ob, its, n, kp b ob hob, r⟩
theorem reorder {ord : Array Nat} (hL : es.toList = L.map (ent P w)) (hp : ord.toList.Perm (List.range L.length)) :
  ∃ M : List Rw, (ord.filterMap (es[·]?)).toList = M.map (ent P w) ∧ M.Perm L ∧ hs_ P w M = ord.toList.map fun i => (es.map (·.1)).getD i 0 := by
 have sz : es.size = L.length := by rw [← Array.length_toList, hL, List.length_map]
 have at_ : ∀ i, (h : i < L.length) → es[i]? = some (ent P w L[i]) := fun i h => by
  rw [← Array.getElem?_toList, hL, List.getElem?_map, List.getElem?_eq_getElem h]
  rfl
 have main : ∀ l : List Nat, (∀ i ∈ l, i < L.length) → l.filterMap (fun i => es[i]?) = (l.filterMap (fun i => L[i]?)).map (ent P w) ∧ hs_ P w (l.filterMap (fun i => L[i]?)) = l.map fun i => (es.map (·.1)).getD i 0 := by
  intro l
  induction l with
  | nil => exact fun _ => ⟨rfl, rfl⟩
  | cons i l ih =>
   intro h
   have hi := h i List.mem_cons_self
   obtain ⟨i1, i2⟩ := ih fun j hj => h j (List.mem_cons_of_mem _ hj)
   have v : (es.map (·.1)).getD i 0 = hsh P w L[i].2 := by
    have : (es.map (·.1))[i]? = some (hsh P w L[i].2) := by rw [Array.getElem?_map, at_ i hi]; rfl
    simp [Array.getD_eq_getD_getElem?, this]
   rw [List.filterMap_cons_some (at_ i hi), List.filterMap_cons_some (List.getElem?_eq_getElem hi), i1]
   refine ⟨rfl, ?_⟩
   rw [List.map_cons, v]
   show hsh P w L[i].2 :: hs_ P w _ = _
   rw [i2]
 obtain ⟨m1, m2⟩ := main ord.toList fun i hi => List.mem_range.mp (hp.mem_iff.mp hi)
 refine ⟨ord.toList.filterMap fun i => L[i]?, by simpa using m1, ?_, m2⟩
 refine (hp.filterMap fun i => L[i]?).trans (List.Perm.of_eq ?_)
 have whole : ∀ n, n ≤ L.length → (List.range n).filterMap (fun i => L[i]?) = L.take n := by
  intro n
  induction n with
  | zero => exact fun _ => rfl
  | succ n ih =>
   intro hn
   rw [List.range_succ, List.filterMap_append, ih (Nat.le_of_lt hn), List.take_add_one, List.getElem?_eq_getElem hn]
   simp [List.getElem?_eq_getElem hn]
 rw [whole _ (Nat.le_refl _), List.take_length]
theorem relay {o : Obj} (ho : s.heap.get? c = some o) (hx : o.ExactSet) (hd : o.data = .set es ep t) (hL : es.toList = L.map (ent P w)) (sz : t.place.size = es.size) (dm : t.dummies = #[]) (le : es.size ≤ t.mask) (nd : (L.map Prod.snd).Nodup)
  (at_ : ∀ p ∈ L, TAt P w s.heap p.2 p.1) (led : w.params.followText "set-order" = true ∨ t.led = true) (few : L.length < 70) {n M : Nat} (hM : SetTable.sizeAbove n - 1 = M) (ok : MaskOk M) (small : SetTable.sizeAbove n ≤ 128) (room : L.length * 5 < M * 3)
  {Q : Unit → Shared → Prop} (q : ∀ h' L' es' ep' t', Heap.SameBut c s.heap h' → Hold P w h' c L' es' ep' t' → L'.Perm L → Q () { s with heap := h' }) : wpAny (model P w) A (setRelay c n) Q E s := by
 have many : es.size = L.length := by rw [← Array.length_toList, hL, List.length_map]
 obtain ⟨t', ord, e, perm, T, mk, ld, _, _⟩ := relaid_ok t (hs := es.map (·.1)) (wanted := n) hM ok (by rw [Array.size_map, many]; omega)
 rw [Array.size_map, many] at perm
 obtain ⟨L', l1, l2, l3⟩ := reorder hL perm
 rw [← l3] at T
 have many' : (ord.filterMap (es[·]?)).size = es.size := by rw [← Array.length_toList, l1, List.length_map, l2.length_eq, many]
 rw [setRelay_eq]
 refine wpAny_bind (wpAny_setState_of ho hd (fits_of sz dm le) ?_)
 dsimp only
 refine wp_if_neg (by rw [sizeLine_eq]; omega) ?_
 try refine wpAny_bind (wpAny_pure ?_)
 rw [e]
 dsimp only
 refine wpAny_bind (wp_if_neg (by rw [many']; simp) ?_)
 try refine wpAny_bind (wpAny_pure ?_)
 refine wpAny_pure ?_
 dsimp only
 have sb : Heap.SameBut c s.heap (s.heap.update c (Obj.putSet (ord.filterMap (es[·]?)) t')) := Heap.SameBut.update ..
 refine wpAny_storeSet_of ho hd (q _ L' _ (ep + 1) t' sb ⟨⟨_, store_at ho hd, hx, rfl⟩, l1, T, (l2.map Prod.snd).nodup_iff.mpr nd, fun p hp => (at_ p (l2.mem_iff.mp hp)).other ho hd sb, by rw [ld]; exact led, by rw [l2.length_eq, mk]; exact room, by rw [l2.length_eq]; exact few⟩ l2) ?_
 rw [many', many, sizeLine_eq]
 omega
theorem add (R : Hold P w s.heap c L es ep t) {b : Addr} {k : TS} (hb : TAt P w s.heap k b) (hu : A.units < cLine) (few : L.length + 1 < 70) {Q : Bool → Shared → Prop}
  (q : ∀ r h' L' es' ep' t', Heap.SameBut c s.heap h' → Hold P w h' c L' es' ep' t' → (k ∈ L.map Prod.snd → L' = L) → (k ∉ L.map Prod.snd → L'.Perm ((b, k) :: L)) → Q r { s with heap := h' }) : wpAny (model P w) A (setAddHashed c (.ref b) (hsh P w k)) Q E s := by
 obtain ⟨o, ho, hx, hd⟩ := R.obj
 have many := R.many
 have rm := R.room
 unfold setAddHashed
 refine wpAny_holding ?_
 have e0 : (100000 : Nat) = 99999 + 1 := rfl
 rw [e0, setAddHashedIn_succ]
 refine wpAny_bind (wpAny_setState_of ho hd R.fits ?_)
 dsimp only
 refine wp_if_neg (by simp [byScan, Value.scannable]) ?_
 try refine wpAny_bind (wpAny_pure ?_)
 refine wpAny_bind (seek0 R hb hu (fun hm => ?_) fun K hm hK hj => ?_)
 ·exact wpAny_pure (q false s.heap L es ep t (Heap.SameBut.refl c s.heap) R (fun _ => rfl) fun z => absurd hm z)
 ·dsimp only
  refine wpAny_bind (wpAny_setState_of ho hd R.fits ?_)
  dsimp only
  obtain ⟨p1, p2, p3, p4, p5, _, _, _, p9⟩ := R.tab.put hK hj
  generalize ept : t.put (way t.mask (hsh P w k) K) = pt at p1 p3 p4 p5 p9 ⊢
  obtain ⟨t1, j⟩ := pt
  dsimp only at p1 p3 p4 p5 p9 ⊢
  subst p1
  have q1 := SetTable.toList_insertAt es (SetTable.below t.place (way t.mask (hsh P w k) K)) (hsh P w k, Value.ref b)
  generalize ejp : SetTable.below t.place (way t.mask (hsh P w k) K) = j at p2 p3 q1 ⊢
  rw [R.all, ← List.map_take, ← List.map_drop] at q1
  have q2 : (L.take j).map (ent P w) ++ (hsh P w k, Value.ref b) :: (L.drop j).map (ent P w) = (L.take j ++ (b, k) :: L.drop j).map (ent P w) := by rw [List.map_append, List.map_cons]
  have q3 : hs_ P w (L.take j ++ (b, k) :: L.drop j) = (hs_ P w L).take j ++ hsh P w k :: (hs_ P w L).drop j := by
   show List.map _ _ = _
   rw [List.map_append, List.map_cons, List.map_take, List.map_drop]
  rw [q2] at q1
  rw [← q3] at p3
  have pm : (L.take j ++ (b, k) :: L.drop j).Perm ((b, k) :: L) := put_perm L j (b, k)
  generalize SetTable.insertAt es j (hsh P w k, Value.ref b) = es1 at q1 ⊢
  generalize L.take j ++ (b, k) :: L.drop j = L1 at q1 p3 pm
  have len1 : L1.length = L.length + 1 := by rw [pm.length_eq, List.length_cons]
  have many1 : es1.size = L.length + 1 := by rw [← Array.length_toList, q1, List.length_map, len1]
  have nd1 : (L1.map Prod.snd).Nodup := by
   refine (pm.map Prod.snd).nodup_iff.mpr ?_
   rw [List.map_cons]
   exact List.nodup_cons.mpr ⟨hm, R.nd⟩
  have fin : ∀ t2 : SetTable, TabOk t2 (hs_ P w L1) → t2.mask = t1.mask → t2.led = t1.led → t2.tooFull = t1.tooFull → wpAny (model P w) A (do
    storeSet c es1 t2
    if (!false && t2.tooFull) = true then do setRelay c (SetTable.grown (es.size + 1)); pure true
    else pure true) Q E s := by
   intro t2 T2 m2 l2 f2
   have led2 : w.params.followText "set-order" = true ∨ t2.led = true := by rw [l2, p5]; exact R.led
   refine wpAny_bind (wpAny_storeSet_of ho hd ?_ (by rw [many1, sizeLine_eq]; omega))
   have sb : Heap.SameBut c s.heap (s.heap.update c (Obj.putSet es1 t2)) := Heap.SameBut.update ..
   have ho1 := store_at (es' := es1) (t' := t2) ho hd
   generalize s.heap.update c (Obj.putSet es1 t2) = h1 at sb ho1 ⊢
   have at1 : ∀ p ∈ L1, TAt P w h1 p.2 p.1 := fun p hp => by
    rcases List.mem_cons.mp (pm.mem_iff.mp hp) with rfl | hp
    ·exact hb.other ho hd sb
    ·exact (R.at_ p hp).other ho hd sb
   have sz2 : t2.place.size = es1.size := by
    have := T2.sz
    rw [List.length_map, len1] at this
    omega
   by_cases hf : t1.tooFull = true
   ·have full : (L.length + 1) * 5 ≥ t1.mask * 3 := by
     have h := hf
     unfold SetTable.tooFull at h
     rw [decide_eq_true_eq, p9, List.length_map] at h
     exact h
    rw [if_pos (by rw [f2, hf]; rfl), many]
    have two : (t.mask = 7 ∧ L.length = 4) ∨ (t.mask = 31 ∧ L.length = 18) := by
     rcases R.tab.mok with e | e | e <;> rw [p4, e] at full <;> rw [e] at rm
     ·exact .inl ⟨e, by omega⟩
     ·exact .inr ⟨e, by omega⟩
     ·omega
    have lay : ∀ M, SetTable.sizeAbove (SetTable.grown (L.length + 1)) - 1 = M → MaskOk M → SetTable.sizeAbove (SetTable.grown (L.length + 1)) ≤ 128 → (L.length + 1) * 5 < M * 3 → wpAny (model P w) A (do setRelay c (SetTable.grown (L.length + 1)); pure true) Q E { s with heap := h1 } := fun M a1 a2 a3 a4 => by
     refine wpAny_bind (relay (s := { s with heap := h1 }) ho1 hx rfl q1 sz2 T2.dm (by rw [many1, m2, p4]; rcases two with ⟨e, e2⟩ | ⟨e, e2⟩ <;> omega) nd1 at1 led2 (by rw [len1]; exact few) a1 a2 a3 (by rw [len1]; exact a4) ?_)
     intro h2 L2 es2 ep2 t3 sb2 R2 pm2
     exact wpAny_pure (q true h2 L2 es2 ep2 t3 (sb.trans sb2) R2 (fun z => absurd z hm) fun _ => pm2.trans pm)
    rcases two with ⟨_, e2⟩ | ⟨_, e2⟩
    ·exact lay 31 (by rw [e2, size_20]) (.inr (.inl rfl)) (by rw [e2, size_20]; decide) (by omega)
    ·exact lay 127 (by rw [e2, size_76]) (.inr (.inr rfl)) (by rw [e2, size_76]; decide) (by omega)
   ·have room2 : L1.length * 5 < t2.mask * 3 := by
     have h := hf
     unfold SetTable.tooFull at h
     rw [decide_eq_true_eq, p9, List.length_map] at h
     rw [len1, m2]
     omega
    rw [if_neg (by rw [f2]; simp [hf])]
    exact wpAny_pure (q true h1 L1 es1 (ep + 1) t2 sb ⟨⟨_, ho1, hx, rfl⟩, q1, T2, nd1, at1, led2, room2, by rw [len1]; exact few⟩ (fun z => absurd z hm) fun _ => pm)
  have T1 : TabOk { t1 with plain := false } (hs_ P w L1) := ⟨p3.ris, p3.dm, p3.sz, p3.mok, p3.bd, p3.reach⟩
  have both : ∀ r : Bool, wpAny (model P w) A (do
    storeSet c es1 (if r = true then t1 else { t1 with plain := false })
    if (!false && (if r = true then t1 else { t1 with plain := false }).tooFull) = true then do setRelay c (SetTable.grown (es.size + 1)); pure true
    else pure true) Q E s := fun r => by
   cases r
   ·exact fin _ T1 rfl rfl rfl
   ·exact fin _ p3 rfl rfl rfl
  by_cases pl : t1.plain = true
  ·first
    | exact wpAny_bind (wp_if_pos pl (byVal hb fun r => both r))
    | exact wp_if_pos pl (wpAny_bind (byVal hb fun r => both r))
  ·first
    | exact wpAny_bind (wp_if_neg pl (wpAny_pure (both true)))
    | exact wp_if_neg pl (wpAny_bind (wpAny_pure (both true)))
    | exact wp_if_neg pl (both true)
end
end PTT
set_option Elab.async false
set_option linter.all false
set_option maxRecDepth 100000
set_option maxHeartbeats 2000000
namespace PTT
open PySem PySem.Spec PyProof.Rows L2
def key (k : TS) : List (Int ⊕ List Nat) := k.map fun x => Sum.inr x.cps.toList
def le (a b : TS) : Prop := (listOrd itemOrd).blt (key b) (key a) = false
theorem key_inj {a b : TS} (h : key a = key b) : a = b := by
 induction a generalizing b with
 | nil =>
  cases b with
  | nil => rfl
  | cons y b => cases h
 | cons x a ih =>
  cases b with
  | nil => cases h
  | cons y b =>
   injection h with h1 h2
   rw [ih h2]
   cases x; cases y
   injection h1 with h1
   congr
   exact Array.toList_inj.mp h1
theorem le_anti {a b : TS} (h : le a b) (h' : le b a) : a = b := key_inj ((listOrd itemOrd).total _ _ h' h)
theorem le_same : ∀ {l m : List TS}, l.Pairwise le → m.Pairwise le → l.Nodup → m.Nodup → (∀ x, x ∈ l ↔ x ∈ m) → l = m
 | [], [], _, _, _, _, _ => rfl
 | [], y :: m, _, _, _, _, h => by cases (h y).mpr List.mem_cons_self
 | x :: l, [], _, _, _, _, h => by cases (h x).mp List.mem_cons_self
 | x :: l, y :: m, hl, hm, nl, nm, h => by
  obtain ⟨l1, l2⟩ := List.pairwise_cons.mp hl
  obtain ⟨m1, m2⟩ := List.pairwise_cons.mp hm
  obtain ⟨n1, n2⟩ := List.nodup_cons.mp nl
  obtain ⟨o1, o2⟩ := List.nodup_cons.mp nm
  have e : x = y := by
   rcases List.mem_cons.mp ((h x).mp List.mem_cons_self) with q | q
   ·exact q
   ·rcases List.mem_cons.mp ((h y).mpr List.mem_cons_self) with r | r
    ·exact r.symm
    ·exact le_anti (l1 y r) (m1 x q)
  subst e
  rw [le_same l2 m2 n2 o2 fun z => ⟨fun hz => ?_, fun hz => ?_⟩]
  ·rcases List.mem_cons.mp ((h z).mp (List.mem_cons_of_mem _ hz)) with q | q
   ·subst q; exact absurd hz n1
   ·exact q
  ·rcases List.mem_cons.mp ((h z).mpr (List.mem_cons_of_mem _ hz)) with q | q
   ·subst q; exact absurd hz o1
   ·exact q
section
variable {P : Program} {w : World} {A : Around} {E : Value → Shared → Prop} {s : Shared} {c : Addr} {L : List Rw} {es : Array (Int × Value)} {ep : Nat} {t : SetTable}
theorem items_key {k : TS} {vs : List Value} (h : ItemsAre (PySem.strKind P w) k vs) : ∀ i, tupItems (fun _ => true) i vs = some (key k) := by
 induction h with
 | nil => exact fun i => rfl
 | @cons x v ks vs h1 _ ih =>
  intro i
  obtain ⟨t, rfl⟩ := Value.isStrOf_shape h1
  show (if true = true then (tupItems (fun _ => true) (i + 1) vs).map (Sum.inr x.cps.toList :: ·) else none) = _
  rw [if_pos rfl, ih]
  rfl
theorem TAt.key {h : Heap} {k : TS} {b : Addr} (q : TAt P w h k b) : G.tupKeyC h (fun _ => true) (.ref b) = some (key k) := by
 obtain ⟨o, its, n, ho, hc, hd, hi⟩ := q
 have e1 : G.isTupObj h (.ref b) = true := by
  simp only [G.isTupObj, ho, hc]
  decide
 unfold G.tupKeyC
 rw [if_pos e1]
 simp only [tupKey, ho, hd]
 exact items_key hi 0
theorem TAt.tup {h : Heap} {k : TS} {b : Addr} (q : TAt P w h k b) (ne : k ≠ []) : ∃ f, TupOf h (fun _ => true) (.ref b) f := by
 obtain ⟨o, its, n, ho, hc, hd, hi⟩ := q
 generalize hl : its.toList = l at hi
 cases hi with
 | nil => exact absurd rfl ne
 | @cons x v ks vs h1 h2 =>
  obtain ⟨t, rfl⟩ := Value.isStrOf_shape h1
  refine ⟨_, b, o, its, n, rfl, ho, hc, hd, ?_, fun z => (by cases z), fun _ => ⟨x, t, rfl⟩⟩
  rw [← Array.getElem?_toList, hl]
  rfl
end
end PTT
set_option Elab.async false
set_option linter.all false
set_option maxRecDepth 100000
set_option maxHeartbeats 2000000
namespace PTT
open PySem PySem.Spec PyProof.Rows L2
structure Had (ks : List Rw) (n : Nat) (L : List Rw) : Prop where
 sub : ∀ p ∈ L, p ∈ ks.take n
 all : ∀ p ∈ ks.take n, p.2 ∈ L.map Prod.snd
 len : L.length ≤ n
theorem Had.none (ks : List Rw) : Had ks 0 [] := ⟨fun p h => (by cases h), fun p h => (by cases h), Nat.le_refl _⟩
theorem Had.next {ks L M : List Rw} {n : Nat} {p : Rw} (H : Had ks n L) (e : ks[n]? = some p) (old : p.2 ∈ L.map Prod.snd → M = L) (new : p.2 ∉ L.map Prod.snd → M.Perm (p :: L)) : Had ks (n + 1) M := by
 have tk : ks.take (n + 1) = ks.take n ++ [p] := by rw [List.take_add_one, e]; rfl
 by_cases q : p.2 ∈ L.map Prod.snd
 ·rw [old q]
  refine ⟨fun r hr => ?_, fun r hr => ?_, Nat.le_succ_of_le H.len⟩
  ·rw [tk]; exact List.mem_append_left _ (H.sub r hr)
  ·rw [tk] at hr
   rcases List.mem_append.mp hr with z | z
   ·exact H.all r z
   ·rw [List.mem_singleton.mp z]; exact q
 ·have pm := new q
  refine ⟨fun r hr => ?_, fun r hr => ?_, ?_⟩
  ·rw [tk]
   rcases List.mem_cons.mp (pm.mem_iff.mp hr) with z | z
   ·rw [z]; exact List.mem_append_right _ List.mem_cons_self
   ·exact List.mem_append_left _ (H.sub r z)
  ·rw [(pm.map Prod.snd).mem_iff, List.map_cons]
   rw [tk] at hr
   rcases List.mem_append.mp hr with z | z
   ·exact List.mem_cons_of_mem _ (H.all r z)
   ·rw [List.mem_singleton.mp z]; exact List.mem_cons_self
  ·rw [pm.length_eq, List.length_cons]
   exact Nat.succ_le_succ H.len
section
variable {P : Program} {w : World} {A : Around} {E : Value → Shared → Prop} {s : Shared} {c : Addr} {L : List Rw}
theorem fill {I : Addr} {fp wr : List Addr} {Gn : Array GenState → Array GenState → Prop} {n : Nat} {Pv : Nat → Value → Prop} {St : Nat → Shared → Prop} {R : Result → Shared → Prop}
  (W : WalksS P w A.in1 I fp wr Gn n Pv St) (c : Addr) (cf : c ∉ fp) (ks : List Rw) (hn : n = ks.length) (few : ks.length < 70) (hv : ∀ i v, Pv i v → ∃ p, ks[i]? = some p ∧ v = .ref p.1) (hu : A.units + 8 < cLine)
  (h0 : Heap) (at_ : ∀ p ∈ ks, TAt P w h0 p.2 p.1) (c0 : h0.get? c = none) (w0 : ∀ b ∈ wr, h0.get? b = none) :
  ∀ (left i : Nat) (z : Shared), i + left = n → St i z → (∀ b o, h0.get? b = some o → z.heap.get? b = some o) → (∃ L es ep t, Hold P w z.heap c L es ep t ∧ Had ks i L) →
   (∀ z' L es ep t, Moved (c :: wr) Gn z z' → Hold P w z'.heap c L es ep t → Had ks n L → R (.ok (.ret .none)) z') → codeAny (model P w) A (.builtin "set.update.loop" ⟨[.ref c, .ref I], []⟩) R z := by
 have cw : c ∉ wr := fun q => cf (W.sub _ q)
 have on : ∀ {z z' : Shared}, Moved wr Gn z z' → (∀ b o, h0.get? b = some o → z.heap.get? b = some o) → ∀ b o, h0.get? b = some o → z'.heap.get? b = some o := fun mv kp b o e => mv.heap b o (fun q => by rw [w0 b q] at e; cases e) (kp b o e)
 intro left
 induction left with
 | zero =>
  intro i z e st kp ⟨L, es, ep, t, hold, had⟩ go
  refine codeAny_builtin F.entry_set_update_loop ?_
  rw [Around.under_plainId F.plain_set_update_loop _]
  have ei : i = n := e
  subst ei
  refine wpAny_bind (m := pyNext (.ref I)) (W.done z _ _ st fun z' mv => ?_)
  have kp' := on mv kp
  refine wpAny_pure (go z' L es ep t (mv.mono fun b hb => List.mem_cons_of_mem _ hb) (hold.stay (fun o eo => mv.heap c o cw eo) fun p hp => (at_ p (List.mem_of_mem_take (had.sub p hp))).on kp') had)
 | succ left ih =>
  intro i z e st kp ⟨L, es, ep, t, hold, had⟩ go
  have lt : i < n := by omega
  refine codeAny_builtin F.entry_set_update_loop ?_
  rw [Around.under_plainId F.plain_set_update_loop _]
  refine wpAny_bind (m := pyNext (.ref I)) (W.item i z _ _ lt st fun v z' hP st' mv => ?_)
  obtain ⟨p, ex, rfl⟩ := hv i v hP
  have kp' := on mv kp
  have hold1 := hold.stay (h' := z'.heap) (fun o eo => mv.heap c o cw eo) fun p hp => (at_ p (List.mem_of_mem_take (had.sub p hp))).on kp'
  have hb : TAt P w z'.heap p.2 p.1 := (at_ p (List.mem_of_getElem? ex)).on kp'
  refine wpAny_bind (m := holding [Value.ref p.1] (setAdd c (.ref p.1))) (wpAny_holding ?_)
  unfold setAdd
  refine wpAny_holding (wpAny_bind (wpAny_pyHash_tuple (by simp; omega) hb ?_))
  refine add (s := { z' with toks := z'.toks + (p.2.length + 1) }) hold1 hb (by simp; omega) (by have := had.len; omega) fun r h' L' es' ep' t' sb R' o1 n1 => ?_
  have kp2 : ∀ b o, h0.get? b = some o → h'.get? b = some o := fun b o eo => (sb.2 b fun q => by rw [q, c0] at eo; cases eo).trans (kp' b o eo)
  refine wpAny_pure ⟨plainId_quiet F.plain_set_update_loop _, ih (i + 1) _ (by omega) (W.frame _ z' _ _ st' (Nat.le_add_right _ _) fun u hu' o eo => ?_) kp2 ⟨L', es', ep', t', R', had.next ex o1 n1⟩ fun z2 L2 es2 ep2 t2 mv2 hold2 had2 => ?_⟩
  ·rw [sb.2 u fun q => cf (q ▸ hu')]; exact eo
  ·refine go z2 L2 es2 ep2 t2 (Moved.trans W.gtrans ((mv.mono fun b hb => List.mem_cons_of_mem _ hb).then_heap (Nat.le_add_right _ _) fun u o hu' eo => ?_) mv2) hold2 had2
   rw [sb.2 u fun q => hu' (q ▸ List.mem_cons_self)]; exact eo
set_option maxHeartbeats 4000000 in
end
end PTT
set_option Elab.async false
set_option linter.all false
set_option maxRecDepth 100000
set_option maxHeartbeats 2000000
namespace PTT
open PySem PySem.Spec PyProof.Rows L2
def InSet (P : Program) (w : World) (h : Heap) (c : Addr) (L : List Rw) : Prop := ∃ es ep t, (∃ o, h.get? c = some o ∧ o.ExactSet ∧ o.data = .set es ep t) ∧ es.toList = L.map (ent P w) ∧ TabOk t (hs_ P w L) ∧ (L.map Prod.snd).Nodup ∧
 (w.params.followText "set-order" = true ∨ t.led = true) ∧ L.length * 5 < t.mask * 3 ∧ L.length < 70
def SetTT (P : Program) (w : World) (c : Addr) (L : List Rw) : HO := .ext fun h => InSet P w h c L
theorem InSet.hold {P : Program} {w : World} {h : Heap} {c : Addr} {L : List Rw} (R : InSet P w h c L) (q : ∀ p ∈ L, TAt P w h p.2 p.1) : ∃ es ep t, Hold P w h c L es ep t :=
 let ⟨es, ep, t, a, b, d, e, f, g, i⟩ := R
 ⟨es, ep, t, a, b, d, e, q, f, g, i⟩
section
variable {X : Cx} {pins : List (Addr × Obj)} {σ : L2.St} {H : Hp} {s : Shared}
def rSetTT (K : PySem.W.Frag) (P : Program) (w : World) : List V → Hp → VK → Prop := fun xs H Q => ∃ (l : Addr) (ks : List Rw), xs = [V.ref l] ∧ SqL K H l (ks.map fun p => V.ref p.1) ∧ (∀ p ∈ ks, SqT K H p.1 (p.2.map V.str)) ∧ ks.length < 70 ∧
 ∀ c L, H c = none → (∀ p ∈ L, p ∈ ks) → (∀ p ∈ ks, p.2 ∈ L.map Prod.snd) → (L.map Prod.snd).Nodup → L.length < 70 → Q (.ref c) (upd H c (SetTT P w c L))
def rSortedTT (K : PySem.W.Frag) (P : Program) (w : World) : List V → Hp → VK → Prop := fun xs H Q => ∃ (c : Addr) (L : List Rw), xs = [V.ref c] ∧ H c = some (SetTT P w c L) ∧ (∀ p ∈ L, SqT K H p.1 (p.2.map V.str) ∧ p.2 ≠ []) ∧
 ∀ (N : List Rw) (p : Addr), N.Perm L → (N.map Prod.snd).Nodup → (N.Pairwise fun p q => le p.2 q.2) → H p = none → Q (.ref p) (upd H p (.lst (N.map fun q => V.ref q.1)))
def rLenTT (P : Program) (w : World) : List V → Hp → VK → Prop := fun xs H Q => ∃ (c : Addr) (L : List Rw), xs = [V.ref c] ∧ H c = some (SetTT P w c L) ∧ ((L.map Prod.snd).Nodup → Q (.int L.length) H)
def rLenTx (w : World) : List V → Hp → VK → Prop := fun xs H Q => ∃ (c : Addr) (L : List Str), xs = [V.ref c] ∧ H c = some (PT.SetTx w c L) ∧ L.length ≤ 1000 ∧ ∀ N : List Str, N.Nodup → (∀ x, x ∈ N ↔ x ∈ L) → Q (.int N.length) H
theorem cr_lenTx : CallR X (.builtin "len") (rLenTx X.w) := by
 intro pins s σ H xs us Q I r ⟨c, L, ex, ha, few, q⟩
 subst ex
 rw [Vals.ref1 r]
 have R : PT.At X.w s.heap c L := (I.hok c _ ha).1
 obtain ⟨o, es, ep, t, ho, hx, hd, b, f1, f2, f3⟩ := R
 have lf := b.few
 have q1 := q (es.toList.map PT.tx) b.nd b.mem
 rw [List.length_map, Array.length_toList] at q1
 exact call_len_set ho hx hd f1 (by omega) ⟨.int es.size, H, I.tok _, ⟨_, rfl⟩, q1⟩
end
end PTT
set_option Elab.async false
set_option linter.all false
set_option maxRecDepth 100000
set_option maxHeartbeats 2000000
namespace PTT
open PySem PySem.Spec PyProof.Rows L2 PpSet
def tScT (P : Program) (w : World) (K : PySem.W.Frag) (wi : TI) (g : TG) (tt : TT) (te : TE) (vs : List Nat) : TE := fun σ H Q => wi σ H fun J H1 => ∀ c, H1 c = none → ∃ W : Nat → Nat → Hp → Prop, (∃ m, W 0 m (upd H1 c (SetTT P w c []))) ∧ ∀ i m H, W i m H →
 (J.stop i H ∧ Q (.ref c) H) ∨ (J.go i H ∧ ∃ Nx : Hp → Prop, (∀ H', Nx H' → ∃ m', m' < m ∧ W (i + 1) m' H') ∧ ∀ x H', J.yld i H x H' → g x (wipe σ vs) H' fun σ2 H2 => wipe σ2 vs = wipe σ vs ∧ tt σ2 H2 fun b H3 =>
  if b = true then te σ2 H3 fun y H4 => ∃ (a : Addr) (k : TS) (L : List Rw), y = .ref a ∧ SqT K H4 a (k.map V.str) ∧ H4 c = some (SetTT P w c L) ∧ (∀ p ∈ L, SqT K H4 p.1 (p.2.map V.str)) ∧ L.length + 1 < 70 ∧
   ∀ M, (k ∈ L.map Prod.snd → M = L) → (k ∉ L.map Prod.snd → M.Perm ((a, k) :: L)) → Nx (upd H4 c (SetTT P w c M)) else Nx H3)
section
variable {X : Cx}
end
end PTT
set_option Elab.async false
set_option linter.all false
set_option maxRecDepth 100000
set_option maxHeartbeats 1000000
namespace PD
open PySem L2
class Tabs where
 T : List NdefX.NTab
variable [Tabs]
inductive D where
 | clo (f : Addr) (F : NdefX.NF) (l : Addr) (ss : List Str) | non | bl (b : Bool) | int (i : Int) | str (x : Str) | adr (a : Addr) | ty (n : String) | tup (ds : List D) | lst (ds : List D) | dct (ks : List (Str × D)) | tpf (ds : List D)
mutual
inductive Rel (K : PySem.W.Frag) (G : Hp) : V → D → Prop
 | non : Rel K G .non .non
 | bl {b} : Rel K G (.bl b) (.bl b)
 | int {i} : Rel K G (.int i) (.int i)
 | str {x} : Rel K G (.str x) (.str x)
 | adr {a} : Rel K G (.ref a) (.adr a)
 | ty {n} : Rel K G (.ty n) (.ty n)
 | tup {a vs ds} : SqT K G a vs → RelL K G vs ds → Rel K G (.ref a) (.tup ds)
 | lst {a vs ds} : G a = some (.lst vs) → RelL K G vs ds → Rel K G (.ref a) (.lst ds)
 | dct {a o kvs ks} : G a = some (.frz o (.dK kvs)) → RelK K G kvs ks → Rel K G (.ref a) (.dct ks)
 | tpf {a o vs ds} : G a = some (.frz o (.tup vs)) → o.dict = none → RelL K G vs ds → Rel K G (.ref a) (.tpf ds)
 | clo {f F l ss} : G f = some (NdefX.FnO f F) → G F.c = some (LamX.CodeO F.c F.qual) → G l = some (.lst (ss.map V.str)) → Rel K G (.ref f) (.clo f F l ss)
inductive RelL (K : PySem.W.Frag) (G : Hp) : List V → List D → Prop
 | nil : RelL K G [] []
 | cons {v d vs ds} : Rel K G v d → RelL K G vs ds → RelL K G (v :: vs) (d :: ds)
inductive RelK (K : PySem.W.Frag) (G : Hp) : List (Key × V) → List (Str × D) → Prop
 | nil : RelK K G [] []
 | cons {k v d vs ds} : Rel K G v d → RelK K G vs ds → RelK K G ((.inr k, v) :: vs) ((k, d) :: ds)
end
theorem Same.tseq {K : PySem.W.Frag} {H H' : Hp} {a : Addr} {xs : List V} (e : Same H H') (h : SqT K H a xs) : SqT K H' a xs := by
 rcases h with (h | ⟨o, h⟩) | h
 ·exact .inl (.inl (e _ _ h))
 ·exact .inl (.inr ⟨o, e _ _ h⟩)
 ·exact .inr h
section
variable {K : PySem.W.Frag} {G G' : Hp}
mutual
theorem Rel.mono (e : Same G G') {v : V} {d : D} : Rel K G v d → Rel K G' v d
 | .non => .non
 | .bl => .bl
 | .int => .int
 | .str => .str
 | .adr => .adr
 | .ty => .ty
 | .tup h r => .tup (Same.tseq e h) (RelL.mono e r)
 | .lst h r => .lst (e _ _ h) (RelL.mono e r)
 | .dct h r => .dct (e _ _ h) (RelK.mono e r)
 | .tpf h n r => .tpf (e _ _ h) n (RelL.mono e r)
 | .clo h1 h2 h3 => .clo (e _ _ h1) (e _ _ h2) (e _ _ h3)
theorem RelL.mono (e : Same G G') {v : List V} {d : List D} : RelL K G v d → RelL K G' v d
 | .nil => .nil
 | .cons h r => .cons (Rel.mono e h) (RelL.mono e r)
theorem RelK.mono (e : Same G G') {v : List (Key × V)} {d : List (Str × D)} : RelK K G v d → RelK K G' v d
 | .nil => .nil
 | .cons h r => .cons (Rel.mono e h) (RelK.mono e r)
end
theorem RelL.length {vs : List V} {ds : List D} : RelL K G vs ds → vs.length = ds.length
 | .nil => rfl
 | .cons _ r => congrArg (· + 1) r.length
theorem RelL.get : ∀ {vs : List V} {ds : List D} {i : Nat} {v : V}, RelL K G vs ds → vs[i]? = some v → ∃ d, ds[i]? = some d ∧ Rel K G v d
 | _, _, _, _, .nil, e => by simp at e
 | _, _, 0, _, .cons r _, e => by simp at e; subst e; exact ⟨_, rfl, r⟩
 | _, _, i + 1, x, .cons _ t, e => by
  obtain ⟨u, h1, h2⟩ := RelL.get (i := i) (v := x) t (by simpa using e)
  exact ⟨u, by simpa using h1, h2⟩
theorem RelL.getD : ∀ {vs : List V} {ds : List D} {i : Nat} {d : D}, RelL K G vs ds → ds[i]? = some d → ∃ v, vs[i]? = some v ∧ Rel K G v d
 | _, _, _, _, .nil, e => by simp at e
 | _, _, 0, _, .cons r _, e => by simp at e; subst e; exact ⟨_, rfl, r⟩
 | _, _, i + 1, x, .cons _ t, e => by
  obtain ⟨u, h1, h2⟩ := RelL.getD (i := i) (d := x) t (by simpa using e)
  exact ⟨u, by simpa using h1, h2⟩
theorem RelL.append : ∀ {vs ws : List V} {ds es : List D}, RelL K G vs ds → RelL K G ws es → RelL K G (vs ++ ws) (ds ++ es)
 | _, _, _, _, .nil, h => h
 | _, _, _, _, .cons r t, h => .cons r (RelL.append t h)
theorem RelL.take : ∀ {vs : List V} {ds : List D} (n : Nat), RelL K G vs ds → RelL K G (vs.take n) (ds.take n)
 | _, _, 0, _ => .nil
 | _, _, _ + 1, .nil => .nil
 | _, _, n + 1, .cons r t => .cons r (RelL.take n t)
theorem RelL.drop : ∀ {vs : List V} {ds : List D} (n : Nat), RelL K G vs ds → RelL K G (vs.drop n) (ds.drop n)
 | _, _, 0, h => h
 | _, _, _ + 1, .nil => .nil
 | _, _, n + 1, .cons r t => RelL.drop n t
end
def HT (G H : Hp) : Prop := ∀ q ∈ Tabs.T, G q.1 = none ∧ ∃ ps : Array Value, H q.1 = some (.tbl ps) ∧ TriplesOk ps.toList ∧ ∀ (pos : Pos) (cv : Value), codeAmong pos ps.toList = some cv → ∃ c, cv = .ref c ∧ G c = some (LamX.CodeO c (q.2 pos.line pos.col))
def HD (hs : Option (Addr × Addr)) (G H : Hp) : Prop := match hs with
 | none => True
 | some (ah, as) => ah ≠ as ∧ G ah = none ∧ G as = none ∧ ∃ (m k : Int) (ns : List Int), H ah = some (.lst [.int m, .ref as, .int k]) ∧ H as = some (.lst (ns.map V.int)) ∧ ns.length ≤ 63 ∧ 0 ≤ k ∧ 0 ≤ m ∧ m < 2147483647
def HSt (hs : Option (Addr × Addr)) (G H : Hp) : Prop := HT G H ∧ HD hs G H
def OutD (hs : Option (Addr × Addr)) (a : Addr) : Prop := match hs with
 | none => True
 | some (ah, as) => a ≠ ah ∧ a ≠ as
def Outs (hs : Option (Addr × Addr)) (a : Addr) : Prop := (∀ q ∈ Tabs.T, a ≠ q.1) ∧ OutD hs a
theorem HT.ext {G G' H H' : Hp} (h : HT G H) (e : ∀ b o, H b = some o → H' b = some o) (g : Same G G') (n : ∀ q ∈ Tabs.T, G' q.1 = none) : HT G' H' := fun q hq => by
 obtain ⟨_, ps, h1, h2, h3⟩ := h q hq
 exact ⟨n q hq, ps, e _ _ h1, h2, fun pos cv z => let ⟨c, e1, e2⟩ := h3 pos cv z; ⟨c, e1, g _ _ e2⟩⟩
theorem HT.at_ {G H : Hp} (h : HT G H) {q : NdefX.NTab} (hq : q ∈ Tabs.T) : ∃ ps, H q.1 = some (.tbl ps) := let ⟨_, ps, e, _⟩ := h q hq; ⟨ps, e⟩
theorem HT.tabs {G H : Hp} (h : HT G H) (s : Same G H) : NdefX.TabsN Tabs.T H := fun q hq => by
 obtain ⟨_, ps, h1, h2, h3⟩ := h q hq
 exact ⟨ps, h1, h2, fun pos cv z => let ⟨c, e1, e2⟩ := h3 pos cv z; ⟨c, e1, s _ _ e2⟩⟩
theorem HT.ne {G H : Hp} (h : HT G H) {a : Addr} {o : HO} (e : H a = some o) (no : ∀ ps, o ≠ .tbl ps) : ∀ q ∈ Tabs.T, a ≠ q.1 := fun q hq z => by
 obtain ⟨ps, e2⟩ := h.at_ hq
 rw [z, e2] at e
 exact no ps (Option.some.inj e).symm
theorem HT.mut {G H : Hp} (h : HT G H) {p : Addr} {o : HO} (no : ∀ q ∈ Tabs.T, p ≠ q.1) : HT G (upd H p o) := fun q hq => by
 obtain ⟨g, ps, h1, h2, h3⟩ := h q hq
 exact ⟨g, ps, by rw [upd_ne (no q hq).symm]; exact h1, h2, h3⟩
structure Step (hs : Option (Addr × Addr)) (G H G' H' : Hp) : Prop where
 frm : ∀ a o, Outs hs a → H a = some o → H' a = some o
 exg : Same G G'
 sub : Same G' H'
 nw : ∀ a o, G' a = some o → G a = none → H a = none ∨ ∃ vs, o = HO.tup vs
 st : HSt hs G' H'
section
variable {hs : Option (Addr × Addr)} {G H G' H' G'' H'' : Hp}
theorem not_outs {a : Addr} (h : HSt hs G H) (n : ¬ Outs hs a) : G a = none ∧ H a ≠ none := by
 by_cases t : ∀ q ∈ Tabs.T, a ≠ q.1
 ·cases hs with
  | none => exact absurd ⟨t, trivial⟩ n
  | some q =>
   obtain ⟨ah, as⟩ := q
   obtain ⟨_, h1, h2, m, k, ns, h3, h4, _⟩ := h.2
   by_cases e : a = ah
   ·rw [e]; exact ⟨h1, by rw [h3]; exact fun z => by cases z⟩
   ·by_cases e2 : a = as
    ·rw [e2]; exact ⟨h2, by rw [h4]; exact fun z => by cases z⟩
    ·exact absurd ⟨t, e, e2⟩ n
 ·have : ∃ q, q ∈ Tabs.T ∧ a = q.1 := by
   refine Classical.byContradiction fun z => t fun q hq e => z ⟨q, hq, e⟩
  obtain ⟨q, hq, rfl⟩ := this
  obtain ⟨ps, e⟩ := h.1.at_ hq
  exact ⟨(h.1 q hq).1, by rw [e]; exact fun z => by cases z⟩
theorem outs_of {a : Addr} (h : HSt hs G H) (e : H a = none) : Outs hs a := Classical.byContradiction fun n => (not_outs h n).2 e
theorem Step.new (s : Step hs G H G' H') (a : Addr) (o : HO) (e : G' a = some o) (g : G a = none) : H a = none ∨ ∃ vs, H a = some (.tup vs) := by
 rcases s.nw a o e g with h | ⟨vs, h⟩
 ·exact .inl h
 ·cases q : H a with
  | none => exact .inl rfl
  | some u =>
   have ou : Outs hs a := Classical.byContradiction fun n => by
    have := (not_outs s.st n).1
    rw [e] at this; cases this
   have h1 := s.frm a u ou q
   have h2 := s.sub a o e
   rw [h1] at h2
   cases h2
   exact .inr ⟨vs, by rw [h]⟩
theorem Step.refl (s : Same G H) (h : HSt hs G H) : Step hs G H G H := ⟨fun _ _ _ e => e, Same.refl G, s, fun a o e n => (by rw [n] at e; cases e), h⟩
theorem Step.trans (a : Step hs G H G' H') (b : Step hs G' H' G'' H'') : Step hs G H G'' H'' := by
 refine ⟨fun x o q e => b.frm x o q (a.frm x o q e), a.exg.trans b.exg, b.sub, fun x o e n => ?_, b.st⟩
 cases hg : G' x with
 | some u =>
  have e2 := b.exg x u hg
  rw [e] at e2
  cases e2
  exact a.nw x o hg n
 | none =>
  refine (b.nw x o e hg).imp (fun h1 => ?_) id
  cases hh : H x with
  | none => rfl
  | some u =>
   by_cases q : Outs hs x
   ·have := a.frm x u q hh
    rw [this] at h1; cases h1
   ·have := (not_outs b.st q).1
    rw [this] at e; cases e
theorem HD.upd (h : HD hs G H) {p : Addr} {o : HO} (hp : H p = none) (g : ∀ a, a ≠ p → G a = none → G' a = none) : HD hs G' (upd H p o) := by
 have n : ∀ a u, H a = some u → a ≠ p := fun a u e => ne_of_none e hp
 cases hs with
 | none => trivial
 | some q =>
  obtain ⟨ah, as⟩ := q
  obtain ⟨h0, h1, h2, m, k, ns, h3, h4, h5⟩ := h
  refine ⟨h0, g _ (n _ _ h3) h1, g _ (n _ _ h4) h2, m, k, ns, ?_, ?_, h5⟩
  ·rw [upd_ne (n _ _ h3)]; exact h3
  ·rw [upd_ne (n _ _ h4)]; exact h4
theorem Step.alloc (s : Same G H) (h : HSt hs G H) {p : Addr} {o : HO} (hp : H p = none) : Step hs G H (upd G p o) (upd H p o) := by
 have gp : G p = none := Same.free s hp
 have n : ∀ a u, H a = some u → a ≠ p := fun a u e => ne_of_none e hp
 refine ⟨fun a u _ e => by rw [upd_ne (n a u e)]; exact e, fun a u e => by rw [upd_ne (ne_of_none e gp)]; exact e, fun a u e => ?_, fun a u e n' => ?_, ?_, ?_⟩
 ·by_cases q : a = p
  ·rw [q] at e ⊢; rw [upd_same] at e ⊢; exact e
  ·rw [upd_ne q] at e ⊢; exact s a u e
 ·by_cases q : a = p
  ·rw [q]; exact .inl hp
  ·rw [upd_ne q, n'] at e; cases e
 ·refine h.1.ext (fun b u e => by rw [upd_ne (n b u e)]; exact e) (fun a u e => by rw [upd_ne (ne_of_none e gp)]; exact e) fun q hq => ?_
  obtain ⟨ps, e2⟩ := h.1.at_ hq
  rw [upd_ne (n _ _ e2)]; exact (h.1 q hq).1
 ·exact h.2.upd hp fun a ne e => by rw [upd_ne ne]; exact e
theorem Step.fresh (s : Same G H) (h : HSt hs G H) {p : Addr} {o : HO} (hp : H p = none) : Step hs G H G (upd H p o) := by
 have n : ∀ a u, H a = some u → a ≠ p := fun a u e => ne_of_none e hp
 refine ⟨fun a u _ e => by rw [upd_ne (n a u e)]; exact e, Same.refl G, fun a u e => by rw [upd_ne (n a u (s a u e))]; exact s a u e, fun a u e n' => (by rw [n'] at e; cases e), ?_, h.2.upd hp fun a _ e => e⟩
 exact h.1.ext (fun b u e => by rw [upd_ne (n b u e)]; exact e) (Same.refl G) fun q hq => (h.1 q hq).1
end
def tFrz (t : TE) : TE := fun σ H Q => t σ H fun v H1 => ∃ a u, v = .ref a ∧ H1 a = some u ∧ Mut (some u) ∧ ∀ od, Q v (upd H1 a (.frz od u))
theorem pe_frz {X : Cx} {e : Expr} {t : TE} (h : PE X e t) : PE X e (tFrz t) := ⟨fun pins s σ H Q I q =>
 thn (h.run pins s σ H _ I q) fun u s1 ⟨v, H1, I1, rv, a, o, ev, ha, mu, q1⟩ => by
  obtain ⟨od, I2⟩ := I1.lock ha mu
  exact ⟨v, _, I2, rv, q1 od⟩⟩
def tAft (i : Nat) (t : TS) : TS := fun D σ H => t { D with nx := fun σ' H' => ∃ a u, σ'[i]? = some (some (.ref a)) ∧ H' a = some u ∧ Mut (some u) ∧ ∀ od, D.nx σ' (upd H' a (.frz od u)) } σ H
inductive OD where
 | L (ds : List D) | M (ks : List (Str × D)) | P (ks : List (Str × Str))
inductive ORel (K : PySem.W.Frag) (G : Hp) : HO → OD → Prop
 | L {vs ds} : RelL K G vs ds → ORel K G (.lst vs) (.L ds)
 | M {kvs ks} : RelK K G kvs ks → ORel K G (.dK kvs) (.M ks)
 | P {ks : List (Str × Str)} : ORel K G (.dT (ks.map fun p => ([.inr p.1, .inr p.2], .bl true))) (.P ks)
theorem ORel.mono {K : PySem.W.Frag} {G G' : Hp} (e : Same G G') {u : HO} {o : OD} : ORel K G u o → ORel K G' u o
 | .L r => .L (r.mono e)
 | .M r => .M (r.mono e)
 | .P => .P
theorem ORel.mut {K : PySem.W.Frag} {G : Hp} {u : HO} {o : OD} (h : ORel K G u o) : Mut (some u) := by cases h <;> trivial
inductive Sl where
 | un | d (x : D) | ow (o : OD)
abbrev Sl.own (ds : List D) : Sl := .ow (.L ds)
def SlR (K : PySem.W.Frag) (hs : Option (Addr × Addr)) (H0 G H : Hp) (v : Option V) : Sl → Prop
 | .un => True
 | .d x => ∃ u, v = some u ∧ Rel K G u x
 | .ow od => ∃ p u, v = some (.ref p) ∧ H0 p = none ∧ Outs hs p ∧ G p = none ∧ H p = some u ∧ ORel K G u od
structure EnvR (K : PySem.W.Frag) (hs : Option (Addr × Addr)) (H0 G H : Hp) (σ : L2.St) (ρ : List Sl) : Prop where
 len : σ.length = ρ.length
 at_ : ∀ (i : Nat) (s : Sl), ρ[i]? = some s → ∃ v, σ[i]? = some v ∧ SlR K hs H0 G H v s
 apart : ∀ (i j : Nat) (ds es : OD) (p : Addr), ρ[i]? = some (.ow ds) → ρ[j]? = some (.ow es) → i ≠ j → σ[i]? = some (some (.ref p)) → σ[j]? ≠ some (some (.ref p))
section
variable {K : PySem.W.Frag} {hs : Option (Addr × Addr)} {H0 G H G' H' : Hp} {σ : L2.St} {ρ : List Sl}
theorem SlR.step {v : Option V} {s : Sl} (e : Step hs G H G' H') (h : SlR K hs H0 G H v s) : SlR K hs H0 G' H' v s := by
 cases s with
 | un => trivial
 | d x => obtain ⟨u, h1, h2⟩ := h; exact ⟨u, h1, h2.mono e.exg⟩
 | ow od =>
  obtain ⟨p, vs, h1, h2, h3, h4, h5, h6⟩ := h
  refine ⟨p, vs, h1, h2, h3, ?_, e.frm p _ h3 h5, h6.mono e.exg⟩
  cases q : G' p with
  | none => rfl
  | some o =>
   have := e.new p o q h4
   rw [h5] at this
   rcases this with z | ⟨_, z⟩
   ·cases z
   ·cases z; cases h6
theorem EnvR.step (e : Step hs G H G' H') (h : EnvR K hs H0 G H σ ρ) : EnvR K hs H0 G' H' σ ρ :=
 ⟨h.len, fun i s q => let ⟨v, a, b⟩ := h.at_ i s q; ⟨v, a, b.step e⟩, h.apart⟩
theorem EnvR.ownL {i : Nat} {ds : List D} (h : EnvR K hs H0 G H σ ρ) (e : ρ[i]? = some (.own ds)) : ∃ v, σ[i]? = some v ∧ ∃ p vs, v = some (.ref p) ∧ H0 p = none ∧ Outs hs p ∧ G p = none ∧ H p = some (.lst vs) ∧ RelL K G vs ds := by
 obtain ⟨v, a, p, u, h1, h2, h3, h4, h5, h6⟩ := h.at_ i _ e
 cases h6 with | L r => exact ⟨v, a, p, _, h1, h2, h3, h4, h5, r⟩
theorem EnvR.var {i : Nat} {x : D} (h : EnvR K hs H0 G H σ ρ) (e : ρ[i]? = some (.d x)) : ∃ v, σ[i]? = some (some v) ∧ Rel K G v x := by
 obtain ⟨v, a, u, rfl, r⟩ := h.at_ i _ e
 exact ⟨u, a, r⟩
theorem EnvR.set {i : Nat} {v : Option V} {s : Sl} (h : EnvR K hs H0 G H σ ρ) (hs' : SlR K hs H0 G H v s) (no : ∀ ds, s ≠ .ow ds) : EnvR K hs H0 G H (σ.set i v) (ρ.set i s) := by
 refine ⟨by rw [List.length_set, List.length_set]; exact h.len, fun j t q => ?_, fun j k ds es p q1 q2 ne e1 e2 => ?_⟩
 ·by_cases e : i = j
  ·subst e
   rw [List.getElem?_set] at q
   rw [List.getElem?_set]
   simp only [if_true] at q ⊢
   split at q
   ·rename_i hl
    have hl' : i < σ.length := by rw [h.len]; exact hl
    rw [if_pos hl']
    cases q
    exact ⟨v, rfl, hs'⟩
   ·cases q
  ·rw [List.getElem?_set_ne e] at q ⊢
   exact h.at_ j t q
 ·by_cases a : i = j
  ·subst a
   rw [List.getElem?_set] at q1
   simp only [if_true] at q1
   split at q1
   ·cases q1; exact no _ rfl
   ·cases q1
  ·by_cases b : i = k
   ·subst b
    rw [List.getElem?_set] at q2
    simp only [if_true] at q2
    split at q2
    ·cases q2; exact no _ rfl
    ·cases q2
   ·rw [List.getElem?_set_ne a] at q1 e1
    rw [List.getElem?_set_ne b] at q2 e2
    exact h.apart j k ds es p q1 q2 ne e1 e2
end
end PD
set_option Elab.async false
set_option linter.all false
set_option maxRecDepth 100000
set_option maxHeartbeats 1000000
namespace PD
open PySem L2
variable [Tabs]
structure Fr (hs : Option (Addr × Addr)) (G H : Hp) : Prop where
 sub : Same G H
 st : HSt hs G H
theorem Step.fr {hs : Option (Addr × Addr)} {G H G' H' : Hp} (s : Step hs G H G' H') : Fr hs G' H' := ⟨s.sub, s.st⟩
theorem Fr.refl {hs : Option (Addr × Addr)} {G H : Hp} (f : Fr hs G H) : Step hs G H G H := Step.refl f.sub f.st
theorem Fr.none {hs : Option (Addr × Addr)} {G H : Hp} (f : Fr hs G H) : Fr Option.none G H := ⟨f.sub, f.st.1, trivial⟩
theorem Fr.outs {hs : Option (Addr × Addr)} {G H : Hp} (f : Fr hs G H) {p : Addr} (hp : H p = Option.none) : Outs hs p := outs_of f.st hp
theorem Step.lift {hs : Option (Addr × Addr)} {G H G' H' : Hp} (f : Fr hs G H) (s : Step Option.none G H G' H') : Step hs G H G' H' := by
 refine ⟨fun a o q e => s.frm a o ⟨q.1, trivial⟩ e, s.exg, s.sub, s.nw, s.st.1, ?_⟩
 cases hs with
 | none => trivial
 | some q =>
  obtain ⟨ah, as⟩ := q
  obtain ⟨h0, h1, h2, m, k, ns, h3, h4, h5⟩ := f.st.2
  have o1 : Outs Option.none ah := ⟨f.st.1.ne h3 fun ps z => (by cases z), trivial⟩
  have o2 : Outs Option.none as := ⟨f.st.1.ne h4 fun ps z => (by cases z), trivial⟩
  refine ⟨h0, ?_, ?_, m, k, ns, s.frm _ _ o1 h3, s.frm _ _ o2 h4, h5⟩
  ·cases q : G' ah with
   | none => rfl
   | some o =>
    have := s.new ah o q h1
    rw [h3] at this; rcases this with z | ⟨_, z⟩ <;> cases z
  ·cases q : G' as with
   | none => rfl
   | some o =>
    have := s.new as o q h2
    rw [h4] at this; rcases this with z | ⟨_, z⟩ <;> cases z
theorem Step.freeze {hs : Option (Addr × Addr)} {G H G' H' : Hp} {p : Addr} {o : HO} (s : Step hs G H G' H') (h0 : H p = Option.none) (ho : Outs hs p) (hg : G' p = Option.none) (hp : H' p = some o) : Step hs G H (upd G' p o) H' := by
 refine ⟨s.frm, fun a u e => ?_, fun a u e => ?_, fun a u e n => ?_, ?_, ?_⟩
 ·have q := s.exg a u e
  rw [upd_ne (ne_of_none q hg)]; exact q
 ·by_cases q : a = p
  ·rw [q] at e ⊢; rw [upd_same] at e; rw [hp]; exact e
  ·rw [upd_ne q] at e; exact s.sub a u e
 ·by_cases q : a = p
  ·rw [q]; exact .inl h0
  ·rw [upd_ne q] at e; exact s.nw a u e n
 ·exact s.st.1.ext (fun b u e => e) (fun a u e => by rw [upd_ne (ne_of_none e hg)]; exact e) fun q hq => by rw [upd_ne (ho.1 q hq).symm]; exact (s.st.1 q hq).1
 ·have h := s.st.2
  cases hs with
  | none => trivial
  | some q =>
   obtain ⟨ah, as⟩ := q
   obtain ⟨h0, h1, h2, h3⟩ := h
   obtain ⟨o1, o2⟩ := ho.2
   exact ⟨h0, by rw [upd_ne o1.symm]; exact h1, by rw [upd_ne o2.symm]; exact h2, h3⟩
theorem Step.mut {hs : Option (Addr × Addr)} {G H G' H' : Hp} {p : Addr} {o : HO} (s : Step hs G H G' H') (h0 : H p = Option.none) (ho : Outs hs p) (hg : G' p = Option.none) : Step hs G H G' (upd H' p o) := by
 refine ⟨fun a u q e => by rw [upd_ne (ne_of_none e h0)]; exact s.frm a u q e, s.exg, fun a u e => by rw [upd_ne (ne_of_none e hg)]; exact s.sub a u e, s.nw, s.st.1.mut ho.1, ?_⟩
 have h := s.st.2
 cases hs with
 | none => trivial
 | some q =>
  obtain ⟨ah, as⟩ := q
  obtain ⟨h0, h1, h2, m, k, ns, h3, h4, h5⟩ := h
  obtain ⟨o1, o2⟩ := ho.2
  exact ⟨h0, h1, h2, m, k, ns, by rw [upd_ne o1.symm]; exact h3, by rw [upd_ne o2.symm]; exact h4, h5⟩
theorem Step.back {hs : Option (Addr × Addr)} {G H G' H' : Hp} (s1 : Step hs G H G' H') {p : Addr} (hp : H' p = Option.none) : H p = Option.none := by
 cases e : H p with
 | none => rfl
 | some o =>
  have := s1.frm p o (outs_of s1.st hp) e
  rw [this] at hp; cases hp
section
variable (K : PySem.W.Frag) (hs : Option (Addr × Addr))
def dE (t : TE) (ρ : List Sl) (k : D → Prop) : Prop := ∀ (H0 : Hp) (σ : L2.St) (G H : Hp) (Q : VK), Fr hs G H → EnvR K hs H0 G H σ ρ → (∀ v G' H' d, Step hs G H G' H' → Rel K G' v d → k d → Q v H') → t σ H Q
def dL (t : TE) (ρ : List Sl) (k : List D → Prop) : Prop := ∀ (H0 : Hp) (σ : L2.St) (G H : Hp) (Q : VK), Fr hs G H → EnvR K hs H0 G H σ ρ →
 (∀ p vs G' H' ds, Step hs G H G' H' → H p = none → G' p = none → H' p = some (.lst vs) → RelL K G' vs ds → k ds → Q (.ref p) H') → t σ H Q
def dM (t : TE) (ρ : List Sl) (k : List (Str × D) → Prop) : Prop := ∀ (H0 : Hp) (σ : L2.St) (G H : Hp) (Q : VK), Fr hs G H → EnvR K hs H0 G H σ ρ →
 (∀ p kvs G' H' ks, Step hs G H G' H' → H p = none → G' p = none → H' p = some (.dK kvs) → RelK K G' kvs ks → k ks → Q (.ref p) H') → t σ H Q
def dT (t : TT) (ρ : List Sl) (k : Bool → Prop) : Prop := ∀ (H0 : Hp) (σ : L2.St) (G H : Hp) (Q : Bool → Hp → Prop), Fr hs G H → EnvR K hs H0 G H σ ρ → (∀ b G' H', Step hs G H G' H' → k b → Q b H') → t σ H Q
def dA (t : TA) (ρ : List Sl) (k : List D → Prop) : Prop := ∀ (H0 : Hp) (σ : L2.St) (G H : Hp) (Q : List V → Hp → Prop), Fr hs G H → EnvR K hs H0 G H σ ρ → (∀ vs G' H' ds, Step hs G H G' H' → RelL K G' vs ds → k ds → Q vs H') → t σ H Q
def dO (t : TO) (ρ : List Sl) (k : Option Int → Prop) : Prop := ∀ (H0 : Hp) (σ : L2.St) (G H : Hp) (Q : Option Int → Hp → Prop), Fr hs G H → EnvR K hs H0 G H σ ρ → (∀ i G' H', Step hs G H G' H' → k i → Q i H') → t σ H Q
def dR (r : R2) (x y : D) (k : D → Prop) : Prop := ∀ (G H : Hp) (v u : V) (Q : VK), Fr hs G H → Rel K G v x → Rel K G u y → (∀ z G' H' d, Step hs G H G' H' → Rel K G' z d → k d → Q z H') → r v u H Q
def dU (r : V → Hp → VK → Prop) (x : D) (k : D → Prop) : Prop := ∀ (G H : Hp) (v : V) (Q : VK), Fr hs G H → Rel K G v x → (∀ z G' H' d, Step hs G H G' H' → Rel K G' z d → k d → Q z H') → r v H Q
def dC (r : List V → Hp → VK → Prop) (xs : List D) (k : D → Prop) : Prop := ∀ (G H : Hp) (vs : List V) (Q : VK), Fr hs G H → RelL K G vs xs → (∀ z G' H' d, Step hs G H G' H' → Rel K G' z d → k d → Q z H') → r vs H Q
def Yields (J : It) (G : Hp) (ds : List D) : Prop := ∀ (G' H' : Hp), Same G G' → Fr hs G' H' → ∀ i : Nat, (i < ds.length → J.go i H' ∧ ∀ x H'', J.yld i H' x H'' → ∃ G'', Step hs G' H' G'' H'' ∧ ∀ d, ds[i]? = some d → Rel K G'' x d) ∧ (ds.length ≤ i → J.stop i H')
def dI (t : TI) (ρ : List Sl) (k : List D → Prop) : Prop := ∀ (H0 : Hp) (σ : L2.St) (G H : Hp) (R : It → Hp → Prop), Fr hs G H → EnvR K hs H0 G H σ ρ → (∀ J G' H' ds, Step hs G H G' H' → Yields K hs J G' ds → k ds → R J H') → t σ H R
def dG (g : TG) (js : Option (List Nat)) (d : D) (ρ : List Sl) (k : List Sl → Prop) : Prop := ∀ (H0 : Hp) (σ : L2.St) (G H : Hp) (v : V) (Q : L2.St → Hp → Prop), Fr hs G H → EnvR K hs H0 G H σ ρ → Rel K G v d →
 (∀ σ' ρ', EnvR K hs H0 G H σ' ρ' → (∀ l, js = some l → wipe σ' l = wipe σ l) → k ρ' → Q σ' H) → g v σ H Q
def dGs (g : TGs) (js : Option (List Nat)) (ds : List D) (ρ : List Sl) (k : List Sl → Prop) : Prop := ∀ (H0 : Hp) (σ : L2.St) (G H : Hp) (vs : List V) (Q : L2.St → Hp → Prop), Fr hs G H → EnvR K hs H0 G H σ ρ → RelL K G vs ds →
 (∀ σ' ρ', EnvR K hs H0 G H σ' ρ' → (∀ l, js = some l → wipe σ' l = wipe σ l) → k ρ' → Q σ' H) → g vs σ H Q
end
structure DEnds where
 nx : List Sl → Prop
 rt : D → Prop
 bk : List Sl → Prop := fun _ => False
 ct : List Sl → Prop := fun _ => False
structure Ends' (K : PySem.W.Frag) (hs : Option (Addr × Addr)) (G0 H0 Gb : Hp) (E : DEnds) (D : Ends) : Prop where
 nx : ∀ σ G H ρ, Step hs G0 H0 G H → Same Gb G → EnvR K hs H0 G H σ ρ → E.nx ρ → D.nx σ H
 rt : ∀ v G H d, Step hs G0 H0 G H → Rel K G v d → E.rt d → D.rt v H
 bk : ∀ σ G H ρ, Step hs G0 H0 G H → Same Gb G → EnvR K hs H0 G H σ ρ → E.bk ρ → D.bk σ H
 ct : ∀ σ G H ρ, Step hs G0 H0 G H → Same Gb G → EnvR K hs H0 G H σ ρ → E.ct ρ → D.ct σ H
def dS (K : PySem.W.Frag) (hs : Option (Addr × Addr)) (t : TS) (ρ : List Sl) (E : DEnds) : Prop := ∀ (G0 H0 Gb : Hp) (σ : L2.St) (G H : Hp) (D : Ends), Step hs G0 H0 G H → Same Gb G → EnvR K hs H0 G H σ ρ → Ends' K hs G0 H0 Gb E D → t D σ H
def toV : D → Option V
 | .non => some .non
 | .bl b => some (.bl b)
 | .int i => some (.int i)
 | .str x => some (.str x)
 | .ty n => some (.ty n)
 | _ => none
def toD : V → Option D
 | .non => some .non
 | .bl b => some (.bl b)
 | .int i => some (.int i)
 | .str x => some (.str x)
 | .ref a => some (.adr a)
 | .ty n => some (.ty n)
 | _ => none
theorem rel_toD {K : PySem.W.Frag} {G : Hp} {v : V} {d : D} (h : toD v = some d) : Rel K G v d := by
 cases v <;> simp only [toD, Option.some.injEq, reduceCtorEq] at h <;> subst h <;> constructor
theorem of_rel {K : PySem.W.Frag} {G : Hp} {v u : V} {d : D} (r : Rel K G v d) (h : toV d = some u) : v = u := by
 cases r <;> simp only [toV, Option.some.injEq, reduceCtorEq] at h <;> exact h
theorem rel_int {K : PySem.W.Frag} {G : Hp} {v : V} {i : Int} (r : Rel K G v (.int i)) : v = .int i := by cases r; rfl
theorem rel_bl {K : PySem.W.Frag} {G : Hp} {v : V} {i : Bool} (r : Rel K G v (.bl i)) : v = .bl i := by cases r; rfl
theorem rel_str {K : PySem.W.Frag} {G : Hp} {v : V} {i : Str} (r : Rel K G v (.str i)) : v = .str i := by cases r; rfl
theorem rel_tup {K : PySem.W.Frag} {G : Hp} {v : V} {ds : List D} (r : Rel K G v (.tup ds)) : ∃ a vs, v = .ref a ∧ SqT K G a vs ∧ RelL K G vs ds := by cases r with | tup h r => exact ⟨_, _, rfl, h, r⟩
theorem rel_lst {K : PySem.W.Frag} {G : Hp} {v : V} {ds : List D} (r : Rel K G v (.lst ds)) : ∃ a vs, v = .ref a ∧ G a = some (.lst vs) ∧ RelL K G vs ds := by cases r with | lst h r => exact ⟨_, _, rfl, h, r⟩
theorem rel_dct {K : PySem.W.Frag} {G : Hp} {v : V} {ks : List (Str × D)} (r : Rel K G v (.dct ks)) : ∃ a o kvs, v = .ref a ∧ G a = some (.frz o (.dK kvs)) ∧ RelK K G kvs ks := by cases r with | dct h r => exact ⟨_, _, _, rfl, h, r⟩
theorem rel_adr {K : PySem.W.Frag} {G : Hp} {v : V} {a : Addr} (r : Rel K G v (.adr a)) : v = .ref a := by cases r; rfl
section
variable {K : PySem.W.Frag} {hs : Option (Addr × Addr)} {ρ : List Sl} {k : D → Prop} {ta tb tc te : TE} {t u : TT} {r : R2} {kb : Bool → Prop}
theorem d_var {i : Nat} {x : D} (e : ρ[i]? = some (.d x)) (q : k x) : dE K hs (tVar i) ρ k := fun H0 σ G H Q f R z => by
 obtain ⟨v, h1, h2⟩ := R.var e
 exact ⟨v, h1, z v G H x f.refl h2 q⟩
theorem d_c {v : V} {x : D} (e : toD v = some x) (q : k x) : dE K hs (tC v) ρ k := fun H0 σ G H Q f R z => z v G H x f.refl (rel_toD e) q
theorem d_cK {v : V} {x : D} (e : ∀ G, Rel K G v x) (q : k x) : dE K hs (tC v) ρ k := fun H0 σ G H Q f R z => z v G H x f.refl (e G) q
theorem d_op (h : dE K hs ta ρ fun x => dE K hs tb ρ fun y => dR K hs r x y k) : dE K hs (tOp r ta tb) ρ k := fun H0 σ G H Q f R z =>
 h H0 σ G H _ f R fun v G1 H1 x s1 r1 h1 => h1 H0 σ G1 H1 _ s1.fr (R.step s1) fun w G2 H2 y s2 r2 h2 => h2 G2 H2 v w Q s2.fr (r1.mono s2.exg) r2 fun z' G3 H3 d s3 r3 q => z z' G3 H3 d ((s1.trans s2).trans s3) r3 q
theorem d_un {r : V → Hp → VK → Prop} (h : dE K hs ta ρ fun x => dU K hs r x k) : dE K hs (tUn r ta) ρ k := fun H0 σ G H Q f R z =>
 h H0 σ G H _ f R fun v G1 H1 x s1 r1 h1 => h1 G1 H1 v Q s1.fr r1 fun z' G3 H3 d s3 r3 q => z z' G3 H3 d (s1.trans s3) r3 q
theorem d_chain {r r' : R2} (h : dE K hs ta ρ fun x => dE K hs tb ρ fun y => dR K hs r x y fun z => ∃ b, z = .bl b ∧ (b = true → dE K hs tc ρ fun w => dR K hs r' y w k) ∧ (b = false → k (.bl false))) : dE K hs (tChain r r' ta tb tc) ρ k := fun H0 σ G H Q f R z =>
 h H0 σ G H _ f R fun v G1 H1 x s1 r1 h1 => h1 H0 σ G1 H1 _ s1.fr (R.step s1) fun w G2 H2 y s2 r2 h2 => h2 G2 H2 v w _ s2.fr (r1.mono s2.exg) r2 fun z' G3 H3 d s3 r3 ⟨b, e, q1, q2⟩ => by
  subst e
  refine ⟨b, rel_bl r3, ?_⟩
  cases b with
  | true =>
   rw [if_pos rfl]
   exact q1 rfl H0 σ G3 H3 _ s3.fr (R.step ((s1.trans s2).trans s3)) fun w' G4 H4 y' s4 r4 h4 => h4 G4 H4 w w' Q s4.fr (r2.mono (s3.trans s4).exg) r4 fun z'' G5 H5 d s5 r5 q => z z'' G5 H5 d ((((s1.trans s2).trans s3).trans s4).trans s5) r5 q
  | false =>
   rw [if_neg Bool.false_ne_true]
   exact z _ G3 H3 _ ((s1.trans s2).trans s3) .bl (q2 rfl)
theorem d_test (h : dE K hs te ρ fun x => ∃ b, x = .bl b ∧ kb b) : dT K hs (tTest te) ρ kb := fun H0 σ G H Q f R z =>
 h H0 σ G H _ f R fun v G1 H1 x s1 r1 ⟨b, e, q⟩ => by
  subst e
  exact ⟨b, rel_bl r1, z b G1 H1 s1 q⟩
theorem d_tB (h : dE K hs te ρ fun x => ∃ b, x = .bl b ∧ kb b) : dT K hs (tB te) ρ kb := fun H0 σ G H Q f R z =>
 h H0 σ G H _ f R fun v G1 H1 x s1 r1 ⟨b, e, q⟩ => by
  subst e
  exact ⟨b, rel_bl r1, z b G1 H1 s1 q⟩
theorem d_and (h : dT K hs t ρ fun b => (b = true → dT K hs u ρ kb) ∧ (b = false → kb false)) : dT K hs (tAnd t u) ρ kb := fun H0 σ G H Q f R z =>
 h H0 σ G H _ f R fun b G1 H1 s1 ⟨q1, q2⟩ => by
  cases b with
  | true => rw [if_pos rfl]; exact q1 rfl H0 σ G1 H1 _ s1.fr (R.step s1) fun b G2 H2 s2 q => z b G2 H2 (s1.trans s2) q
  | false => rw [if_neg Bool.false_ne_true]; exact z _ G1 H1 s1 (q2 rfl)
theorem d_or (h : dT K hs t ρ fun b => (b = true → kb true) ∧ (b = false → dT K hs u ρ kb)) : dT K hs (tOr t u) ρ kb := fun H0 σ G H Q f R z =>
 h H0 σ G H _ f R fun b G1 H1 s1 ⟨q1, q2⟩ => by
  cases b with
  | false => rw [if_neg Bool.false_ne_true]; exact q2 rfl H0 σ G1 H1 _ s1.fr (R.step s1) fun b G2 H2 s2 q => z b G2 H2 (s1.trans s2) q
  | true => rw [if_pos rfl]; exact z _ G1 H1 s1 (q1 rfl)
theorem d_not (h : dT K hs t ρ fun b => kb (!b)) : dT K hs (tNot t) ρ kb := fun H0 σ G H Q f R z =>
 h H0 σ G H _ f R fun b G1 H1 s1 q => z _ G1 H1 s1 q
theorem d_yes (h : kb true) : dT K hs tYes ρ kb := fun H0 σ G H Q f R z => z true G H f.refl h
theorem d_andV (h : dE K hs ta ρ fun x => ∃ b, x = .bl b ∧ (b = true → dE K hs tb ρ k) ∧ (b = false → k (.bl false))) : dE K hs (tAndV ta tb) ρ k := fun H0 σ G H Q f R z =>
 h H0 σ G H _ f R fun v G1 H1 x s1 r1 ⟨b, e, q1, q2⟩ => by
  subst e
  refine ⟨b, rel_bl r1, ?_⟩
  cases b with
  | true => rw [if_pos rfl]; exact q1 rfl H0 σ G1 H1 _ s1.fr (R.step s1) fun b G2 H2 d s2 r2 q => z b G2 H2 d (s1.trans s2) r2 q
  | false => rw [if_neg Bool.false_ne_true]; exact z _ G1 H1 _ s1 .bl (q2 rfl)
theorem d_orV (h : dE K hs ta ρ fun x => ∃ b, x = .bl b ∧ (b = true → k (.bl true)) ∧ (b = false → dE K hs tb ρ k)) : dE K hs (tOrV ta tb) ρ k := fun H0 σ G H Q f R z =>
 h H0 σ G H _ f R fun v G1 H1 x s1 r1 ⟨b, e, q1, q2⟩ => by
  subst e
  refine ⟨b, rel_bl r1, ?_⟩
  cases b with
  | false => rw [if_neg Bool.false_ne_true]; exact q2 rfl H0 σ G1 H1 _ s1.fr (R.step s1) fun b G2 H2 d s2 r2 q => z b G2 H2 d (s1.trans s2) r2 q
  | true => rw [if_pos rfl]; exact z _ G1 H1 _ s1 .bl (q1 rfl)
theorem d_notV (h : dE K hs ta ρ fun x => ∃ b, x = .bl b ∧ k (.bl (!b))) : dE K hs (tNotV ta) ρ k := fun H0 σ G H Q f R z =>
 h H0 σ G H _ f R fun v G1 H1 x s1 r1 ⟨b, e, q⟩ => by
  subst e
  exact ⟨b, rel_bl r1, z _ G1 H1 _ s1 .bl q⟩
theorem d_ifE (h : dT K hs t ρ fun b => (b = true → dE K hs ta ρ k) ∧ (b = false → dE K hs tb ρ k)) : dE K hs (tIf t ta tb) ρ k := fun H0 σ G H Q f R z =>
 h H0 σ G H _ f R fun b G1 H1 s1 ⟨q1, q2⟩ => by
  cases b with
  | true => rw [if_pos rfl]; exact q1 rfl H0 σ G1 H1 _ s1.fr (R.step s1) fun b G2 H2 d s2 r2 q => z b G2 H2 d (s1.trans s2) r2 q
  | false => rw [if_neg Bool.false_ne_true]; exact q2 rfl H0 σ G1 H1 _ s1.fr (R.step s1) fun b G2 H2 d s2 r2 q => z b G2 H2 d (s1.trans s2) r2 q
variable {kl : List D → Prop} {tx : TA}
theorem d_nil (q : kl []) : dA K hs tNil ρ kl := fun H0 σ G H Q f R z => z [] G H [] f.refl .nil q
theorem d_cons (h : dE K hs ta ρ fun x => dA K hs tx ρ fun xs => kl (x :: xs)) : dA K hs (tCons ta tx) ρ kl := fun H0 σ G H Q f R z =>
 h H0 σ G H _ f R fun v G1 H1 x s1 r1 h1 => h1 H0 σ G1 H1 _ s1.fr (R.step s1) fun vs G2 H2 xs s2 r2 q => z (v :: vs) G2 H2 (x :: xs) (s1.trans s2) (.cons (r1.mono s2.exg) r2) q
theorem sz {n : Nat} (h : n ≤ 100000) : n ≤ sizeLine := Nat.le_trans h (by decide)
theorem d_tup (h : dA K hs tx ρ fun xs => xs.length ≤ 100000 ∧ k (.tup xs)) : dE K hs (tTup tx) ρ k := fun H0 σ G H Q f R z =>
 h H0 σ G H _ f R fun vs G1 H1 xs s1 r1 ⟨l, q⟩ => ⟨sz (by rw [r1.length]; exact l), fun p hp =>
  have s2 : Step hs G1 H1 _ _ := Step.alloc s1.sub s1.st hp
  z (.ref p) (upd G1 p (.tup vs)) (upd H1 p (.tup vs)) (.tup xs) (s1.trans s2) (.tup (.inl (.inl upd_same)) (r1.mono s2.exg)) q⟩
theorem l_lst (h : dA K hs tx ρ fun xs => xs.length ≤ 100000 ∧ kl xs) : dL K hs (tLst tx) ρ kl := fun H0 σ G H Q f R z =>
 h H0 σ G H _ f R fun vs G1 H1 xs s1 r1 ⟨l, q⟩ => ⟨sz (by rw [r1.length]; exact l), fun p hp => by
  have hH : H p = none := s1.back hp
  exact z p vs G1 (upd H1 p (.lst vs)) xs (s1.trans (Step.fresh s1.sub s1.st hp)) hH (Same.free s1.sub hp) upd_same r1 q⟩
theorem d_ofL (h : dL K hs te ρ fun xs => k (.lst xs)) : dE K hs te ρ k := fun H0 σ G H Q f R z =>
 h H0 σ G H Q f R fun p vs G1 H1 xs s h0 g0 hp r q => by
  have s2 := s.freeze h0 (f.outs h0) g0 hp
  refine z (.ref p) _ H1 (.lst xs) s2 (.lst upd_same (r.mono ?_)) q
  intro a o e
  rw [upd_ne (ne_of_none e g0)]; exact e
theorem d_lst (h : dA K hs tx ρ fun xs => xs.length ≤ 100000 ∧ k (.lst xs)) : dE K hs (tLst tx) ρ k := d_ofL (l_lst h)
theorem d_cb {rc : List V → Hp → VK → Prop} (h : dA K hs tx ρ fun xs => dC K hs rc xs k) : dE K hs (tCB rc tx) ρ k := fun H0 σ G H Q f R z =>
 h H0 σ G H _ f R fun vs G1 H1 xs s1 r1 q => q G1 H1 vs Q s1.fr r1 fun z' G2 H2 d s2 r2 q2 => z z' G2 H2 d (s1.trans s2) r2 q2
theorem d_frz (h : dM K hs te ρ fun ks => k (.dct ks)) : dE K hs (tFrz te) ρ k := fun H0 σ G H Q f R z =>
 h H0 σ G H _ f R fun p kvs G1 H1 ks s h0 g0 hp r q => ⟨p, _, rfl, hp, trivial, fun od => by
  have ho := f.outs h0
  have s2 := (s.mut (o := .frz od (.dK kvs)) h0 ho g0).freeze h0 ho g0 upd_same
  refine z (.ref p) _ _ (.dct ks) s2 (.dct upd_same (RelK.mono ?_ r)) q
  intro a o e
  rw [upd_ne (ne_of_none e g0)]; exact e⟩
theorem r_I0 {g : Int → Int → V} {i j : Int} {d : D} (e : toD (g i j) = some d) (q : k d) : dR K hs (rI0 g) (.int i) (.int j) k := fun G H v u Q f r1 r2 z =>
 ⟨i, j, rel_int r1, rel_int r2, z _ G H d f.refl (rel_toD e) q⟩
theorem u_I {g : Int → V} {i : Int} {d : D} (e : toD (g i) = some d) (q : k d) : dU K hs (rU g) (.int i) k := fun G H v Q f r1 z => ⟨i, rel_int r1, z _ G H d f.refl (rel_toD e) q⟩
theorem r_eq {x y : D} {u v : V} (ex : toV x = some u) (ey : toV y = some v) (sc : scal u v = true) (q : k (.bl (decide (u = v)))) : dR K hs rEq x y k := fun G H a b Q f r1 r2 z => by
 rw [of_rel r1 ex, of_rel r2 ey]
 exact ⟨sc, z _ G H _ f.refl .bl q⟩
theorem r_ne {x y : D} {u v : V} (ex : toV x = some u) (ey : toV y = some v) (sc : scal u v = true) (q : k (.bl (!decide (u = v)))) : dR K hs rNe x y k := fun G H a b Q f r1 r2 z => by
 rw [of_rel r1 ex, of_rel r2 ey]
 exact ⟨sc, z _ G H _ f.refl .bl q⟩
theorem str_eq {a b : Str} : decide (V.str a = V.str b) = decide (a = b) := by
 by_cases e : a = b
 ·subst e; simp
 ·rw [decide_eq_false e, decide_eq_false (fun h => e (V.str.inj h))]
theorem r_eqS {x y : Str} (q : k (.bl (decide (x = y)))) : dR K hs rEq (.str x) (.str y) k := r_eq rfl rfl rfl (by rw [str_eq]; exact q)
theorem r_neS {x y : Str} (q : k (.bl (!decide (x = y)))) : dR K hs rNe (.str x) (.str y) k := r_ne rfl rfl rfl (by rw [str_eq]; exact q)
theorem r_isN {x : D} (q : k (.bl (match x with | .non => true | _ => false))) : dR K hs (fun x y H Q => y = .non ∧ Q (.bl (decide (x = .non))) H) x .non k := fun G H a b Q f r1 r2 z => by
 refine ⟨by cases r2; rfl, z _ G H _ f.refl .bl ?_⟩
 cases r1 <;> exact q
theorem r_notN {x : D} (q : k (.bl (match x with | .non => false | _ => true))) : dR K hs (fun x y H Q => y = .non ∧ Q (.bl (!decide (x = .non))) H) x .non k := fun G H a b Q f r1 r2 z => by
 refine ⟨by cases r2; rfl, z _ G H _ f.refl .bl ?_⟩
 cases r1 <;> exact q
theorem atI_get {α : Type} {xs : List α} {i : Int} {j : Nat} {d : α} (e : i = (j : Int)) (h : xs[j]? = some d) : atI xs i = some d := by rw [e]; exact atI_nat h
theorem r_ixT {ds : List D} {i : Int} {d : D} (e : atI ds i = some d) (q : k d) : dR K hs (rIxT K) (.tup ds) (.int i) k := fun G H v u Q f r1 r2 z => by
 obtain ⟨a, vs, rfl, h, r⟩ := rel_tup r1
 have e' : ixN ds.length i = ixN vs.length i := by rw [r.length]
 unfold atI at e
 rw [e'] at e
 cases hj : ixN vs.length i with
 | none => rw [hj] at e; cases e
 | some j =>
  rw [hj] at e
  obtain ⟨w, h1, h2⟩ := r.getD (show ds[j]? = some d from e)
  exact ⟨a, vs, i, w, rfl, rel_int r2, Same.tseq f.sub h, (by unfold atI; rw [hj]; exact h1), z w G H d f.refl h2 q⟩
theorem r_ixL {ds : List D} {i : Int} {d : D} (e : atI ds i = some d) (q : k d) : dR K hs (rIxL K) (.lst ds) (.int i) k := fun G H v u Q f r1 r2 z => by
 obtain ⟨a, vs, rfl, h, r⟩ := rel_lst r1
 have e' : ixN ds.length i = ixN vs.length i := by rw [r.length]
 unfold atI at e
 rw [e'] at e
 cases hj : ixN vs.length i with
 | none => rw [hj] at e; cases e
 | some j =>
  rw [hj] at e
  obtain ⟨w, h1, h2⟩ := r.getD (show ds[j]? = some d from e)
  exact ⟨a, vs, i, w, rfl, rel_int r2, SqL.of (f.sub _ _ h), (by unfold atI; rw [hj]; exact h1), z w G H d f.refl h2 q⟩
theorem r_ix {x y : D} (h : dR K hs (rIxL K) x y k ∨ dR K hs (rIxT K) x y k) : dR K hs (rIx K) x y k := fun G H v u Q f r1 r2 z => by
 rcases h with h | h
 ·exact .inl (h G H v u Q f r1 r2 z)
 ·exact .inr (.inl (h G H v u Q f r1 r2 z))
def strsOf (ss : List Str) : List D := ss.map D.str
theorem rel_strs {G : Hp} : ∀ {vs : List V} {ss : List Str}, RelL K G vs (strsOf ss) → vs = ss.map V.str
 | _, [], .nil => rfl
 | _, s :: ss, .cons r t => by rw [rel_str r, rel_strs t]; rfl
theorem inV_str {s : Str} : ∀ {ss : List Str}, inV (.str s) (ss.map V.str) = decide (s ∈ ss)
 | [] => by simp [inV]
 | x :: ss => by
  have ih := inV_str (s := s) (ss := ss)
  unfold inV at ih ⊢
  rw [List.map_cons, List.any_cons, ih]
  show (x == s || decide (s ∈ ss)) = _
  rw [Bool.eq_iff_iff, Bool.or_eq_true, beq_iff_eq, decide_eq_true_iff, decide_eq_true_iff, List.mem_cons]
  exact ⟨fun h => h.elim (fun e => .inl e.symm) .inr, fun h => h.elim (fun e => .inl e.symm) .inr⟩
theorem flat_strs : ∀ {ss : List Str}, (ss.map V.str).all flatV = true
 | [] => rfl
 | _ :: ss => by rw [List.map_cons, List.all_cons, flat_strs]; rfl
theorem r_inT {neg : Bool} {s : Str} {ss : List Str} (q : k (.bl (if neg then !decide (s ∈ ss) else decide (s ∈ ss)))) : dR K hs (rIn K neg) (.str s) (.tup (strsOf ss)) k := fun G H v u Q f r1 r2 z => by
 obtain ⟨a, vs, rfl, h, r⟩ := rel_tup r2
 have e := rel_strs r
 subst e
 rw [rel_str r1]
 refine ⟨a, _, rfl, .inr (Same.tseq f.sub h), rfl, flat_strs, ?_⟩
 rw [inV_str]
 exact z _ G H _ f.refl .bl q
theorem r_inL {neg : Bool} {s : Str} {ss : List Str} (q : k (.bl (if neg then !decide (s ∈ ss) else decide (s ∈ ss)))) : dR K hs (rIn K neg) (.str s) (.lst (strsOf ss)) k := fun G H v u Q f r1 r2 z => by
 obtain ⟨a, vs, rfl, h, r⟩ := rel_lst r2
 have e := rel_strs r
 subst e
 rw [rel_str r1]
 refine ⟨a, _, rfl, .inl (SqL.of (f.sub _ _ h)), rfl, flat_strs, ?_⟩
 rw [inV_str]
 exact z _ G H _ f.refl .bl q
theorem r_catA {xs ys : List D} (hl : xs.length + ys.length ≤ 100000) (q : k (.tup (xs ++ ys))) : dR K hs (rCatA K) (.tup xs) (.tup ys) k := fun G H v u Q f r1 r2 z => by
 obtain ⟨a, vs, rfl, h, r⟩ := rel_tup r1
 obtain ⟨b, us, rfl, h', r'⟩ := rel_tup r2
 refine ⟨a, b, vs, us, rfl, rfl, Same.tseq f.sub h, Same.tseq f.sub h', sz (by rw [r.length, r'.length]; exact hl), fun e => ?_, fun _ e => ?_, fun _ _ p hp => ?_⟩
 ·subst e
  cases r
  exact z _ G H _ f.refl r2 q
 ·subst e
  cases r'
  rw [List.append_nil] at q
  exact z _ G H _ f.refl r1 q
 ·have s2 := Step.alloc (o := .tup (vs ++ us)) f.sub f.st hp
  exact z _ _ _ _ s2 (.tup (.inl (.inl upd_same)) ((r.append r').mono s2.exg)) q
theorem o_no {ko : Option Int → Prop} (q : ko none) : dO K hs tNoPart ρ ko := fun H0 σ G H Q f R z => z none G H f.refl q
theorem o_part {ko : Option Int → Prop} (h : dE K hs te ρ fun x => ∃ i, x = .int i ∧ ko (some i)) : dO K hs (tPart te) ρ ko := fun H0 σ G H Q f R z =>
 h H0 σ G H _ f R fun v G1 H1 x s1 r1 ⟨i, e, q⟩ => by
  subst e
  exact ⟨i, rel_int r1, z _ G1 H1 s1 q⟩
def cutD (xs : List D) (lo hi : Option Int) : List D := (xs.drop (HT.sIx xs.length 0 lo)).take (HT.sIx xs.length xs.length hi - HT.sIx xs.length 0 lo)
theorem rel_cut {G : Hp} {vs : List V} {ds : List D} (r : RelL K G vs ds) (lo hi : Option Int) : RelL K G (cutV vs lo hi) (cutD ds lo hi) := by
 unfold cutV cutD
 rw [r.length]
 exact (r.drop _).take _
theorem d_slT {tl th : TO} (h : dE K hs te ρ fun x => dO K hs tl ρ fun l => dO K hs th ρ fun u => ∃ ds, x = .tup ds ∧ k (.tup (cutD ds l u))) : dE K hs (tSl (rSlA K) te tl th) ρ k := fun H0 σ G H Q f R z =>
 h H0 σ G H _ f R fun v G1 H1 x s1 r1 h1 => h1 H0 σ G1 H1 _ s1.fr (R.step s1) fun l G2 H2 s2 h2 => h2 H0 σ G2 H2 _ s2.fr (R.step (s1.trans s2)) fun hi G3 H3 s3 ⟨ds, e, q⟩ => by
  subst e
  obtain ⟨a, vs, rfl, hh, r⟩ := rel_tup (r1.mono (s2.trans s3).exg)
  refine ⟨a, vs, rfl, Same.tseq s3.sub hh, fun e => ?_, fun _ p hp => ?_⟩
  ·refine z _ G3 H3 _ ((s1.trans s2).trans s3) (r1.mono (s2.trans s3).exg) ?_
   have : cutD ds l hi = ds := by
    unfold cutD
    rw [r.length] at e
    rw [e.1, e.2]
    simp
   rw [this] at q
   exact q
  ·have s4 := Step.alloc (o := .tup (cutV vs l hi)) s3.sub s3.st hp
   exact z _ _ _ _ (((s1.trans s2).trans s3).trans s4) (.tup (.inl (.inl upd_same)) ((rel_cut r l hi).mono s4.exg)) q
theorem l_slL {tl th : TO} {kl : List D → Prop} (h : dE K hs te ρ fun x => dO K hs tl ρ fun l => dO K hs th ρ fun u => ∃ ds, x = .lst ds ∧ kl (cutD ds l u)) : dL K hs (tSl (rSlL K) te tl th) ρ kl := fun H0 σ G H Q f R z =>
 h H0 σ G H _ f R fun v G1 H1 x s1 r1 h1 => h1 H0 σ G1 H1 _ s1.fr (R.step s1) fun l G2 H2 s2 h2 => h2 H0 σ G2 H2 _ s2.fr (R.step (s1.trans s2)) fun hi G3 H3 s3 ⟨ds, e, q⟩ => by
  subst e
  obtain ⟨a, vs, rfl, hh, r⟩ := rel_lst (r1.mono (s2.trans s3).exg)
  refine ⟨a, vs, rfl, SqL.of (s3.sub _ _ hh), fun p hp => ?_⟩
  exact z p _ G3 _ _ (((s1.trans s2).trans s3).trans (Step.fresh s3.sub s3.st hp)) (((s1.trans s2).trans s3).back hp) (Same.free s3.sub hp) upd_same (rel_cut r l hi) q
theorem l_cat {kl : List D → Prop} (h : dE K hs ta ρ fun x => dE K hs tb ρ fun y => ∃ xs ys, x = .lst xs ∧ y = .lst ys ∧ xs.length + ys.length ≤ 100000 ∧ kl (xs ++ ys)) : dL K hs (tOp rCat ta tb) ρ kl := fun H0 σ G H Q f R z =>
 h H0 σ G H _ f R fun v G1 H1 x s1 r1 h1 => h1 H0 σ G1 H1 _ s1.fr (R.step s1) fun w G2 H2 y s2 r2 ⟨xs, ys, e1, e2, hl, q⟩ => by
  subst e1 e2
  obtain ⟨a, vs, rfl, hh, r⟩ := rel_lst (r1.mono s2.exg)
  obtain ⟨b, us, rfl, hh', r'⟩ := rel_lst r2
  refine ⟨a, b, vs, us, rfl, rfl, s2.sub _ _ hh, s2.sub _ _ hh', sz (by rw [r.length, r'.length]; exact hl), fun p hp => ?_⟩
  exact z p _ G2 _ _ ((s1.trans s2).trans (Step.fresh s2.sub s2.st hp)) ((s1.trans s2).back hp) (Same.free s2.sub hp) upd_same (r.append r') q
theorem c_lenS {x : D} {ds : List D} (e : x = .lst ds ∨ x = .tup ds) (q : k (.int (ds.length : Nat))) : dC K hs (fun xs H Q => ∃ p ys, xs = [.ref p] ∧ (SqL K H p ys ∨ SqT K H p ys) ∧ Q (.int ys.length) H) [x] k := fun G H vs Q f r z => by
 cases r with
 | cons r1 r2 =>
  cases r2
  rcases e with rfl | rfl
  ·obtain ⟨a, ws, rfl, hh, r⟩ := rel_lst r1
   refine ⟨a, ws, rfl, .inl (SqL.of (f.sub _ _ hh)), ?_⟩
   rw [r.length]
   exact z _ G H _ f.refl .int q
  ·obtain ⟨a, ws, rfl, hh, r⟩ := rel_tup r1
   refine ⟨a, ws, rfl, .inr (Same.tseq f.sub hh), ?_⟩
   rw [r.length]
   exact z _ G H _ f.refl .int q
end
end PD
set_option Elab.async false
set_option linter.all false
set_option maxRecDepth 100000
set_option maxHeartbeats 1000000
namespace PD
open PySem L2
variable [Tabs]
section
variable {K : PySem.W.Frag} {hs : Option (Addr × Addr)} {ρ : List Sl} {k : D → Prop} {ta tb tc te : TE} {tt : TT} {t u : TS} {E : DEnds}
theorem s_next (q : E.nx ρ) : dS K hs tNext ρ E := fun G0 H0 Gb σ G H D s b R z => z.nx σ G H ρ s b R q
theorem s_seq (h : dS K hs t ρ { E with nx := fun ρ' => dS K hs u ρ' E }) : dS K hs (tSeq t u) ρ E := fun G0 H0 Gb σ G H D s b R z =>
 h G0 H0 Gb σ G H _ s b R ⟨fun σ1 G1 H1 ρ1 s1 b1 R1 q => q G0 H0 Gb σ1 G1 H1 D s1 b1 R1 z, z.rt, z.bk, z.ct⟩
theorem s_ret (h : dE K hs te ρ E.rt) : dS K hs (tRet te) ρ E := fun G0 H0 Gb σ G H D s b R z =>
 h H0 σ G H _ s.fr R fun v G1 H1 d s1 r q => z.rt v G1 H1 d (s.trans s1) r q
theorem s_if (h : dT K hs tt ρ fun b => (b = true → dS K hs t ρ E) ∧ (b = false → dS K hs u ρ E)) : dS K hs (tIfS tt t u) ρ E := fun G0 H0 Gb σ G H D s b R z =>
 h H0 σ G H _ s.fr R fun c G1 H1 s1 ⟨q1, q2⟩ => by
  cases c with
  | true => rw [if_pos rfl]; exact q1 rfl G0 H0 Gb σ G1 H1 D (s.trans s1) (b.trans s1.exg) (R.step s1) z
  | false => rw [if_neg Bool.false_ne_true]; exact q2 rfl G0 H0 Gb σ G1 H1 D (s.trans s1) (b.trans s1.exg) (R.step s1) z
theorem s_drop (h : dE K hs te ρ fun _ => E.nx ρ) : dS K hs (tDrop te) ρ E := fun G0 H0 Gb σ G H D s b R z =>
 h H0 σ G H _ s.fr R fun v G1 H1 d s1 r q => z.nx σ G1 H1 ρ (s.trans s1) (b.trans s1.exg) (R.step s1) q
variable {kr : List Sl → Prop}
theorem wipe_set {σ : L2.St} {j : Nat} {v : Option V} : ∀ {vs : List Nat}, j ∈ vs → wipe (σ.set j v) vs = wipe σ vs
 | [], h => by cases h
 | x :: vs, h => by
  unfold wipe
  by_cases e : j ∈ vs
  ·rw [wipe_set e]
  ·have e2 : j = x := (List.mem_cons.mp h).resolve_right e
   subst e2
   have : ∀ (vs : List Nat) (τ : L2.St), j ∉ vs → wipe (τ.set j v) vs = (wipe τ vs).set j v := by
    intro vs
    induction vs with
    | nil => intro τ _; rfl
    | cons y ys ih =>
     intro τ h
     unfold wipe
     rw [ih τ fun q => h (List.mem_cons_of_mem _ q)]
     exact List.set_comm _ _ fun q => h (q ▸ List.mem_cons_self)
   rw [this vs σ e, List.set_set]
theorem g_nameV {i : Nat} {d : D} {l : List Nat} (h : i ∈ l) (q : kr (ρ.set i (.d d))) : dG K hs (gName i) (some l) d ρ kr := fun H0 σ G H v Q f R r z =>
 z _ _ (R.set (s := .d d) ⟨v, rfl, r⟩ fun _ e => by cases e) (fun vs e => by cases e; exact wipe_set h) q
theorem g_name {i : Nat} {d : D} (q : kr (ρ.set i (.d d))) : dG K hs (gName i) none d ρ kr := fun H0 σ G H v Q f R r z =>
 z _ _ (R.set (s := .d d) ⟨v, rfl, r⟩ fun _ e => by cases e) (fun vs e => by cases e) q
theorem gs_nil {js : Option (List Nat)} (q : kr ρ) : dGs K hs gNil js [] ρ kr := fun H0 σ G H v Q f R r z => by
 cases r
 exact ⟨rfl, z _ _ R (fun _ _ => rfl) q⟩
theorem gs_cons {g : TG} {gs : TGs} {js : Option (List Nat)} {d : D} {ds : List D} (h : dG K hs g js d ρ fun ρ' => dGs K hs gs js ds ρ' kr) : dGs K hs (gCons g gs) js (d :: ds) ρ kr := fun H0 σ G H v Q f R r z => by
 cases r with
 | cons r rr =>
  refine ⟨_, _, rfl, h H0 σ G H _ _ f R r fun σ1 ρ1 R1 w1 q => q H0 σ1 G H _ _ f R1 rr fun σ2 ρ2 R2 w2 q2 => z _ _ R2 (fun vs hv => ?_) q2⟩
  rw [w2 vs hv, w1 vs hv]
theorem g_tup {gs : TGs} {js : Option (List Nat)} {n : Nat} {ds : List D} (l : ds.length = n) (h : dGs K hs gs js ds ρ kr) : dG K hs (gTup K n gs) js (.tup ds) ρ kr := fun H0 σ G H v Q f R r z => by
 obtain ⟨a, vs, rfl, h', r⟩ := rel_tup r
 exact ⟨a, vs, rfl, Same.tseq f.sub h', by rw [r.length]; exact l, h H0 σ G H _ _ f R r z⟩
theorem s_asg {g : TG} (h : dE K hs te ρ fun d => dG K hs g none d ρ E.nx) : dS K hs (tAsg te g) ρ E := fun G0 H0 Gb σ G H D s b R z =>
 h H0 σ G H _ s.fr R fun v G1 H1 d s1 r q => q H0 σ G1 H1 v _ s1.fr (R.step s1) r fun σ' ρ' R' _ q' => z.nx _ _ _ _ (s.trans s1) (b.trans s1.exg) R' q'
theorem s_set {i : Nat} (h : dE K hs te ρ fun d => E.nx (ρ.set i (.d d))) : dS K hs (tAsg te (gName i)) ρ E := fun G0 H0 Gb σ G H D s b R z =>
 h H0 σ G H _ s.fr R fun v G1 H1 d s1 r q => z.nx _ _ _ _ (s.trans s1) (b.trans s1.exg) ((R.step s1).set (s := .d d) ⟨v, rfl, r⟩ fun _ e => by cases e) q
theorem s_aug {i : Nat} {f : Int → Int → Int} {a : Int} (e : ρ[i]? = some (.d (.int a))) (h : dE K hs te ρ fun d => ∃ b, d = .int b ∧ E.nx (ρ.set i (.d (.int (f a b))))) : dS K hs (tAug i te (ipI f)) ρ E := fun G0 H0 Gb σ G H D s b R z => by
 obtain ⟨v, h1, h2⟩ := R.var e
 refine ⟨v, h1, h H0 σ G H _ s.fr R fun w G1 H1 d s1 r ⟨c, e2, q⟩ => ?_⟩
 subst e2
 exact ⟨a, c, rel_int h2, rel_int r, z.nx _ _ _ _ (s.trans s1) (b.trans s1.exg) ((R.step s1).set (s := .d (.int (f a c))) ⟨_, rfl, .int⟩ fun _ e => by cases e) q⟩
theorem EnvR.own {H0 G H : Hp} {σ : L2.St} {i : Nat} {p : Addr} {vs : HO} {ds : OD} (h : EnvR K hs H0 G H σ ρ) (h0 : H0 p = none) (ho : Outs hs p) (hg : G p = none) (hp : H p = some vs) (r : ORel K G vs ds)
  (no : ∀ (j : Nat) (es : OD), i ≠ j → ρ[j]? = some (.ow es) → σ[j]? ≠ some (some (.ref p))) : EnvR K hs H0 G H (σ.set i (some (.ref p))) (ρ.set i (.ow ds)) := by
 refine ⟨by rw [List.length_set, List.length_set]; exact h.len, fun j t q => ?_, fun j l xs ys p' q1 q2 ne e1 e2 => ?_⟩
 ·by_cases e : i = j
  ·subst e
   rw [List.getElem?_set] at q
   rw [List.getElem?_set]
   simp only [if_true] at q ⊢
   split at q
   ·rename_i hl
    have hl' : i < σ.length := by rw [h.len]; exact hl
    rw [if_pos hl']
    cases q
    exact ⟨_, rfl, p, vs, rfl, h0, ho, hg, hp, r⟩
   ·cases q
  ·rw [List.getElem?_set_ne e] at q ⊢
   exact h.at_ j t q
 ·have at_i : ∀ q', (σ.set i (some (.ref p)))[i]? = some (some (.ref q')) → q' = p := fun q' z => by
   rw [List.getElem?_set] at z
   simp only [if_true] at z
   split at z
   ·cases z; rfl
   ·cases z
  by_cases a : i = j
  ·subst a
   have := at_i _ e1
   subst this
   rw [List.getElem?_set_ne ne] at q2 e2
   exact no l _ ne q2 e2
  ·by_cases b : i = l
   ·subst b
    have := at_i _ e2
    subst this
    rw [List.getElem?_set_ne a] at q1 e1
    exact no j _ a q1 e1
   ·rw [List.getElem?_set_ne a] at q1 e1
    rw [List.getElem?_set_ne b] at q2 e2
    exact h.apart j l xs ys p' q1 q2 ne e1 e2
theorem s_own {i : Nat} (h : dL K hs te ρ fun ds => E.nx (ρ.set i (.own ds))) : dS K hs (tAsg te (gName i)) ρ E := fun G0 H0 Gb σ G H D s b R z =>
 h H0 σ G H _ s.fr R fun p vs G1 H1 ds s1 h0 g1 hp r q => by
  refine z.nx _ _ _ _ (s.trans s1) (b.trans s1.exg) ((R.step s1).own (s.back h0) (s.fr.outs h0) g1 hp (.L r) fun j es _ e e2 => ?_) q
  obtain ⟨v, e3, p', vs', e4, _, _, _, e5, _⟩ := R.at_ j _ e
  rw [e3] at e2
  cases e2
  cases e4
  rw [h0] at e5
  cases e5
theorem s_keep {i : Nat} {ds : List D} (e : ρ[i]? = some (.own ds)) (h : dS K hs t (ρ.set i (.d (.lst ds))) E) : dS K hs t ρ E := fun G0 H0 Gb σ G H D s b R z => by
 obtain ⟨v, e1, p, vs, rfl, h0, ho, hg, hp, r⟩ := R.ownL e
 have s2 := s.freeze h0 ho hg hp
 have gg : Same G (upd G p (.lst vs)) := fun a o e => by rw [upd_ne (ne_of_none e hg)]; exact e
 refine h G0 H0 Gb σ _ H D s2 (b.trans gg) ⟨by rw [List.length_set]; exact R.len, fun j sl q => ?_, fun j l xs ys p' q1 q2 ne e3 e4 => ?_⟩ z
 ·by_cases ej : i = j
  ·subst ej
   rw [List.getElem?_set] at q
   simp only [if_true] at q
   split at q
   ·cases q
    exact ⟨_, e1, _, rfl, .lst upd_same (r.mono gg)⟩
   ·cases q
  ·rw [List.getElem?_set_ne ej] at q
   obtain ⟨v', e5, e6⟩ := R.at_ j _ q
   refine ⟨v', e5, ?_⟩
   cases sl with
   | un => trivial
   | d x => obtain ⟨u, a, b⟩ := e6; exact ⟨u, a, b.mono gg⟩
   | ow es =>
    obtain ⟨p', vs', rfl, a1, a2, a3, a4, a5⟩ := e6
    refine ⟨p', vs', rfl, a1, a2, ?_, a4, a5.mono gg⟩
    have : p' ≠ p := fun z => by
     subst z
     exact R.apart i j _ es p' e q ej e1 e5
    rw [upd_ne this]; exact a3
 ·have nj : i ≠ j := fun z => by
   subst z
   rw [List.getElem?_set] at q1
   simp only [if_true] at q1
   split at q1 <;> cases q1
  have nl : i ≠ l := fun z => by
   subst z
   rw [List.getElem?_set] at q2
   simp only [if_true] at q2
   split at q2 <;> cases q2
  rw [List.getElem?_set_ne nj] at q1
  rw [List.getElem?_set_ne nl] at q2
  exact R.apart j l xs ys p' q1 q2 ne e3 e4
theorem EnvR.change {H0 G H : Hp} {σ : L2.St} {i : Nat} {p : Addr} {vs' : HO} {ds ds' : OD} (R : EnvR K hs H0 G H σ ρ) (e : ρ[i]? = some (.ow ds)) (e1 : σ[i]? = some (some (.ref p))) (h0 : H0 p = none) (ho : Outs hs p) (hg : G p = none) (r : ORel K G vs' ds') :
  EnvR K hs H0 G (upd H p vs') σ (ρ.set i (.ow ds')) := by
 refine ⟨by rw [List.length_set]; exact R.len, fun j sl q => ?_, fun j l xs ys p' q1 q2 ne e3 e4 => ?_⟩
 ·by_cases ej : i = j
  ·subst ej
   rw [List.getElem?_set] at q
   simp only [if_true] at q
   split at q
   ·cases q
    exact ⟨_, e1, p, vs', rfl, h0, ho, hg, upd_same, r⟩
   ·cases q
  ·rw [List.getElem?_set_ne ej] at q
   obtain ⟨v', e5, e6⟩ := R.at_ j _ q
   refine ⟨v', e5, ?_⟩
   cases sl with
   | un => trivial
   | d x => exact e6
   | ow es =>
    obtain ⟨p', ws, rfl, a1, a2, a3, a4, a5⟩ := e6
    have : p' ≠ p := fun z => by
     subst z
     exact R.apart i j _ es p' e q ej e1 e5
    exact ⟨p', ws, rfl, a1, a2, a3, by rw [upd_ne this]; exact a4, a5⟩
 ·have old : ∀ (n : Nat) (zs : OD), (ρ.set i (.ow ds'))[n]? = some (.ow zs) → ∃ zs', ρ[n]? = some (.ow zs') := fun n zs q => by
   by_cases en : i = n
   ·subst en; exact ⟨_, e⟩
   ·rw [List.getElem?_set_ne en] at q; exact ⟨_, q⟩
  obtain ⟨x1, y1⟩ := old _ _ q1
  obtain ⟨x2, y2⟩ := old _ _ q2
  exact R.apart j l _ _ p' y1 y2 ne e3 e4
theorem s_app {i : Nat} {ds : List D} (e : ρ[i]? = some (.own ds)) (l : ds.length < 100000) (h : dE K hs te ρ fun d => E.nx (ρ.set i (.own (ds ++ [d])))) : dS K hs (tDrop (tBM K "list" rAppend (tVar i) (tCons te tNil))) ρ E := fun G0 H0 Gb σ G H D s b R z => by
 obtain ⟨v, e1, p, vs, rfl, h0, ho, hg, hp, r⟩ := R.ownL e
 refine ⟨_, e1, .inl ⟨rfl, _, SqL.of hp⟩, h H0 σ G H _ s.fr R fun w G1 H1 d s1 r1 q => ?_⟩
 obtain ⟨v', e1', p', vs', ep, h0', ho', hg', hp', r'⟩ := (R.step s1).ownL e
 rw [e1] at e1'
 cases e1'
 cases ep
 refine ⟨p, vs', w, rfl, rfl, hp', Nat.lt_of_lt_of_le (by rw [r'.length]; exact l) (by decide : 100000 ≤ sizeLine), ?_⟩
 exact z.nx _ _ _ _ ((s.trans s1).mut h0 ho hg') (b.trans s1.exg) ((R.step s1).change e e1 h0' ho' hg' (.L <| r'.append (.cons r1 .nil))) q
theorem s_extD {i : Nat} {ds : List D} (e : ρ[i]? = some (.own ds)) (h : dE K hs te ρ fun d => ∃ es, d = .lst es ∧ ds.length + es.length ≤ 100000 ∧ E.nx (ρ.set i (.own (ds ++ es)))) : dS K hs (tDrop (tBM K "list" rExtend (tVar i) (tCons te tNil))) ρ E := fun G0 H0 Gb σ G H D s b R z => by
 obtain ⟨v, e1, p, vs, rfl, h0, ho, hg, hp, r⟩ := R.ownL e
 refine ⟨_, e1, .inl ⟨rfl, _, SqL.of hp⟩, h H0 σ G H _ s.fr R fun w G1 H1 d s1 r1 ⟨es, ed, hl, q⟩ => ?_⟩
 subst ed
 obtain ⟨l, ws, rfl, hb, r1⟩ := rel_lst r1
 obtain ⟨v', e1', p', vs', ep, h0', ho', hg', hp', r'⟩ := (R.step s1).ownL e
 rw [e1] at e1'
 cases e1'
 cases ep
 refine ⟨p, l, vs', ws, rfl, rfl, hp', s1.sub _ _ hb, sz (by rw [r'.length, r1.length]; exact hl), ?_⟩
 exact z.nx _ _ _ _ ((s.trans s1).mut h0 ho hg') (b.trans s1.exg) ((R.step s1).change e e1 h0' ho' hg' (.L <| r'.append r1)) q
theorem y_list {a : Addr} {vs : List V} {ds : List D} {G : Hp} (h : G a = some (.lst vs)) (r : RelL K G vs ds) : Yields K hs (Itl K a) G ds := fun G' H' e f i => by
 have hh : SqL K H' a vs := SqL.of (f.sub _ _ (e _ _ h))
 have r' := r.mono e
 refine ⟨fun hi => ?_, fun hi => ⟨vs, hh, by rw [r.length]; exact hi⟩⟩
 have hi' : i < vs.length := by rw [r.length]; exact hi
 refine ⟨⟨vs, _, hh, List.getElem?_eq_getElem hi'⟩, fun x H'' ⟨e1, e2⟩ => ?_⟩
 subst e1
 refine ⟨G', f.refl, fun d hd => ?_⟩
 obtain ⟨v, e3, e4⟩ := r'.getD hd
 have := e2 vs hh
 rw [e3] at this
 cases this
 exact e4
theorem y_tup {a : Addr} {vs : List V} {ds : List D} {G : Hp} (h : SqT K G a vs) (r : RelL K G vs ds) : Yields K hs (Itt K a) G ds := fun G' H' e f i => by
 have hh : SqT K H' a vs := Same.tseq f.sub (Same.tseq e h)
 have r' := r.mono e
 refine ⟨fun hi => ?_, fun hi => ⟨vs, hh, by rw [r.length]; exact hi⟩⟩
 have hi' : i < vs.length := by rw [r.length]; exact hi
 refine ⟨⟨vs, _, hh, List.getElem?_eq_getElem hi'⟩, fun x H'' ⟨e1, e2⟩ => ?_⟩
 subst e1
 refine ⟨G', f.refl, fun d hd => ?_⟩
 obtain ⟨v, e3, e4⟩ := r'.getD hd
 have := e2 vs hh
 rw [e3] at this
 cases this
 exact e4
variable {kl : List D → Prop}
theorem i_list (h : dE K hs te ρ fun x => ∃ ds, x = .lst ds ∧ kl ds) : dI K hs (iList K te) ρ kl := fun H0 σ G H Q f R z =>
 h H0 σ G H _ f R fun v G1 H1 x s1 r1 ⟨ds, e, q⟩ => by
  subst e
  obtain ⟨a, vs, rfl, hh, r⟩ := rel_lst r1
  exact ⟨a, rfl, ⟨vs, SqL.of (s1.sub _ _ hh)⟩, z _ G1 H1 ds s1 (y_list hh r) q⟩
theorem i_tup (h : dE K hs te ρ fun x => ∃ ds, x = .tup ds ∧ kl ds) : dI K hs (iTup K te) ρ kl := fun H0 σ G H Q f R z =>
 h H0 σ G H _ f R fun v G1 H1 x s1 r1 ⟨ds, e, q⟩ => by
  subst e
  obtain ⟨a, vs, rfl, hh, r⟩ := rel_tup r1
  exact ⟨a, rfl, ⟨vs, Same.tseq s1.sub hh⟩, z _ G1 H1 ds s1 (y_tup hh r) q⟩
def intsUp (lo : Int) (n : Nat) : List D := (List.range n).map fun (i : Nat) => .int (lo + (i : Int))
theorem y_range {lo : Int} {n : Nat} {G : Hp} : Yields K hs (Itr lo n) G (intsUp lo n) := fun G' H' e f i => by
 have hl : (intsUp lo n).length = n := by unfold intsUp; simp
 rw [hl]
 refine ⟨fun hi => ⟨hi, fun x H'' ⟨e1, e2⟩ => ?_⟩, fun hi => hi⟩
 subst e1 e2
 refine ⟨G', f.refl, fun d hd => ?_⟩
 unfold intsUp at hd
 rw [List.getElem?_map, List.getElem?_range hi] at hd
 cases hd
 exact .int
theorem i_range1 {tx : TA} (h : dA K hs tx ρ fun xs => ∃ n : Int, xs = [.int n] ∧ -(2 ^ 62) ≤ n ∧ n < 2 ^ 62 ∧ kl (intsUp 0 n.toNat)) : dI K hs (iRng1 tx) ρ kl := fun H0 σ G H Q f R z =>
 h H0 σ G H _ f R fun vs G1 H1 xs s1 r1 ⟨n, e, h1, h2, q⟩ => by
  subst e
  cases r1 with
  | cons r r2 =>
   cases r2
   exact ⟨n, by rw [rel_int r], h1, h2, z _ G1 H1 _ s1 y_range q⟩
def sgn (c : Nat) : D := .str ⟨#[c]⟩
theorem y_str {x : Str} {G : Hp} : Yields K hs (Its x) G (x.cps.toList.map sgn) := fun G' H' e f i => by
 rw [List.length_map, Array.length_toList]
 refine ⟨fun hi => ⟨hi, fun v H'' ⟨e1, c, e2, e3⟩ => ?_⟩, fun hi => hi⟩
 subst e1 e3
 refine ⟨G', f.refl, fun d hd => ?_⟩
 rw [List.getElem?_map, Array.getElem?_toList, e2] at hd
 cases hd
 exact .str
theorem i_str (h : dE K hs te ρ fun x => ∃ s : Str, x = .str s ∧ kl (s.cps.toList.map sgn)) : dI K hs (iStr te) ρ kl := fun H0 σ G H Q f R z =>
 h H0 σ G H _ f R fun v G1 H1 x s1 r1 ⟨ds, e, q⟩ => by
  subst e
  exact ⟨ds, rel_str r1, z _ G1 H1 _ s1 y_str q⟩
def pairUp (xs ys : List D) : List D := List.zipWith (fun x y => .tup [x, y]) xs ys
theorem y_zipT {a b : Addr} {vs us : List V} {xs ys : List D} {G : Hp} (h : SqT K G a vs) (r : RelL K G vs xs) (h' : SqT K G b us) (r' : RelL K G us ys) : Yields K hs (RZ.ItzT K a b) G (pairUp xs ys) := fun G' H' e f i => by
 have hh : SqT K H' a vs := Same.tseq f.sub (Same.tseq e h)
 have hh' : SqT K H' b us := Same.tseq f.sub (Same.tseq e h')
 have q := r.mono e
 have q' := r'.mono e
 have hl : (pairUp xs ys).length = min xs.length ys.length := by unfold pairUp; exact List.length_zipWith
 rw [hl]
 refine ⟨fun hi => ?_, fun hi => ⟨vs, us, hh, hh', ?_⟩⟩
 ·have hi1 : i < vs.length := by rw [r.length]; omega
  have hi2 : i < us.length := by rw [r'.length]; omega
  refine ⟨⟨vs, us, _, _, hh, hh', List.getElem?_eq_getElem hi1, List.getElem?_eq_getElem hi2⟩, fun x H'' ⟨T, v, u, e1, e2, e3, e4, e5⟩ => ?_⟩
  subst e1 e3
  have s2 := Step.alloc (o := .tup [v, u]) f.sub f.st e2
  refine ⟨_, s2, fun d hd => ?_⟩
  unfold pairUp at hd
  obtain ⟨x', y', hx, hy, rfl⟩ := List.getElem?_zipWith_eq_some.mp hd
  obtain ⟨v', a1, a2⟩ := q.getD hx
  obtain ⟨u', b1, b2⟩ := q'.getD hy
  have c1 := e4 vs hh
  have c2 := e5 us hh'
  rw [a1] at c1
  rw [b1] at c2
  cases c1
  cases c2
  exact .tup (.inl (.inl upd_same)) (.cons (a2.mono s2.exg) (.cons (b2.mono s2.exg) .nil))
 ·rw [r.length, r'.length]; omega
theorem i_zipT {tx : TA} (h : dA K hs tx ρ fun zs => ∃ xs ys, zs = [.tup xs, .tup ys] ∧ kl (pairUp xs ys)) : dI K hs (RZ.iZipA K tx) ρ kl := fun H0 σ G H Q f R z =>
 h H0 σ G H _ f R fun vs G1 H1 xs s1 r1 ⟨xs', ys', e, q⟩ => by
  subst e
  cases r1 with
  | cons r r2 =>
   cases r2 with
   | cons r' r3 =>
    cases r3
    obtain ⟨a, ws, rfl, hh, r⟩ := rel_tup r
    obtain ⟨b, us, rfl, hh', r'⟩ := rel_tup r'
    exact ⟨a, b, ws, us, rfl, .inr ⟨Same.tseq s1.sub hh, Same.tseq s1.sub hh', z _ G1 H1 _ s1 (y_zipT hh r hh' r') q⟩⟩
variable {g : TG}
def forW (K : PySem.W.Frag) (hs : Option (Addr × Addr)) (g : TG) (t : TS) (E : DEnds) : List D → List Sl → Prop
 | [], ρ => E.nx ρ
 | d :: r, ρ => dG K hs g none d ρ fun ρ' => dS K hs t ρ' { nx := forW K hs g t E r, rt := E.rt, bk := E.nx, ct := forW K hs g t E r }
theorem s_for {ti : TI} (h : dI K hs ti ρ fun ds => forW K hs g t E ds ρ) : dS K hs (tFor ti g t) ρ E := fun G0 H0 Gb σ G H D s b R z =>
 h H0 σ G H _ s.fr R fun J G1 H1 ds s1 y q => by
  refine ⟨fun i m σ' H' => i ≤ ds.length ∧ m = ds.length - i ∧ ∃ G' ρ', Step hs G0 H0 G' H' ∧ Same G1 G' ∧ EnvR K hs H0 G' H' σ' ρ' ∧ forW K hs g t E (ds.drop i) ρ', ⟨_, Nat.zero_le _, rfl, G1, ρ, s.trans s1, Same.refl G1, R.step s1, q⟩, ?_⟩
  rintro i m σ' H' ⟨hi, hm, G', ρ', s', e', R', q'⟩
  obtain ⟨y1, y2⟩ := y G' H' e' s'.fr i
  by_cases hl : i < ds.length
  ·refine .inr ⟨(y1 hl).1, fun σ'' H'' => ∃ m', m' < m ∧ i + 1 ≤ ds.length ∧ m' = ds.length - (i + 1) ∧ ∃ G' ρ', Step hs G0 H0 G' H'' ∧ Same G1 G' ∧ EnvR K hs H0 G' H'' σ'' ρ' ∧ forW K hs g t E (ds.drop (i + 1)) ρ', fun σ'' H'' ⟨m', h1, h2⟩ => ⟨m', h1, h2⟩, fun x H2 hy => ?_⟩
   obtain ⟨G2, s2, hd⟩ := (y1 hl).2 x H2 hy
   have rx := hd _ (List.getElem?_eq_getElem hl)
   rw [List.drop_eq_getElem_cons hl] at q'
   refine q' H0 σ' G2 H2 x _ s2.fr (R'.step s2) rx fun σ3 ρ3 R3 _ q3 => ?_
   have b3 : Same G1 G2 := e'.trans s2.exg
   have b1 : Same Gb G1 := b.trans s1.exg
   have nxt : ∀ σ G H ρ, Step hs G0 H0 G H → Same G1 G → EnvR K hs H0 G H σ ρ → forW K hs g t E (ds.drop (i + 1)) ρ → ∃ m', m' < m ∧ i + 1 ≤ ds.length ∧ m' = ds.length - (i + 1) ∧ ∃ G' ρ', Step hs G0 H0 G' H ∧ Same G1 G' ∧ EnvR K hs H0 G' H σ ρ' ∧ forW K hs g t E (ds.drop (i + 1)) ρ' :=
    fun σ G H ρ a b c d => ⟨_, by omega, hl, rfl, G, ρ, a, b, c, d⟩
   exact q3 G0 H0 G1 σ3 G2 H2 _ (s'.trans s2) b3 R3 ⟨nxt, z.rt, fun σ G H ρ a b c d => z.nx σ G H ρ a (b1.trans b) c d, nxt⟩
  ·refine .inl ⟨y2 (by omega), ?_⟩
   have : ds.drop i = [] := List.drop_eq_nil_of_le (by omega)
   rw [this] at q'
   exact z.nx _ _ _ _ s' ((b.trans s1.exg).trans e') R' q'
theorem forW_inv (P : List D → List Sl → Prop) (h0 : ∀ ρ, P [] ρ → E.nx ρ) (h1 : ∀ d r ρ, P (d :: r) ρ → dG K hs g none d ρ fun ρ' => dS K hs t ρ' { nx := P r, rt := E.rt, bk := E.nx, ct := P r }) : ∀ (ds : List D) (ρ : List Sl), P ds ρ → forW K hs g t E ds ρ
 | [], ρ, p => h0 ρ p
 | d :: r, ρ, p => fun H0 σ G H v Q f R rv z => h1 d r ρ p H0 σ G H v Q f R rv fun σ' ρ' R' w q => z σ' ρ' R' w fun G0 H0 Gb σ G H D s b R z' =>
   q G0 H0 Gb σ G H D s b R ⟨fun σ G H ρ a b c d => z'.nx σ G H ρ a b c (forW_inv P h0 h1 r ρ d), z'.rt, z'.bk, fun σ G H ρ a b c d => z'.ct σ G H ρ a b c (forW_inv P h0 h1 r ρ d)⟩
def wipeR (ρ : List Sl) : List Nat → List Sl
 | [] => ρ
 | v :: vs => (wipeR ρ vs).set v .un
theorem EnvR.wipe {H0 G H : Hp} {σ : L2.St} (R : EnvR K hs H0 G H σ ρ) : ∀ vs : List Nat, EnvR K hs H0 G H (L2.wipe σ vs) (wipeR ρ vs)
 | [] => R
 | v :: vs => (EnvR.wipe R vs).set trivial fun _ e => by cases e
theorem wipe_wipe {σ : L2.St} : ∀ {vs us : List Nat}, (∀ j ∈ us, j ∈ vs) → wipe (wipe σ us) vs = wipe σ vs
 | _, [], _ => rfl
 | vs, u :: us, h => by
  show wipe ((wipe σ us).set u none) vs = _
  rw [wipe_set (h u List.mem_cons_self)]
  exact wipe_wipe fun j hj => h j (List.mem_cons_of_mem _ hj)
def lcW (K : PySem.W.Frag) (hs : Option (Addr × Addr)) (g : TG) (js : List Nat) (tt : TT) (te : TE) (ρ : List Sl) (kl : List D → Prop) : List D → List D → Prop
 | [], acc => kl acc
 | d :: r, acc => dG K hs g (some js) d ρ fun ρ' => dT K hs tt ρ' fun b => (b = true → dE K hs te ρ' fun y => lcW K hs g js tt te ρ kl r (acc ++ [y])) ∧ (b = false → lcW K hs g js tt te ρ kl r acc)
theorem l_lc {ti : TI} {vs : List Nat} {kl : List D → Prop} (h : dI K hs ti ρ fun ds => ds.length ≤ 50000 ∧ lcW K hs g vs tt te (wipeR ρ vs) kl ds []) : dL K hs (tLc ti g tt te vs) ρ kl := fun H0 σ G H Q f R z =>
 h H0 σ G H _ f R fun J G1 H1 ds s1 y ⟨hl, q⟩ Dl hD => by
  have hH := s1.back hD
  have oD := s1.fr.outs hD
  have gD := Same.free s1.sub hD
  have Rw := (R.step s1).wipe vs
  refine ⟨fun i m H' => i ≤ ds.length ∧ m = ds.length - i ∧ ∃ G' acc ws, Step hs G1 H1 G' H' ∧ G' Dl = none ∧ H' Dl = some (.lst ws) ∧ RelL K G' ws acc ∧ acc.length ≤ i ∧ lcW K hs g vs tt te (wipeR ρ vs) kl (ds.drop i) acc,
   ⟨_, Nat.zero_le _, rfl, G1, [], [], Step.fresh s1.sub s1.st hD, gD, upd_same, .nil, Nat.zero_le _, q⟩, ?_⟩
  rintro i m H' ⟨hi, hm, G', acc, ws, s', g', h', r', la, q'⟩
  obtain ⟨y1, y2⟩ := y G' H' s'.exg s'.fr i
  by_cases hl' : i < ds.length
  ·refine .inr ⟨(y1 hl').1, fun H'' => ∃ m', m' < m ∧ i + 1 ≤ ds.length ∧ m' = ds.length - (i + 1) ∧ ∃ G' acc ws, Step hs G1 H1 G' H'' ∧ G' Dl = none ∧ H'' Dl = some (.lst ws) ∧ RelL K G' ws acc ∧ acc.length ≤ i + 1 ∧ lcW K hs g vs tt te (wipeR ρ vs) kl (ds.drop (i + 1)) acc, fun H'' x => x, fun x H2 hy => ?_⟩
   obtain ⟨G2, s2, hd⟩ := (y1 hl').2 x H2 hy
   have rx := hd _ (List.getElem?_eq_getElem hl')
   have keep : ∀ {G3 H3 : Hp}, Step hs G' H' G3 H3 → G3 Dl = none ∧ H3 Dl = some (.lst ws) := fun {G3 H3} s3 => by
    refine ⟨?_, s3.frm _ _ oD h'⟩
    cases e : G3 Dl with
    | none => rfl
    | some o =>
     have := s3.new Dl o e g'
     rw [h'] at this; rcases this with z | ⟨_, z⟩ <;> cases z
   rw [List.drop_eq_getElem_cons hl'] at q'
   refine q' H0 _ G2 H2 x _ s2.fr (Rw.step (s'.trans s2)) rx fun σ3 ρ3 R3 w3 q3 => ⟨?_, ?_⟩
   ·rw [w3 vs rfl, wipe_wipe fun j h => h]
   ·refine q3 H0 σ3 G2 H2 _ s2.fr R3 fun b G3 H3 s3 ⟨p1, p2⟩ => ?_
    cases b with
    | true =>
     rw [if_pos rfl]
     refine p1 rfl H0 σ3 G3 H3 _ s3.fr (R3.step s3) fun v G4 H4 d s4 r4 q4 => ?_
     have st := (s2.trans s3).trans s4
     obtain ⟨k1, k2⟩ := keep st
     refine ⟨ws, k2, Nat.lt_of_le_of_lt (by rw [r'.length]; omega : ws.length ≤ 50000) (by decide), _, by omega, hl', rfl, G4, acc ++ [d], ws ++ [v], (s'.trans st).mut hD oD k1, k1, upd_same, (r'.mono st.exg).append (.cons r4 .nil), ?_, q4⟩
     rw [List.length_append, List.length_singleton]; omega
    | false =>
     rw [if_neg Bool.false_ne_true]
     have st := s2.trans s3
     obtain ⟨k1, k2⟩ := keep st
     exact ⟨_, by omega, hl', rfl, G3, acc, ws, s'.trans st, k1, k2, r'.mono st.exg, by omega, p2 rfl⟩
  ·refine .inl ⟨y2 (by omega), ?_⟩
   have : ds.drop i = [] := List.drop_eq_nil_of_le (by omega)
   rw [this] at q'
   exact z Dl ws G' H' acc (s1.trans s') hH g' h' r' q'
theorem lcW_fun {js : List Nat} {kl : List D → Prop} (P : D → Prop) (p : D → Bool) (f : D → D) (h : ∀ d, P d → ∀ kk : List Sl → Prop, (∀ ρ', (∀ kb : Bool → Prop, kb (p d) → dT K hs tt ρ' kb) → (p d = true → ∀ k : D → Prop, k (f d) → dE K hs te ρ' k) → kk ρ') → dG K hs g (some js) d ρ kk) :
  ∀ (ds acc : List D), (∀ d ∈ ds, P d) → kl (acc ++ (ds.filter p).map f) → lcW K hs g js tt te ρ kl ds acc
 | [], acc, _, q => by
  show kl acc
  simpa using q
 | d :: r, acc, hp, q => by
  refine h d (hp d List.mem_cons_self) _ fun ρ' h1 h2 => h1 _ ⟨fun e => h2 e _ ?_, fun e => ?_⟩
  ·refine lcW_fun P p f h r (acc ++ [f d]) (fun x hx => hp x (List.mem_cons_of_mem _ hx)) ?_
   rw [List.filter_cons, if_pos e, List.map_cons] at q
   rw [List.append_assoc]
   exact q
  ·refine lcW_fun P p f h r acc (fun x hx => hp x (List.mem_cons_of_mem _ hx)) ?_
   rw [List.filter_cons, e] at q
   exact q
end
def spD (K : PySem.W.Frag) (hs : Option (Addr × Addr)) (M : List D → (D → Prop) → Prop) : Sp := fun vs H Q _ => ∃ (G : Hp) (ds : List D) (k : D → Prop), Fr hs G H ∧ RelL K G vs ds ∧ M ds k ∧ ∀ v G' H' d, Step hs G H G' H' → Rel K G' v d → k d → Q v H'
section
variable {K : PySem.W.Frag} {hs : Option (Addr × Addr)} {ρ : List Sl} {k : D → Prop} {tx : TA} {M : List D → (D → Prop) → Prop} {X : XK}
theorem d_call (h : dA K hs tx ρ fun ds => M ds k) : dE K hs (tCall (spD K hs M) [] X tx) ρ k := fun H0 σ G H Q f R z =>
 h H0 σ G H _ f R fun vs G1 H1 ds s1 r q => ⟨G1, ds, k, s1.fr, by rw [List.append_nil]; exact r, q, fun v G2 H2 d s2 r2 q2 => z v G2 H2 d (s1.trans s2) r2 q2⟩
theorem d_callP (h : dA K hs tx ρ fun ds => M ds k) : dE K hs (tCall (spD K none M) [] X tx) ρ k := fun H0 σ G H Q f R z =>
 h H0 σ G H _ f R fun vs G1 H1 ds s1 r q => ⟨G1, ds, k, s1.fr.none, by rw [List.append_nil]; exact r, q, fun v G2 H2 d s2 r2 q2 => z v G2 H2 d (s1.trans (s2.lift s1.fr)) r2 q2⟩
theorem d_callLP {i : Nat} {f : Addr} (e : ρ[i]? = some (.d (.adr f))) (h : dA K hs tx ρ fun ds => M ds k) : dE K hs (tCallL i f (spD K none M) [] X tx) ρ k := fun H0 σ G H Q fr R z => by
 obtain ⟨v, h1, h2⟩ := R.var e
 cases rel_adr h2
 refine ⟨h1, h H0 σ G H _ fr R fun vs G1 H1 ds s1 r q => ⟨G1, ds, k, s1.fr.none, by rw [List.append_nil]; exact r, q, fun v G2 H2 d s2 r2 q2 => z v G2 H2 d (s1.trans (s2.lift s1.fr)) r2 q2⟩⟩
def startD (N : List Str) (ds : List D) : List Sl := ds.map Sl.d ++ List.replicate (N.length - ds.length) .un
theorem env_start {K : PySem.W.Frag} {hs : Option (Addr × Addr)} {H0 G H : Hp} {N : List Str} {vs : List V} {ds : List D} (r : RelL K G vs ds) : EnvR K hs H0 G H (L2.start N vs) (startD N ds) := by
 have hl := r.length
 refine ⟨?_, fun i s e => ?_, fun i j ds' es p q1 => ?_⟩
 ·unfold L2.start startD; simp [hl]
 ·unfold startD at e
  unfold L2.start
  by_cases hi : i < ds.length
  ·rw [List.getElem?_append_left (by simpa using hi), List.getElem?_map] at e
   rw [List.getElem?_append_left (by simpa [hl] using hi), List.getElem?_map]
   cases q : ds[i]? with
   | none => rw [q] at e; cases e
   | some d =>
    rw [q] at e
    cases e
    obtain ⟨v, h1, h2⟩ := r.getD q
    exact ⟨some v, by rw [h1]; rfl, v, rfl, h2⟩
  ·rw [List.getElem?_append_right (by simpa using hi)] at e
   rw [List.getElem?_append_right (by simpa [hl] using hi)]
   simp only [List.length_map] at e ⊢
   rw [List.getElem?_replicate] at e ⊢
   rw [hl]
   split at e
   ·rename_i h
    cases e
    exact ⟨none, by rw [if_pos h], trivial⟩
   ·cases e
 ·exfalso
  unfold startD at q1
  by_cases hi : i < ds.length
  ·rw [List.getElem?_append_left (by simpa using hi), List.getElem?_map] at q1
   cases q : ds[i]? with
   | none => rw [q] at q1; cases q1
   | some d => rw [q] at q1; cases q1
  ·rw [List.getElem?_append_right (by simpa using hi), List.getElem?_replicate] at q1
   split at q1 <;> cases q1
end
section
variable {P : Program} {w : World} {K : PySem.W.Frag} {mg : Str → Option Value} {base : Heap} {hs : Option (Addr × Addr)}
theorem okD {x qual : Str} {st : Stmt} {f : Addr} {fd : FuncData} {N ps : List Str} {k : Nat} {M : List D → (D → Prop) → Prop} (F : Fun K x qual st f fd) (S : FnScope N ps (defScope st)) (len : ∀ ds k, M ds k → ds.length = ps.length)
  (hbody : ∀ (cdv : Value) (A : Around) (outer : List Env) (s : Shared) (H : Hp) (E : XK) (ds : List D) (kk : D → Prop), Room k (A.deeper (PyProof.Rows.envOfC qual (defScope st) s.heap.objs.size f cdv)) → M ds kk →
   ∃ t, PSs (cxOf CX0 P w K mg base N qual (defScope st) f cdv A outer s H E).nox (defBody st) t ∧ dS K hs t (startD N ds) { nx := fun _ => kk .non, rt := kk }) : FnOk P w K mg base CX0 (k + 1) f fd ps (spD K hs M) := by
 refine F.ok S (fun vs H Q E h => ?_) (fun cdv A outer s H vs Q E hr h => ?_)
 ·obtain ⟨G, ds, kk, _, r, m, _⟩ := h
  rw [r.length]
  exact len ds kk m
 ·obtain ⟨G, ds, kk, fr, r, m, z⟩ := h
  obtain ⟨t, ht, hd⟩ := hbody cdv A outer s H E ds kk hr m
  exact ⟨t, ht, hd G H G _ G H _ fr.refl (Same.refl G) (env_start r) ⟨fun σ G' H' ρ s' _ _ q => z _ G' H' _ s' .non q, fun v G' H' d s' r' q => z v G' H' d s' r' q, fun _ _ _ _ _ _ _ q => q.elim, fun _ _ _ _ _ _ _ q => q.elim⟩⟩
theorem FnOk.impD {k : Nat} {f : Addr} {fd : FuncData} {ps : List Str} {M M' : List D → (D → Prop) → Prop} (F : FnOk P w K mg base CX0 k f fd ps (spD K hs M)) (h : ∀ ds kk, M' ds kk → M ds kk) : FnOk P w K mg base CX0 k f fd ps (spD K hs M') :=
 F.imp fun vs H Q E ⟨G, ds, kk, a, b, c, d⟩ => ⟨G, ds, kk, a, b, h _ _ c, d⟩
end
end PD
set_option Elab.async false
set_option linter.all false
set_option maxRecDepth 100000
set_option maxHeartbeats 1000000
namespace PD
open PySem L2
variable [Tabs]
section
variable {K : PySem.W.Frag} {hs : Option (Addr × Addr)} {ρ : List Sl} {k : D → Prop} {ta tb tc te : TE} {tt : TT} {t u : TS} {E : DEnds} {kb : Bool → Prop} {tx : TA}
theorem int_eq {a b : Int} : decide (V.int a = V.int b) = decide (a = b) := by
 by_cases e : a = b
 ·subst e; simp
 ·rw [decide_eq_false e, decide_eq_false (fun h => e (V.int.inj h))]
theorem r_eqI {x y : Int} (q : k (.bl (decide (x = y)))) : dR K hs rEq (.int x) (.int y) k := r_eq rfl rfl rfl (by rw [int_eq]; exact q)
theorem r_neI {x y : Int} (q : k (.bl (!decide (x = y)))) : dR K hs rNe (.int x) (.int y) k := r_ne rfl rfl rfl (by rw [int_eq]; exact q)
def tyD : D → String
 | .non => "NoneType"
 | .bl _ => "bool"
 | .int _ => "int"
 | .str _ => "str"
 | .tup _ => "tuple"
 | .lst _ => "list"
 | .dct _ => "dict"
 | _ => ""
theorem rel_ty {G H : Hp} {v : V} {x : D} (s : Same G H) (r : Rel K G v x) (h : tyD x ≠ "") : TyX K H v (.type (tyD x)) := by
 cases r with
 | non => exact .base .non
 | bl => exact .base (.bl _)
 | int => exact .base (.int _)
 | str => exact .base (.str _)
 | adr => exact absurd rfl h
 | ty => exact absurd rfl h
 | tup h' _ =>
  rcases h' with (h' | ⟨o, h'⟩) | ⟨o, its, n, h1, h2, _⟩
  ·exact .base (.tup (s _ _ h'))
  ·exact .fTuple (s _ _ h')
  ·exact .kTuple h1 h2
 | lst h' _ => exact .base (.lst (s _ _ h'))
 | dct h' _ => exact .fDict (s _ _ h')
 | tpf h' _ _ => exact absurd rfl h
 | clo _ _ _ => exact absurd rfl h
theorem c_isi {x : D} {T : String} {b : Bool} (e : kitB (tyD x) T = some b) (h : tyD x ≠ "") (q : k (.bl b)) : dC K hs (rIsi K) [x, .ty T] k := fun G H vs Q f r z => by
 cases r with
 | cons r1 r2 =>
  cases r2 with
  | cons r2 r3 =>
   cases r3
   cases r2
   exact ⟨_, _, _, _, b, rfl, .ty T, rel_ty f.sub r1 h, kit_ty e, z _ G H _ f.refl .bl q⟩
inductive Tg where
 | non | bl | int | str | tup | lst | dct
def tgD : D → Option Tg
 | .non => some .non
 | .bl _ => some .bl
 | .int _ => some .int
 | .str _ => some .str
 | .tup _ => some .tup
 | .lst _ => some .lst
 | .dct _ => some .dct
 | _ => none
def Tg.is (g h : Tg) : Bool := match g, h with
 | .non, .non => true | .bl, .bl => true | .int, .int => true | .bl, .int => true | .str, .str => true | .tup, .tup => true | .lst, .lst => true | .dct, .dct => true
 | _, _ => false
def Tg.nm : Tg → String
 | .non => "NoneType" | .bl => "bool" | .int => "int" | .str => "str" | .tup => "tuple" | .lst => "list" | .dct => "dict"
theorem kit_tg : ∀ g h : Tg, kitB g.nm h.nm = some (g.is h) := by
 intro g h
 cases g <;> cases h <;> decide +kernel
theorem c_isT {x : D} {g : Tg} (h : Tg) (e : tgD x = some g) (q : k (.bl (g.is h))) : dC K hs (rIsi K) [x, .ty h.nm] k := by
 have e1 : tyD x = g.nm := by
  cases x <;> simp only [tgD, Option.some.injEq, reduceCtorEq] at e <;> subst e <;> rfl
 refine c_isi (b := g.is h) (by rw [e1]; exact kit_tg g h) ?_ q
 rw [e1]
 cases g <;> decide
theorem c_bool {x : D} {g : Tg} (e : tgD x = some g) (q : k (.bl (g.is .bl))) : dC K hs (rIsi K) [x, .ty "bool"] k := c_isT .bl e q
theorem c_int {x : D} {g : Tg} (e : tgD x = some g) (q : k (.bl (g.is .int))) : dC K hs (rIsi K) [x, .ty "int"] k := c_isT .int e q
theorem c_str {x : D} {g : Tg} (e : tgD x = some g) (q : k (.bl (g.is .str))) : dC K hs (rIsi K) [x, .ty "str"] k := c_isT .str e q
theorem c_tup {x : D} {g : Tg} (e : tgD x = some g) (q : k (.bl (g.is .tup))) : dC K hs (rIsi K) [x, .ty "tuple"] k := c_isT .tup e q
theorem c_lst {x : D} {g : Tg} (e : tgD x = some g) (q : k (.bl (g.is .lst))) : dC K hs (rIsi K) [x, .ty "list"] k := c_isT .lst e q
def truD : D → Bool
 | .non => false
 | .bl b => b
 | .int i => i != 0
 | .str y => ((y.length : Int) != 0)
 | .tup ds => !ds.isEmpty
 | .lst ds => !ds.isEmpty
 | _ => true
def truOk : D → Prop
 | .str y => y.length ≤ 100000
 | .adr _ => False
 | .ty _ => False
 | .tpf _ => False
 | .clo _ _ _ _ => False
 | .dct _ => False
 | _ => True
theorem truOk_tup {A : Prop} {ds : List D} (h : A) : truOk (.tup ds) ∧ A := ⟨trivial, h⟩
theorem truOk_lst {A : Prop} {ds : List D} (h : A) : truOk (.lst ds) ∧ A := ⟨trivial, h⟩
theorem br_t {A B : Prop} {b : Bool} (e : b = true) (h : A) : (b = true → A) ∧ (b = false → B) := ⟨fun _ => h, fun q => (by rw [e] at q; cases q)⟩
theorem br_f {A B : Prop} {b : Bool} (e : b = false) (h : B) : (b = true → A) ∧ (b = false → B) := ⟨fun q => (by rw [e] at q; cases q), fun _ => h⟩
theorem d_truth (h : dE K hs ta ρ fun x => truOk x ∧ kb (truD x)) : dT K hs (fun σ H Q => ta σ H fun x H' => ∃ k, TruV K x H' k ∧ Q k H') ρ kb := fun H0 σ G H Q f R z =>
 h H0 σ G H _ f R fun v G1 H1 x s1 r1 ⟨o, q⟩ => by
  refine ⟨truD x, ?_, z _ G1 H1 s1 q⟩
  cases r1 with
  | non => rfl
  | bl => rfl
  | int => rfl
  | str => exact ⟨sz o, rfl⟩
  | adr => exact o.elim
  | ty => exact o.elim
  | tup h' r => exact .inr (.inl ⟨_, Same.tseq s1.sub h', by cases r <;> rfl⟩)
  | lst h' r => exact .inl ⟨_, SqL.of (s1.sub _ _ h'), by cases r <;> rfl⟩
  | dct _ _ => exact o.elim
  | tpf _ _ _ => exact o.elim
  | clo _ _ _ => exact o.elim
theorem c_tuple {x : D} {ds : List D} (e : x = .lst ds ∨ x = .tup ds) (q : k (.tup ds)) : dC K hs (fun xs H Q => ∃ p ys, xs = [.ref p] ∧ ((SqL K H p ys ∧ ∀ l, H l = none → Q (.ref l) (upd H l (.tup ys))) ∨ (SqT K H p ys ∧ Q (.ref p) H))) [x] k := fun G H vs Q f r z => by
 cases r with
 | cons r1 r2 =>
  cases r2
  rcases e with rfl | rfl
  ·obtain ⟨a, ws, rfl, hh, r⟩ := rel_lst r1
   refine ⟨a, ws, rfl, .inl ⟨SqL.of (f.sub _ _ hh), fun p hp => ?_⟩⟩
   have s2 := Step.alloc (o := .tup ws) f.sub f.st hp
   exact z _ _ _ _ s2 (.tup (.inl (.inl upd_same)) (r.mono s2.exg)) q
  ·obtain ⟨a, ws, rfl, hh, r⟩ := rel_tup r1
   exact ⟨a, ws, rfl, .inr ⟨Same.tseq f.sub hh, z _ G H _ f.refl r1 q⟩⟩
theorem rel_bls {G : Hp} : ∀ {vs : List V} {bs : List Bool}, RelL K G vs (bs.map D.bl) → vs = bs.map V.bl
 | _, [], .nil => rfl
 | _, s :: ss, .cons r t => by rw [rel_bl r, rel_bls t]; rfl
theorem rel_ints {G : Hp} : ∀ {vs : List V} {bs : List Int}, RelL K G vs (bs.map D.int) → vs = bs.map V.int
 | _, [], .nil => rfl
 | _, s :: ss, .cons r t => by rw [rel_int r, rel_ints t]; rfl
theorem c_any {bs : List Bool} (q : k (.bl (bs.any id))) : dC K hs (rAny K) [.lst (bs.map D.bl)] k := fun G H vs Q f r z => by
 cases r with
 | cons r1 r2 =>
  cases r2
  obtain ⟨a, ws, rfl, hh, r⟩ := rel_lst r1
  have e := rel_bls r
  subst e
  exact ⟨a, bs, rfl, SqL.of (f.sub _ _ hh), z _ G H _ f.refl .bl q⟩
theorem c_sum {ns : List Int} (q : k (.int ns.sum)) : dC K hs (rSum K) [.lst (ns.map D.int)] k := fun G H vs Q f r z => by
 cases r with
 | cons r1 r2 =>
  cases r2
  obtain ⟨a, ws, rfl, hh, r⟩ := rel_lst r1
  have e := rel_ints r
  subst e
  exact ⟨a, ns, rfl, SqL.of (f.sub _ _ hh), z _ G H _ f.refl .int q⟩
def lookD (ks : List (Str × D)) (s : Str) : Option D := (ks.find? fun kv => decide (kv.1 = s)).map (·.2)
theorem rel_look {G : Hp} {s : Str} : ∀ {kvs : List (Key × V)} {ks : List (Str × D)}, RelK K G kvs ks → (∀ d, lookD ks s = some d → ∃ v, valV kvs (Sum.inr s) = some v ∧ Rel K G v d) ∧ (lookD ks s = none → valV kvs (Sum.inr s) = none)
 | _, _, .nil => ⟨fun d e => (by cases e), fun _ => rfl⟩
 | _, _, .cons (k := x) (v := v0) (vs := vs) (d := d0) (ds := ds) r t => by
  obtain ⟨h1, h2⟩ := rel_look (s := s) t
  unfold lookD valV at h1 h2 ⊢
  by_cases e : x = s
  ·subst e
   have f1 : (((Sum.inr x : Key), v0) :: vs).find? (fun kv => decide (kv.1 = Sum.inr x)) = some (Sum.inr x, v0) := by simp
   have f2 : ((x, d0) :: ds).find? (fun kv => decide (kv.1 = x)) = some (x, d0) := by simp
   rw [f1, f2]
   refine ⟨fun d q => ?_, fun q => ?_⟩
   ·cases q
    exact ⟨_, rfl, r⟩
   ·cases q
  ·have f1 : (((Sum.inr x : Key), v0) :: vs).find? (fun kv => decide (kv.1 = Sum.inr s)) = vs.find? (fun kv => decide (kv.1 = Sum.inr s)) := by
    have : ¬ (Sum.inr x : Key) = Sum.inr s := fun q => e (Sum.inr.inj q)
    simp [List.find?_cons, this]
   have f2 : ((x, d0) :: ds).find? (fun kv => decide (kv.1 = s)) = ds.find? (fun kv => decide (kv.1 = s)) := by simp [List.find?_cons, e]
   rw [f1, f2]
   exact ⟨h1, h2⟩
theorem d_dget (h : dE K hs ta ρ fun x => dE K hs tb ρ fun y => ∃ ks s d, x = .dct ks ∧ y = .str s ∧ lookD ks s = some d ∧ k d) : dE K hs (tDGet ta tb) ρ k := fun H0 σ G H Q f R z =>
 h H0 σ G H _ f R fun v G1 H1 x s1 r1 h1 => h1 H0 σ G1 H1 _ s1.fr (R.step s1) fun w G2 H2 y s2 r2 ⟨ks, s, d, e1, e2, e3, q⟩ => by
  subst e1 e2
  obtain ⟨a, oo, kvs, rfl, hh, r⟩ := rel_dct (r1.mono s2.exg)
  obtain ⟨v', h3, h4⟩ := (rel_look (s := s) r).1 d e3
  refine ⟨a, v', rfl, .inl ⟨kvs, Sum.inr s, .inr ⟨oo, s2.sub _ _ hh⟩, by rw [rel_str r2]; rfl, h3.symm⟩, z _ G2 H2 d (s1.trans s2) h4 q⟩
theorem d_dget1 (h : dE K hs ta ρ fun x => ∃ ks, x = .dct ks ∧ dE K hs tb ρ fun y => ∃ s, y = .str s ∧ k ((lookD ks s).getD .non)) : dE K hs (tDGet1 ta tb) ρ k := fun H0 σ G H Q f R z =>
 h H0 σ G H _ f R fun v G1 H1 x s1 r1 ⟨ks, e0, h1⟩ => by
  subst e0
  obtain ⟨a, oo, kvs, rfl, hh, r⟩ := rel_dct r1
  refine ⟨a, rfl, .inl ⟨kvs, .inr ⟨oo, s1.sub _ _ hh⟩⟩, h1 H0 σ G1 H1 _ s1.fr (R.step s1) fun w G2 H2 y s2 r2 ⟨s, e2, q⟩ => ?_⟩
  subst e2
  obtain ⟨g1, g2⟩ := rel_look (s := s) (r.mono s2.exg)
  refine ⟨valV kvs (Sum.inr s), .inl ⟨kvs, Sum.inr s, .inr ⟨oo, s2.sub _ _ (s2.exg _ _ hh)⟩, by rw [rel_str r2]; rfl, rfl⟩, ?_⟩
  cases e : lookD ks s with
  | none =>
   rw [e] at q
   rw [g2 e]
   exact z _ G2 H2 _ (s1.trans s2) .non q
  | some d =>
   rw [e] at q
   obtain ⟨v', h3, h4⟩ := g1 d e
   rw [h3]
   exact z _ G2 H2 _ (s1.trans s2) h4 q
theorem d_dget2 (h : dE K hs ta ρ fun x => ∃ ks, x = .dct ks ∧ dE K hs tb ρ fun y => dE K hs tc ρ fun x' => ∃ s, y = .str s ∧ k ((lookD ks s).getD x')) : dE K hs (tDGet2 ta tb tc) ρ k := fun H0 σ G H Q f R z =>
 h H0 σ G H _ f R fun v G1 H1 x s1 r1 ⟨ks, e0, h1⟩ => by
  subst e0
  obtain ⟨a, oo, kvs, rfl, hh, r⟩ := rel_dct r1
  refine ⟨a, rfl, .inl ⟨kvs, .inr ⟨oo, s1.sub _ _ hh⟩⟩, h1 H0 σ G1 H1 _ s1.fr (R.step s1) fun w G2 H2 y s2 r2 h2 => h2 H0 σ G2 H2 _ s2.fr (R.step (s1.trans s2)) fun u G3 H3 x' s3 r3 ⟨s, e2, q⟩ => ?_⟩
  subst e2
  obtain ⟨g1, g2⟩ := rel_look (s := s) (r.mono (s2.trans s3).exg)
  refine ⟨valV kvs (Sum.inr s), .inl ⟨kvs, Sum.inr s, .inr ⟨oo, s3.sub _ _ ((s2.trans s3).exg _ _ hh)⟩, by rw [rel_str r2]; rfl, rfl⟩, ?_⟩
  cases e : lookD ks s with
  | none =>
   rw [e] at q
   rw [g2 e]
   exact z _ G3 H3 _ ((s1.trans s2).trans s3) r3 q
  | some d =>
   rw [e] at q
   obtain ⟨v', h3, h4⟩ := g1 d e
   rw [h3]
   exact z _ G3 H3 _ ((s1.trans s2).trans s3) h4 q
end
def tKGet (K : PySem.W.Frag) (w : World) (d : Addr) (ty : TE) : TE := fun σ H Q => ty σ H fun y H2 => ∃ z r, y = .str z ∧ PySem.W.nsIn K d z = some r ∧ (r = none → Q .non H2) ∧ ∀ u0, r = some u0 → ∃ v0, RelV v0 u0 ∧ Q v0 H2
theorem kd_get1 {X : Cx} {d : Addr} {es : Array DictEntry} {n : Nat} {x : Str} {e : Expr} {p apos cpos : Pos} {ty : TE} (Dk : KDict X.K X.w d es n) (hg : Gl X x) (hm : X.mg x = some (.ref d)) (he : PE X e ty) (m : M1 X (.Name x p) "get" apos e cpos) (hd : (x == ("__debug__" : Str)) = false := by decide) :
  PE X (.Call (.Attribute (.Name x p) "get" apos) [e] [] cpos) (tKGet X.K X.w d ty) := by
 refine ⟨fun pins s σ H Q I h => ?_⟩
 refine PySem.wpAny_Call_method m.base m.few m.line PySem.F.plainAttrs_dict PySem.F.slot_dict_get PySem.F.type_dict_get (ld_glob I hg hm ?_ hd)
 refine ⟨kd_type Dk I, fun b q => ?_, ?_⟩
 ·cases q
  exact ⟨_, I.kIn _ _ Dk.at_, rfl⟩
 rw [m.trees]
 refine Calls.callWith_builtin rfl (Calls.evalArgs_plain (Calls.spliced_cons (thn (he.run pins s σ H _ I h) fun iv s2 ⟨y, H2, I2, ry, z, r, ey, en, q1, q2⟩ => Calls.spliced_nil ?_)))
 subst ey
 obtain ⟨t, rfl⟩ := ry
 refine PySem.call_meetsIn PySem.F.slot_dict_get (kd_type Dk I2) PySem.F.entry_dict_get (PySem.F.args_dict_get_2 _ _) (PySem.meets_dict_get (strKind X.prog X.w) d (PySem.strKind_is X.prog X.w z t) Dk.low) ⟨_, PySem.W.mapOf_K (prog := X.prog) I2.kIn Dk.at_ Dk.lit, ?_⟩
 rw [PySem.W.find_K Dk.at_ en]
 cases r with
 | none => exact ⟨.non, H2, I2.tok _, rfl, q1 rfl⟩
 | some u0 =>
  obtain ⟨v0, r0, q0⟩ := q2 u0 rfl
  exact ⟨v0, H2, I2.tok _, r0, q0⟩
def KHas (K : PySem.W.Frag) (d : Addr) (s : Str) (x : Option D) : Prop := match x with
 | none => PySem.W.nsIn K d s = some none
 | some x => ∃ u v, PySem.W.nsIn K d s = some (some u) ∧ RelV v u ∧ ∀ G, Rel K G v x
section
variable {K : PySem.W.Frag} {hs : Option (Addr × Addr)} {ρ : List Sl} {k : D → Prop} {ta tb tc te : TE} {w : World} {d : Addr}
theorem d_kget (h : dE K hs te ρ fun y => ∃ s x, y = .str s ∧ KHas K d s x ∧ k (x.getD .non)) : dE K hs (tKGet K w d te) ρ k := fun H0 σ G H Q f R z =>
 h H0 σ G H _ f R fun v G1 H1 y s1 r1 ⟨s, x, e, kh, q⟩ => by
  subst e
  cases x with
  | none => exact ⟨s, none, rel_str r1, kh, fun _ => z _ G1 H1 _ s1 .non q, fun u0 e => (by cases e)⟩
  | some x =>
   obtain ⟨u, v', h1, h2, h3⟩ := kh
   refine ⟨s, some u, rel_str r1, h1, fun e => (by cases e), fun u0 e => ?_⟩
   cases e
   exact ⟨v', h2, z _ G1 H1 _ s1 (h3 _) q⟩
end
section
variable {K : PySem.W.Frag} {hs : Option (Addr × Addr)} {ρ : List Sl} {k : D → Prop} {te : TE} {tt : TT} {t : TS} {E : DEnds} {g : TG} {js : List Nat}
theorem forW_nil (h : E.nx ρ) : forW K hs g t E [] ρ := h
theorem forW_cons {d : D} {r : List D} (h : dG K hs g none d ρ fun ρ' => dS K hs t ρ' { nx := forW K hs g t E r, rt := E.rt, bk := E.nx, ct := forW K hs g t E r }) : forW K hs g t E (d :: r) ρ := h
theorem forW_id {ds : List D} (h : forW K hs g t E ds ρ) : forW K hs g t E ds ρ := h
theorem g_tid {gs : TGs} {js : Option (List Nat)} {n : Nat} {d : D} {kr : List Sl → Prop} (h : dG K hs (gTup K n gs) js d ρ kr) : dG K hs (gTup K n gs) js d ρ kr := h
theorem forW_pair {x y : D} {xs ys : List D} (h : dG K hs g none (.tup [x, y]) ρ fun ρ' => dS K hs t ρ' { nx := forW K hs g t E (pairUp xs ys), rt := E.rt, bk := E.nx, ct := forW K hs g t E (pairUp xs ys) }) : forW K hs g t E (pairUp (x :: xs) (y :: ys)) ρ := h
theorem forW_pnil {ys : List D} (h : E.nx ρ) : forW K hs g t E (pairUp [] ys) ρ := h
theorem d_slT1 (h : dE K hs te ρ fun x => ∃ d r, x = .tup (d :: r) ∧ k (.tup r)) : dE K hs (tSl (rSlA K) te (tPart (tC (.int 1))) tNoPart) ρ k := d_slT fun H0 σ G H Q f R z => h H0 σ G H Q f R fun v G' H' x s r ⟨d, l, e, q⟩ => z v G' H' x s r (o_part (d_c rfl ⟨1, rfl, o_no ⟨_, e, by
 have : cutD (d :: l) (some 1) none = l := by
  unfold cutD
  rw [HT.sIx_none, show HT.sIx (d :: l).length 0 (some 1) = 1 from by rw [show (1 : Int) = ((1 : Nat) : Int) from rfl, HT.sIx_nat]; simp]
  simp
 rw [this]
 exact q⟩⟩))
theorem d_slT3 (h : dE K hs te ρ fun x => ∃ a b c r, x = .tup (a :: b :: c :: r) ∧ k (.tup [a, b, c])) : dE K hs (tSl (rSlA K) te tNoPart (tPart (tC (.int 3)))) ρ k := d_slT fun H0 σ G H Q f R z => h H0 σ G H Q f R fun v G' H' x s r ⟨a, b, c, l, e, q⟩ => z v G' H' x s r (o_no (o_part (d_c rfl ⟨3, rfl, ⟨_, e, by
 have : cutD (a :: b :: c :: l) none (some 3) = [a, b, c] := by
  unfold cutD
  rw [HT.sIx_none, show HT.sIx (a :: b :: c :: l).length (a :: b :: c :: l).length (some 3) = 3 from by rw [show (3 : Int) = ((3 : Nat) : Int) from rfl, HT.sIx_nat]; simp]
  simp
 rw [this]
 exact q⟩⟩)))
theorem d_slT13 (h : dE K hs te ρ fun x => ∃ a b c r, x = .tup (a :: b :: c :: r) ∧ k (.tup [b, c])) : dE K hs (tSl (rSlA K) te (tPart (tC (.int 1))) (tPart (tC (.int 3)))) ρ k := d_slT fun H0 σ G H Q f R z => h H0 σ G H Q f R fun v G' H' x s r ⟨a, b, c, l, e, q⟩ => z v G' H' x s r (o_part (d_c rfl ⟨1, rfl, (o_part (d_c rfl ⟨3, rfl, ⟨_, e, by
 have : cutD (a :: b :: c :: l) (some 1) (some 3) = [b, c] := by
  unfold cutD
  rw [show HT.sIx (a :: b :: c :: l).length 0 (some 1) = 1 from by rw [show (1 : Int) = ((1 : Nat) : Int) from rfl, HT.sIx_nat]; simp, show HT.sIx (a :: b :: c :: l).length (a :: b :: c :: l).length (some 3) = 3 from by rw [show (3 : Int) = ((3 : Nat) : Int) from rfl, HT.sIx_nat]; simp]
  simp
 rw [this]
 exact q⟩⟩))⟩))
theorem lcW_nil {kl : List D → Prop} {acc : List D} (h : kl acc) : lcW K hs g js tt te ρ kl [] acc := h
theorem lcW_cons {kl : List D → Prop} {acc : List D} {d : D} {r : List D} (h : dG K hs g (some js) d ρ fun ρ' => dT K hs tt ρ' fun b => (b = true → dE K hs te ρ' fun y => lcW K hs g js tt te ρ kl r (acc ++ [y])) ∧ (b = false → lcW K hs g js tt te ρ kl r acc)) : lcW K hs g js tt te ρ kl (d :: r) acc := h
theorem d_lc {ti : TI} {vs : List Nat} (h : dI K hs ti ρ fun ds => ds.length ≤ 50000 ∧ lcW K hs g vs tt te (wipeR ρ vs) (fun ds => k (.lst ds)) ds []) : dE K hs (tLc ti g tt te vs) ρ k := d_ofL (l_lc h)
theorem s_setL {ti : TI} {vs : List Nat} {i : Nat} (h : dI K hs ti ρ fun ds => ds.length ≤ 50000 ∧ lcW K hs g vs tt te (wipeR ρ vs) (fun ds => E.nx (ρ.set i (.d (.lst ds)))) ds []) : dS K hs (tAsg (tLc ti g tt te vs) (gName i)) ρ E := s_set (d_lc h)
end
def DefT (K : PySem.W.Frag) (mg : Str → Option Value) (x : Str) (st : Stmt) : Prop := ∃ f fd, mg x = some (.ref f) ∧ FunD K x x (defArgs st) (defBody st) (defScope st) [] [] f fd
theorem fd_look {K : PySem.W.Frag} {x qual : Str} {params : Arguments} {body : List Stmt} {scope : Scope} {dvs : List V} {kws : List (Str × V)} {f : Addr} {fd : FuncData} (F : FunD K x qual params body scope dvs kws f fd) : ∃ (oc : Value) (od : Option Addr) (osl : Array (Option Value)), K.lookup f = some ⟨oc, od, .func fd, osl⟩ := by
 obtain ⟨oc, od, _, _, _, _, _, _, _, osl, _, lk, _⟩ := F.ex
 exact ⟨oc, od, osl, lk⟩
structure CalF (P : Program) (w : World) (K : PySem.W.Frag) (mg : Str → Option Value) (base : Heap) (k : Nat) (x : Str) (ps : List Str) (hs : Option (Addr × Addr)) (M : List D → (D → Prop) → Prop) (f : Addr) (fd : FuncData) : Prop where
 at_ : mg x = some (.ref f)
 keep : PySem.W.keepIn K (.ref f) = true
 binds : Binds K fd ps []
 look : ∃ (oc : Value) (od : Option Addr) (osl : Array (Option Value)), K.lookup f = some ⟨oc, od, .func fd, osl⟩
 ok : FnOk P w K mg base CX0 k f fd ps (spD K hs M)
def Cal (P : Program) (w : World) (K : PySem.W.Frag) (mg : Str → Option Value) (base : Heap) (k : Nat) (x : Str) (ps : List Str) (hs : Option (Addr × Addr)) (M : List D → (D → Prop) → Prop) : Prop := ∃ f fd, CalF P w K mg base k x ps hs M f fd
section
variable {P : Program} {w : World} {K : PySem.W.Frag} {mg : Str → Option Value} {base : Heap} {hs : Option (Addr × Addr)} {x : Str} {st : Stmt} {N ps : List Str} {k j : Nat} {M M' : List D → (D → Prop) → Prop}
theorem Cal.mono (C : Cal P w K mg base k x ps hs M) (h : k ≤ j) : Cal P w K mg base j x ps hs M := by
 obtain ⟨f, fd, a, b, c, l, d⟩ := C
 exact ⟨f, fd, a, b, c, l, d.mono h⟩
theorem Cal.imp (C : Cal P w K mg base k x ps hs M) (h : ∀ ds kk, M' ds kk → M ds kk) : Cal P w K mg base k x ps hs M' := by
 obtain ⟨f, fd, a, b, c, l, d⟩ := C
 exact ⟨f, fd, a, b, c, l, FnOk.impD d h⟩
theorem okF (F : DefT K mg x st) (S : FnScope N ps (defScope st))
  (hb : ∀ (kV doc pm : Value) (an : Option Addr) (cdv ct : Value) (us : List Value), us.length = ps.length → bindArgs (PySem.W.fnOf x x (defArgs st) (defBody st) (defScope st) .none kV doc pm an cdv ct) ⟨us, []⟩ = pure (ps.zip us))
  (len : ∀ ds k, M ds k → ds.length = ps.length)
  (hbody : ∀ (f : Addr) (cdv : Value) (A : Around) (outer : List Env) (s : Shared) (H : Hp) (E : XK) (ds : List D) (kk : D → Prop), Room k (A.deeper (PyProof.Rows.envOfC x (defScope st) s.heap.objs.size f cdv)) → M ds kk →
   ∃ t, PSs (cxOf CX0 P w K mg base N x (defScope st) f cdv A outer s H E).nox (defBody st) t ∧ dS K hs t (startD N ds) { nx := fun _ => kk .non, rt := kk }) : Cal P w K mg base (k + 1) x ps hs M := by
 obtain ⟨f, fd, h1, h2⟩ := F
 refine ⟨f, fd, h1, h2.kp, h2.bindsN hb, fd_look h2, ?_⟩
 refine h2.ok S (fun vs H Q E h => ?_) (fun cdv A outer s H vs Q E hr h => ?_)
 ·obtain ⟨G, ds, kk, _, r, m, _⟩ := h
  rw [r.length]
  exact len ds kk m
 ·obtain ⟨G, ds, kk, fr, r, m, z⟩ := h
  obtain ⟨t, ht, hd⟩ := hbody f cdv A outer s H E ds kk hr m
  exact ⟨t, ht.nox, hd G H G _ G H _ fr.refl (Same.refl G) (env_start r) ⟨fun σ G' H' ρ s' _ _ q => z _ G' H' _ s' .non q, fun v G' H' d s' r' q => z v G' H' d s' r' q, fun _ _ _ _ _ _ _ q => q.elim, fun _ _ _ _ _ _ _ q => q.elim⟩⟩
theorem pe_gref {X : Cx} {x : Str} {a : Addr} {pos : Pos} (hg : Gl X x) (hm : X.mg x = some (.ref a)) (hd : (x == ("__debug__" : Str)) = false := by decide) : PE X (.Name x pos) (tC (.ref a)) := pe_glob (v := .ref a) hg hm rfl hd
theorem pe_gint {X : Cx} {x : Str} {i : Int} {t : Tok} {pos : Pos} (hg : Gl X x) (hm : X.mg x = some (.int i t)) (hd : (x == ("__debug__" : Str)) = false := by decide) : PE X (.Name x pos) (tC (.int i)) := pe_glob (v := .int i) hg hm ⟨t, rfl⟩ hd
theorem pe_bty {X : Cx} {x : Str} {n : String} {pos : Pos} (hg : Gl X x) (hm : X.mg x = none) (hv : bootBuiltins x = some (.type n)) (hn : x ≠ "__name__" := by decide) (hd : (x == ("__debug__" : Str)) = false := by decide) : PE X (.Name x pos) (tC (.ty n)) := pe_bltn (v := .ty n) hg hm hv rfl hn hd
abbrev rLenQ (K : PySem.W.Frag) : List V → Hp → VK → Prop := fun xs H Q => ∃ p ys, xs = [.ref p] ∧ (SqL K H p ys ∨ SqT K H p ys) ∧ Q (.int ys.length) H
abbrev rTupQ (K : PySem.W.Frag) : List V → Hp → VK → Prop := fun xs H Q => ∃ p ys, xs = [.ref p] ∧ ((SqL K H p ys ∧ ∀ l, H l = none → Q (.ref l) (upd H l (.tup ys))) ∨ (SqT K H p ys ∧ Q (.ref p) H))
abbrev rListQ (K : PySem.W.Frag) : List V → Hp → VK → Prop := fun xs H Q => ∃ p ys, xs = [.ref p] ∧ (SqL K H p ys ∨ SqT K H p ys) ∧ ∀ l, H l = none → Q (.ref l) (upd H l (.lst ys))
theorem pg_tupK {X : Cx} {K : PySem.W.Frag} {es : List Expr} {k n : Nat} {t : TGs} {pos : Pos} (hK : X.K = K) (hc : X.calm = true) (h : PGs X es t)
  (hn : (assignEach es X.env).length = n := by rfl) (hst : (assignEach es X.env).findIdx? (·.1) = none := by rfl) : PG X (.Tuple es k pos) (gTup K n t) := by
 subst hK
 exact pg_tup hc h hn hst
theorem pe_calK {X : Cx} {K : PySem.W.Frag} {e : Expr} {es : List Expr} {t : TA} {p pos : Pos} (hK : X.K = K) (C : Cal X.prog X.w X.K X.mg X.base k x ps hs M) (hr : Room k X.A) (hg : Gl X x) (ha : PA X (e :: es) t) (hdb : (x == ("__debug__" : Str)) = false := by decide)
  (he : starEach (e :: es) X.env = (false, eval e X.env) :: starEach es X.env := by rfl) (hpl : (backTo pos (starEach es X.env)).any (·.1) = false := by rfl) : PE X (.Call (.Name x p) (e :: es) [] pos) (tCall (spD K hs M) [] E0 t) := by
 subst hK
 obtain ⟨f, fd, a, b, c, _, d⟩ := C
 exact pe_call d hr hg a b c .nil pass0 ha hdb he hpl
end
def DefV (K : PySem.W.Frag) (mg : Str → Option Value) (x : Str) (st : Stmt) (dvs : List V) : Prop := ∃ f fd, mg x = some (.ref f) ∧ FunD K x x (defArgs st) (defBody st) (defScope st) dvs [] f fd
def CalV (P : Program) (w : World) (K : PySem.W.Frag) (mg : Str → Option Value) (base : Heap) (k : Nat) (x : Str) (ps : List Str) (hs : Option (Addr × Addr)) (M : List D → (D → Prop) → Prop) (dvs : List V) : Prop :=
 ∃ f fd ds, CalF P w K mg base k x ps hs M f fd ∧ Vals dvs ds ∧ Binds K fd ps ds
section
variable {P : Program} {w : World} {K : PySem.W.Frag} {mg : Str → Option Value} {base : Heap} {hs : Option (Addr × Addr)} {x : Str} {st : Stmt} {N ps : List Str} {k j : Nat} {M M' : List D → (D → Prop) → Prop} {dvs : List V}
theorem CalV.cal (C : CalV P w K mg base k x ps hs M dvs) : Cal P w K mg base k x ps hs M := by
 obtain ⟨f, fd, ds, c, _⟩ := C
 exact ⟨f, fd, c⟩
theorem CalV.mono (C : CalV P w K mg base k x ps hs M dvs) (h : k ≤ j) : CalV P w K mg base j x ps hs M dvs := by
 obtain ⟨f, fd, ds, ⟨a, b, c, l, d⟩, e⟩ := C
 exact ⟨f, fd, ds, ⟨a, b, c, l, d.mono h⟩, e⟩
theorem okV (F : DefV K mg x st dvs) (S : FnScope N ps (defScope st)) (n : Nat) (hd : dvs ≠ []) (hn : n + dvs.length = ps.length)
  (hb : ∀ (T : Addr) (kV doc pm : Value) (an : Option Addr) (cdv ct : Value) (us its : List Value), us.length = n → its.length = dvs.length →
   ∃ k, bindArgs (PySem.W.fnOf x x (defArgs st) (defBody st) (defScope st) (.ref T) kV doc pm an cdv ct) ⟨us, []⟩ = seqItems? (.ref T) >>= k ∧ k (some its.toArray) = pure (ps.zip (us ++ its)))
  (hf : ∀ (T : Addr) (kV doc pm : Value) (an : Option Addr) (cdv ct : Value) (us its : List Value), us.length = ps.length → its.length = dvs.length →
   ∃ k, bindArgs (PySem.W.fnOf x x (defArgs st) (defBody st) (defScope st) (.ref T) kV doc pm an cdv ct) ⟨us, []⟩ = seqItems? (.ref T) >>= k ∧ k (some its.toArray) = pure (ps.zip us))
  (len : ∀ ds k, M ds k → ds.length = ps.length)
  (hbody : ∀ (f : Addr) (cdv : Value) (A : Around) (outer : List Env) (s : Shared) (H : Hp) (E : XK) (ds : List D) (kk : D → Prop), Room k (A.deeper (PyProof.Rows.envOfC x (defScope st) s.heap.objs.size f cdv)) → M ds kk →
   ∃ t, PSs (cxOf CX0 P w K mg base N x (defScope st) f cdv A outer s H E).nox (defBody st) t ∧ dS K hs t (startD N ds) { nx := fun _ => kk .non, rt := kk }) : CalV P w K mg base (k + 1) x ps hs M dvs := by
 obtain ⟨f, fd, h1, h2⟩ := F
 have b1 := h2.binds1 (ps := ps) n 0 hd (by rw [Nat.sub_zero]; exact hn) fun T kV doc pm an cdv ct us its h3 h4 => by
  obtain ⟨q, q1, q2⟩ := hb T kV doc pm an cdv ct us its h3 h4
  exact ⟨q, q1, by rw [List.drop_zero]; exact q2⟩
 have b2 := h2.binds1 (ps := ps) ps.length dvs.length hd (by omega) fun T kV doc pm an cdv ct us its h3 h4 => by
  obtain ⟨q, q1, q2⟩ := hf T kV doc pm an cdv ct us its h3 h4
  refine ⟨q, q1, ?_⟩
  rw [List.drop_eq_nil_of_le (by omega), List.append_nil]
  exact q2
 obtain ⟨ds1, v1, b1⟩ := b1
 obtain ⟨ds2, v2, b2⟩ := b2
 rw [List.drop_eq_nil_of_le (Nat.le_refl _)] at v2
 cases v2
 refine ⟨f, fd, ds1, ⟨h1, h2.kp, b2, fd_look h2, ?_⟩, v1, b1⟩
 refine h2.ok S (fun vs H Q E h => ?_) (fun cdv A outer s H vs Q E hr h => ?_)
 ·obtain ⟨G, ds, kk, _, r, m, _⟩ := h
  rw [r.length]
  exact len ds kk m
 ·obtain ⟨G, ds, kk, fr, r, m, z⟩ := h
  obtain ⟨t, ht, hd⟩ := hbody f cdv A outer s H E ds kk hr m
  exact ⟨t, ht.nox, hd G H G _ G H _ fr.refl (Same.refl G) (env_start r) ⟨fun σ G' H' ρ s' _ _ q => z _ G' H' _ s' .non q, fun v G' H' d s' r' q => z v G' H' d s' r' q, fun _ _ _ _ _ _ _ q => q.elim, fun _ _ _ _ _ _ _ q => q.elim⟩⟩
theorem pe_calD {X : Cx} {e : Expr} {es : List Expr} {t : TA} {p pos : Pos} (C : CalV X.prog X.w X.K X.mg X.base k x ps hs M dvs) (hr : Room k X.A) (hg : Gl X x) (ha : PA X (e :: es) t) (hdb : (x == ("__debug__" : Str)) = false := by decide)
  (he : starEach (e :: es) X.env = (false, eval e X.env) :: starEach es X.env := by rfl) (hpl : (backTo pos (starEach es X.env)).any (·.1) = false := by rfl) : PE X (.Call (.Name x p) (e :: es) [] pos) (tCall (spD X.K hs M) dvs E0 t) := by
 obtain ⟨f, fd, ds, ⟨a, b, c, _, d⟩, v, bb⟩ := C
 exact pe_call d hr hg a b bb v pass0 ha hdb he hpl
theorem d_callV {ρ : List Sl} {kk : D → Prop} {tx : TA} {X : XK} {dds : List D} (hv : ∀ G, RelL K G dvs dds) (h : dA K hs tx ρ fun ds => M (ds ++ dds) kk) : dE K hs (tCall (spD K none M) dvs X tx) ρ kk := fun H0 σ G H Q f R z =>
 h H0 σ G H _ f R fun vs G1 H1 ds s1 r q => ⟨G1, ds ++ dds, kk, s1.fr.none, r.append (hv _), q, fun v G2 H2 d s2 r2 q2 => z v G2 H2 d (s1.trans (s2.lift s1.fr)) r2 q2⟩
end
end PD
set_option Elab.async false
set_option linter.all false
set_option maxRecDepth 100000
set_option maxHeartbeats 1000000
namespace PD
open PySem L2
variable [Tabs]
section
variable {K : PySem.W.Frag} {hs : Option (Addr × Addr)} {ρ : List Sl} {k : D → Prop}
theorem eqvAll_strs : ∀ {ss ts : List Str}, PyData.eqvAll (ss.map PyData.str) (ts.map PyData.str) = decide (ss = ts)
 | [], [] => by simp [PyData.eqvAll]
 | [], _ :: _ => by simp [PyData.eqvAll]
 | _ :: _, [] => by simp [PyData.eqvAll]
 | s :: ss, t :: ts => by
  rw [List.map_cons, List.map_cons, PyData.eqvAll, eqvAll_strs (ss := ss) (ts := ts), PyData.eqv]
  by_cases e : s = t <;> by_cases f : ss = ts <;> simp [e, f]
theorem canLay_strs : ∀ {ss : List Str}, (∀ s ∈ ss, PyData.strOk s = true) → PyData.canLayAll0 (ss.map PyData.str) = true
 | [], _ => rfl
 | s :: ss, h => by
  rw [List.map_cons, PyData.canLayAll0, canLay_strs fun x hx => h x (List.mem_cons_of_mem _ hx), PyData.canLay0, h s List.mem_cons_self]
  rfl
theorem depth_strs : ∀ {ss : List Str}, PyData.depthAll (ss.map PyData.str) = 0
 | [] => rfl
 | s :: ss => by
  rw [List.map_cons, PyData.depthAll, depth_strs, PyData.depth]
  rfl
theorem shaped_lst {ss : List Str} (h : ∀ s ∈ ss, PyData.strOk s = true) : SeqAt.shaped (.list (ss.map PyData.str)) = true := by
 unfold SeqAt.shaped
 rw [PyData.canLay0, canLay_strs h, PyData.depth, depth_strs]
 rfl
theorem dpAll_strs {H : Hp} : ∀ {ss : List Str}, DpAll K H (ss.map V.str) (ss.map PyData.str)
 | [] => .nil
 | s :: ss => .cons (.str s) dpAll_strs
theorem r_eqL {ss ts : List Str} (h1 : ∀ s ∈ ss, PyData.strOk s = true) (h2 : ∀ s ∈ ts, PyData.strOk s = true) (q : k (.bl (decide (ss = ts)))) : dR K hs (rEqD K) (.lst (strsOf ss)) (.lst (strsOf ts)) k := fun G H v u Q f r1 r2 z => by
 obtain ⟨a, vs, rfl, hh, r⟩ := rel_lst r1
 obtain ⟨b, us, rfl, hh', r'⟩ := rel_lst r2
 have e := rel_strs r
 have e' := rel_strs r'
 subst e e'
 refine ⟨_, _, .lst (SqL.of (f.sub _ _ hh)) dpAll_strs, .lst (SqL.of (f.sub _ _ hh')) dpAll_strs, shaped_lst h1, shaped_lst h2, ?_⟩
 rw [PyData.eqv, eqvAll_strs]
 exact z _ G H _ f.refl .bl q
end
end PD
set_option Elab.async false
set_option linter.all false
set_option maxRecDepth 100000
set_option maxHeartbeats 1000000
namespace PD
open PySem L2
open PT (rSetTx rSortedTx cr_setTx cr_sortedTx SetTx)
variable [Tabs]
section
variable {K : PySem.W.Frag} {hs : Option (Addr × Addr)} {ρ : List Sl} {te : TE} {kl : List D → Prop} {w : World}
theorem rel_of_strs {G : Hp} : ∀ {ss : List Str}, RelL K G (ss.map V.str) (strsOf ss)
 | [] => .nil
 | s :: ss => .cons .str rel_of_strs
theorem l_sortedSet (h : dE K hs te ρ fun x => ∃ ss : List Str, x = .lst (strsOf ss) ∧ ss.length ≤ 60 ∧ ∀ ys : List Str, PyProof.Rows.sortedS ys = true → ys.Nodup → (∀ x, x ∈ ys ↔ x ∈ ss) → kl (strsOf ys)) :
  dL K hs (tCB (rSortedTx w) (tCons (tCB (rSetTx K w) (tCons te tNil)) tNil)) ρ kl := fun H0 σ G H Q f R z =>
 h H0 σ G H _ f R fun v G1 H1 x s1 r1 ⟨ss, e, few, q⟩ => by
  subst e
  obtain ⟨l, vs, rfl, hh, r⟩ := rel_lst r1
  have e := rel_strs r
  subst e
  refine ⟨l, ss, rfl, SqL.of (s1.sub _ _ hh), few, fun a ha => ?_⟩
  have s2 := Step.fresh (o := SetTx w a ss.reverse) s1.sub s1.st ha
  refine ⟨a, ss.reverse, rfl, upd_same, by rw [List.length_reverse]; omega, fun ys p y1 y2 y3 hp => ?_⟩
  have s3 := Step.fresh (o := .lst (ys.map V.str)) s2.sub s2.st hp
  exact z p _ G1 _ _ ((s1.trans s2).trans s3) ((s1.trans s2).back hp) (Same.free s2.sub hp) upd_same rel_of_strs (q ys y1 y2 fun x => (y3 x).trans List.mem_reverse)
theorem d_sortedSet {k : D → Prop} (h : dE K hs te ρ fun x => ∃ ss : List Str, x = .lst (strsOf ss) ∧ ss.length ≤ 60 ∧ ∀ ys : List Str, PyProof.Rows.sortedS ys = true → ys.Nodup → (∀ x, x ∈ ys ↔ x ∈ ss) → k (.lst (strsOf ys))) :
  dE K hs (tCB (rSortedTx w) (tCons (tCB (rSetTx K w) (tCons te tNil)) tNil)) ρ k := d_ofL (l_sortedSet h)
end
def up (a b : Str) : Prop := a.cps.toList < b.cps.toList
theorem up_irr (a : Str) : ¬ up a a := List.lt_irrefl _
theorem up_tri {a b : Str} (h : ¬ up a b) (n : a ≠ b) : up b a := by
 have h1 : b.cps.toList ≤ a.cps.toList := List.not_lt.mp h
 rcases List.le_iff_lt_or_eq.mp h1 with q | q
 ·exact q
 ·exfalso
  apply n
  cases a; cases b
  congr
  exact (Array.toList_inj.mp q).symm
theorem up_trans {a b c : Str} (h : up a b) (h' : up b c) : up a c := List.lt_trans h h'
theorem rising_up : ∀ {l : List Str} {p : Str}, PyProof.Rows.risingS p l = true → (p :: l).Nodup → (p :: l).Pairwise up
 | [], p, _, _ => List.pairwise_singleton _ _
 | x :: l, p, h, d => by
  unfold PyProof.Rows.risingS at h
  rw [Bool.and_eq_true] at h
  obtain ⟨h1, h2⟩ := h
  obtain ⟨d1, d2⟩ := List.nodup_cons.mp d
  have ih := rising_up h2 d2
  have px : up p x := by
   refine up_tri (a := x) (b := p) (fun q => ?_) (fun q => d1 (by rw [← q]; exact List.mem_cons_self))
   rw [PyProof.Rows.ltCps_eq, decide_eq_true (show x.cps.toList < p.cps.toList from q)] at h1
   cases h1
  refine List.pairwise_cons.mpr ⟨fun y hy => ?_, ih⟩
  rcases List.mem_cons.mp hy with rfl | hy
  ·exact px
  ·exact up_trans px ((List.pairwise_cons.mp ih).1 y hy)
theorem sorted_up {l : List Str} (h : PyProof.Rows.sortedS l = true) (d : l.Nodup) : l.Pairwise up := by
 cases l with
 | nil => exact List.Pairwise.nil
 | cons x l => exact rising_up h d
theorem up_same : ∀ {l m : List Str}, l.Pairwise up → m.Pairwise up → (∀ x, x ∈ l ↔ x ∈ m) → l = m
 | [], [], _, _, _ => rfl
 | [], y :: m, _, _, h => by have := (h y).mpr List.mem_cons_self; cases this
 | x :: l, [], _, _, h => by have := (h x).mp List.mem_cons_self; cases this
 | x :: l, y :: m, hl, hm, h => by
  obtain ⟨l1, l2⟩ := List.pairwise_cons.mp hl
  obtain ⟨m1, m2⟩ := List.pairwise_cons.mp hm
  have e : x = y := by
   rcases List.mem_cons.mp ((h x).mp List.mem_cons_self) with q | q
   ·exact q
   ·rcases List.mem_cons.mp ((h y).mpr List.mem_cons_self) with r | r
    ·exact r.symm
    ·exact (up_irr x (up_trans (l1 y r) (m1 x q))).elim
  subst e
  have nl : x ∉ l := fun q => up_irr x (l1 x q)
  have nm : x ∉ m := fun q => up_irr x (m1 x q)
  rw [up_same l2 m2 fun z => ⟨fun hz => ?_, fun hz => ?_⟩]
  ·rcases List.mem_cons.mp ((h z).mp (List.mem_cons_of_mem _ hz)) with q | q
   ·exact (nl (by rw [← q]; exact hz)).elim
   ·exact q
  ·rcases List.mem_cons.mp ((h z).mpr (List.mem_cons_of_mem _ hz)) with q | q
   ·exact (nm (by rw [← q]; exact hz)).elim
   ·exact q
theorem sorted_is {ys xs : List Str} (h : PyProof.Rows.sortedS ys = true) (d : ys.Nodup) (r : xs.Pairwise up) (m : ∀ x, x ∈ ys ↔ x ∈ xs) : ys = xs := up_same (sorted_up h d) r m
end PD
set_option Elab.async false
set_option linter.all false
set_option maxRecDepth 100000
set_option maxHeartbeats 1000000
namespace PD
open PySem L2
variable [Tabs]
def putD (ks : List (Str × D)) (k : Str) (d : D) : List (Str × D) := if (ks.any fun p => decide (p.1 = k)) = true then ks.map (fun p => if p.1 = k then (p.1, d) else p) else ks ++ [(k, d)]
section
variable {K : PySem.W.Frag} {G : Hp}
theorem rel_any {k : Str} : ∀ {kvs : List (Key × V)} {ks : List (Str × D)}, RelK K G kvs ks → (kvs.any fun kv => decide (kv.1 = Sum.inr k)) = (ks.any fun p => decide (p.1 = k))
 | _, _, .nil => rfl
 | _, _, .cons (k := x) r t => by
  rw [List.any_cons, List.any_cons, rel_any t]
  congr 1
  by_cases e : x = k
  ·subst e; simp
  ·have : ¬ (Sum.inr x : Key) = Sum.inr k := fun q => e (Sum.inr.inj q)
   simp [e, this]
theorem rel_repl {k : Str} {v : V} {d : D} (r0 : Rel K G v d) : ∀ {kvs : List (Key × V)} {ks : List (Str × D)}, RelK K G kvs ks → RelK K G (kvs.map fun kv => if kv.1 = Sum.inr k then (kv.1, v) else kv) (ks.map fun p => if p.1 = k then (p.1, d) else p)
 | _, _, .nil => .nil
 | _, _, .cons (k := x) (v := v1) (d := d1) r t => by
  rw [List.map_cons, List.map_cons]
  by_cases e : x = k
  ·subst e
   rw [if_pos rfl, if_pos rfl]
   exact .cons r0 (rel_repl r0 t)
  ·have : ¬ (Sum.inr x : Key) = Sum.inr k := fun q => e (Sum.inr.inj q)
   rw [if_neg this, if_neg e]
   exact .cons r (rel_repl r0 t)
theorem RelK.app : ∀ {kvs us : List (Key × V)} {ks ls : List (Str × D)}, RelK K G kvs ks → RelK K G us ls → RelK K G (kvs ++ us) (ks ++ ls)
 | _, _, _, _, .nil, h => h
 | _, _, _, _, .cons r t, h => .cons r (RelK.app t h)
theorem RelK.len : ∀ {kvs : List (Key × V)} {ks : List (Str × D)}, RelK K G kvs ks → kvs.length = ks.length
 | _, _, .nil => rfl
 | _, _, .cons _ t => congrArg (· + 1) t.len
theorem rel_put {k : Str} {v : V} {d : D} {kvs : List (Key × V)} {ks : List (Str × D)} (r : RelK K G kvs ks) (r0 : Rel K G v d) : RelK K G (putK kvs (Sum.inr k) v) (putD ks k d) := by
 unfold putK putD
 rw [rel_any r]
 split
 ·exact rel_repl r0 r
 ·exact r.app (.cons r0 .nil)
end
theorem putD_len (ks : List (Str × D)) (k : Str) (d : D) : (putD ks k d).length ≤ ks.length + 1 := by
 unfold putD
 split
 ·rw [List.length_map]; omega
 ·rw [List.length_append]; exact Nat.le_refl _
theorem putD_new {ks : List (Str × D)} {k : Str} {d : D} (h : k ∉ ks.map (·.1)) : putD ks k d = ks ++ [(k, d)] := by
 unfold putD
 rw [if_neg]
 intro q
 obtain ⟨p, hp, e⟩ := List.any_eq_true.mp q
 exact h (List.mem_map.mpr ⟨p, hp, of_decide_eq_true e⟩)
section
variable {K : PySem.W.Frag} {hs : Option (Addr × Addr)} {ρ : List Sl} {k : D → Prop} {te tk tv : TE} {tt : TT} {g : TG}
def dcW (K : PySem.W.Frag) (hs : Option (Addr × Addr)) (g : TG) (js : List Nat) (tt : TT) (tk tv : TE) (ρ : List Sl) (k : List (Str × D) → Prop) : List D → List (Str × D) → Prop
 | [], acc => k acc
 | d :: r, acc => dG K hs g (some js) d ρ fun ρ' => dT K hs tt ρ' fun b => (b = true → dE K hs tk ρ' fun x => dE K hs tv ρ' fun y => ∃ s, x = .str s ∧ dcW K hs g js tt tk tv ρ k r (putD acc s y)) ∧ (b = false → dcW K hs g js tt tk tv ρ k r acc)
theorem m_dc {kd : List (Str × D) → Prop} {ti : TI} {vs : List Nat} (h : dI K hs ti ρ fun ds => ds.length ≤ 50000 ∧ dcW K hs g vs tt tk tv (wipeR ρ vs) kd ds []) : dM K hs (tDc ti g tt tk tv vs) ρ kd := fun H0 σ G H Q f R z =>
 h H0 σ G H _ f R fun J G1 H1 ds s1 y ⟨hl, q⟩ Dl hD => by
  have hH := s1.back hD
  have oD := s1.fr.outs hD
  have gD := Same.free s1.sub hD
  have Rw := (R.step s1).wipe vs
  refine ⟨fun i m H' => i ≤ ds.length ∧ m = ds.length - i ∧ ∃ G' acc ws, Step hs G1 H1 G' H' ∧ G' Dl = none ∧ H' Dl = some (.dK ws) ∧ RelK K G' ws acc ∧ acc.length ≤ i ∧ dcW K hs g vs tt tk tv (wipeR ρ vs) kd (ds.drop i) acc,
   ⟨_, Nat.zero_le _, rfl, G1, [], [], Step.fresh s1.sub s1.st hD, gD, upd_same, .nil, Nat.zero_le _, q⟩, ?_⟩
  rintro i m H' ⟨hi, hm, G', acc, ws, s', g', h', r', la, q'⟩
  obtain ⟨y1, y2⟩ := y G' H' s'.exg s'.fr i
  by_cases hl' : i < ds.length
  ·refine .inr ⟨(y1 hl').1, fun H'' => ∃ m', m' < m ∧ i + 1 ≤ ds.length ∧ m' = ds.length - (i + 1) ∧ ∃ G' acc ws, Step hs G1 H1 G' H'' ∧ G' Dl = none ∧ H'' Dl = some (.dK ws) ∧ RelK K G' ws acc ∧ acc.length ≤ i + 1 ∧ dcW K hs g vs tt tk tv (wipeR ρ vs) kd (ds.drop (i + 1)) acc, fun H'' x => x, fun x H2 hy => ?_⟩
   obtain ⟨G2, s2, hd⟩ := (y1 hl').2 x H2 hy
   have rx := hd _ (List.getElem?_eq_getElem hl')
   have keep : ∀ {G3 H3 : Hp}, Step hs G' H' G3 H3 → G3 Dl = none ∧ H3 Dl = some (.dK ws) := fun {G3 H3} s3 => by
    refine ⟨?_, s3.frm _ _ oD h'⟩
    cases e : G3 Dl with
    | none => rfl
    | some o =>
     have := s3.new Dl o e g'
     rw [h'] at this; rcases this with z | ⟨_, z⟩ <;> cases z
   rw [List.drop_eq_getElem_cons hl'] at q'
   refine q' H0 _ G2 H2 x _ s2.fr (Rw.step (s'.trans s2)) rx fun σ3 ρ3 R3 w3 q3 => ⟨?_, ?_⟩
   ·rw [w3 vs rfl, wipe_wipe fun j h => h]
   ·refine q3 H0 σ3 G2 H2 _ s2.fr R3 fun b G3 H3 s3 ⟨p1, p2⟩ => ?_
    cases b with
    | true =>
     rw [if_pos rfl]
     refine p1 rfl H0 σ3 G3 H3 _ s3.fr (R3.step s3) fun v G4 H4 d4 s4 r4 q4 => q4 H0 σ3 G4 H4 _ s4.fr (R3.step (s3.trans s4)) fun u G5 H5 d5 s5 r5 ⟨s, e, q5⟩ => ?_
     subst e
     have st := ((s2.trans s3).trans s4).trans s5
     obtain ⟨k1, k2⟩ := keep st
     refine ⟨ws, Sum.inr s, by rw [rel_str r4]; rfl, k2, Nat.lt_of_le_of_lt (by rw [r'.len]; omega : ws.length ≤ 50000) (by decide), _, by omega, hl', rfl, G5, putD acc s d5, putK ws (Sum.inr s) u, (s'.trans st).mut hD oD k1, k1, upd_same, rel_put (r'.mono st.exg) r5, ?_, q5⟩
     have := putD_len acc s d5
     omega
    | false =>
     rw [if_neg Bool.false_ne_true]
     have st := s2.trans s3
     obtain ⟨k1, k2⟩ := keep st
     exact ⟨_, by omega, hl', rfl, G3, acc, ws, s'.trans st, k1, k2, r'.mono st.exg, by omega, p2 rfl⟩
  ·refine .inl ⟨y2 (by omega), ?_⟩
   have : ds.drop i = [] := List.drop_eq_nil_of_le (by omega)
   rw [this] at q'
   exact z Dl ws G' H' acc (s1.trans s') hH g' h' r' q'
theorem d_dc {ti : TI} {vs : List Nat} (h : dI K hs ti ρ fun ds => ds.length ≤ 50000 ∧ dcW K hs g vs tt tk tv (wipeR ρ vs) (fun ks => k (.dct ks)) ds []) : dE K hs (tFrz (tDc ti g tt tk tv vs)) ρ k := d_frz (m_dc h)
theorem s_setM {i : Nat} {E : DEnds} (hi : i < ρ.length) (h : dM K hs te ρ fun ks => E.nx (ρ.set i (.d (.dct ks)))) : dS K hs (tAft i (tAsg te (gName i))) ρ E := fun G0 H0 Gb σ G H D s b R z =>
 h H0 σ G H _ s.fr R fun p kvs G1 H1 ks s1 h0 g1 hp r q => by
  have hσ : i < σ.length := by rw [R.len]; exact hi
  refine ⟨p, _, List.getElem?_set_self hσ, hp, trivial, fun od => ?_⟩
  have ho := s.fr.outs h0
  have s2 := (s1.mut (o := .frz od (.dK kvs)) h0 ho g1).freeze h0 ho g1 upd_same
  have e2 : Same G1 (upd G1 p (.frz od (.dK kvs))) := fun a o e => by
   rw [upd_ne (ne_of_none e g1)]; exact e
  exact z.nx _ _ _ _ (s.trans s2) (b.trans s2.exg) ((R.step s2).set (s := .d (.dct ks)) ⟨_, rfl, .dct upd_same (RelK.mono e2 r)⟩ fun _ e => by cases e) q
theorem s_setD {ti : TI} {vs : List Nat} {i : Nat} {E : DEnds} (hi : i < ρ.length) (h : dI K hs ti ρ fun ds => ds.length ≤ 50000 ∧ dcW K hs g vs tt tk tv (wipeR ρ vs) (fun ks => E.nx (ρ.set i (.d (.dct ks)))) ds []) : dS K hs (tAft i (tAsg (tDc ti g tt tk tv vs) (gName i))) ρ E := s_setM hi (m_dc h)
theorem r_in0 {s : Str} {ss : List Str} (q : k (.bl (decide (s ∈ ss)))) : dR K hs (rIn K false) (.str s) (.tup (strsOf ss)) k := r_inT (neg := false) q
theorem r_in1 {s : Str} {ss : List Str} (q : k (.bl (!decide (s ∈ ss)))) : dR K hs (rIn K true) (.str s) (.tup (strsOf ss)) k := r_inT (neg := true) q
theorem r_in2 {s : Str} {ss : List Str} (q : k (.bl (decide (s ∈ ss)))) : dR K hs (rIn K false) (.str s) (.lst (strsOf ss)) k := r_inL (neg := false) q
theorem r_in3 {s : Str} {ss : List Str} (q : k (.bl (!decide (s ∈ ss)))) : dR K hs (rIn K true) (.str s) (.lst (strsOf ss)) k := r_inL (neg := true) q
end
end PD
set_option Elab.async false
set_option linter.all false
set_option maxRecDepth 100000
set_option maxHeartbeats 1000000
namespace PD
open PySem PySem.Spec PyProof.Rows L2
variable [Tabs]
section
variable {X : Cx}
end
end PD
set_option Elab.async false
set_option linter.all false
set_option maxRecDepth 100000
set_option maxHeartbeats 1000000
namespace PD
open PySem L2
variable [Tabs]
section
variable {K : PySem.W.Frag} {hs : Option (Addr × Addr)} {ρ : List Sl} {k : D → Prop} {ta tb te : TE} {kl : List D → Prop}
theorem RelL.flat {G : Hp} {vs : List V} {ds : List D} (r : RelL K G vs ds) : ∀ n : Nat, RelL K G (List.replicate n vs).flatten (List.replicate n ds).flatten
 | 0 => .nil
 | n + 1 => by
  rw [List.replicate_succ, List.flatten_cons, List.replicate_succ, List.flatten_cons]
  exact r.append (RelL.flat r n)
theorem l_rep (h : dE K hs ta ρ fun x => dE K hs tb ρ fun y => ∃ (xs : List D) (n : Nat), x = .lst xs ∧ y = .int (n : Int) ∧ xs.length * n ≤ 100000 ∧ n ≤ 1000 ∧ kl (List.replicate n xs).flatten) : dL K hs (tOp rRep ta tb) ρ kl := fun H0 σ G H Q f R z =>
 h H0 σ G H _ f R fun v G1 H1 x s1 r1 h1 => h1 H0 σ G1 H1 _ s1.fr (R.step s1) fun w G2 H2 y s2 r2 ⟨xs, n, e1, e2, hl, hn, q⟩ => by
  subst e1 e2
  obtain ⟨a, vs, rfl, hh, r⟩ := rel_lst (r1.mono s2.exg)
  refine ⟨a, n, vs, rfl, rel_int r2, s2.sub _ _ hh, by omega, by omega, sz (by rw [Int.toNat_natCast, r.length]; exact hl), fun p hp => ?_⟩
  rw [Int.toNat_natCast]
  exact z p _ G2 _ _ ((s1.trans s2).trans (Step.fresh s2.sub s2.st hp)) ((s1.trans s2).back hp) (Same.free s2.sub hp) upd_same (r.flat n) q
abbrev rSortD : List V → Hp → VK → Prop := fun xs H Q => ∃ (a : Addr) (kvs : List (Key × V)) (ks : List Str), xs = [.ref a] ∧ Rd H a (.dK kvs) ∧ kvs.map (·.1) = ks.map Sum.inr ∧ ks.length < 64 ∧
  ∀ ys p, ys.Perm ks → PyProof.Rows.sortedS ys = true → H p = none → Q (.ref p) (upd H p (.lst (ys.map V.str)))
theorem rel_keys {G : Hp} : ∀ {kvs : List (Key × V)} {ks : List (Str × D)}, RelK K G kvs ks → kvs.map (·.1) = (ks.map (·.1)).map Sum.inr
 | _, _, .nil => rfl
 | _, _, .cons _ t => by rw [List.map_cons, List.map_cons, List.map_cons, rel_keys t]
theorem l_sortedD (h : dE K hs te ρ fun x => ∃ ks : List (Str × D), x = .dct ks ∧ ks.length < 64 ∧ ∀ ys : List Str, ys.Perm (ks.map (·.1)) → PyProof.Rows.sortedS ys = true → kl (strsOf ys)) : dL K hs (tCB rSortD (tCons te tNil)) ρ kl := fun H0 σ G H Q f R z =>
 h H0 σ G H _ f R fun v G1 H1 x s1 r1 ⟨ks, e, few, q⟩ => by
  subst e
  obtain ⟨a, oo, kvs, rfl, hh, r⟩ := rel_dct r1
  refine ⟨a, kvs, ks.map (·.1), rfl, .inr ⟨oo, s1.sub _ _ hh⟩, rel_keys r, by rw [List.length_map]; exact few, fun ys p y1 y2 hp => ?_⟩
  exact z p _ G1 _ _ (s1.trans (Step.fresh s1.sub s1.st hp)) (s1.back hp) (Same.free s1.sub hp) upd_same rel_of_strs (q ys y1 y2)
theorem l_sortedL (h : dE K hs te ρ fun x => ∃ ss : List Str, x = .lst (strsOf ss) ∧ ss.length < 64 ∧ ∀ ys : List Str, ys.Perm ss → PyProof.Rows.sortedS ys = true → kl (strsOf ys)) : dL K hs (tCB (rSortedS K) (tCons te tNil)) ρ kl := fun H0 σ G H Q f R z =>
 h H0 σ G H _ f R fun v G1 H1 x s1 r1 ⟨ss, e, few, q⟩ => by
  subst e
  obtain ⟨a, vs, rfl, hh, r⟩ := rel_lst r1
  have e := rel_strs r
  subst e
  refine ⟨a, ss, rfl, SqL.of (s1.sub _ _ hh), few, fun ys p y1 y2 hp => ?_⟩
  exact z p _ G1 _ _ (s1.trans (Step.fresh s1.sub s1.st hp)) (s1.back hp) (Same.free s1.sub hp) upd_same rel_of_strs (q ys y1 y2)
theorem s_cut {t u : TS} {E : DEnds} {I : List Sl → Prop} (h : dS K hs t ρ { E with nx := I }) (h2 : ∀ ρ', I ρ' → dS K hs u ρ' E) : dS K hs (tSeq t u) ρ E := s_seq fun G0 H0 Gb σ G H D s b R z =>
 h G0 H0 Gb σ G H D s b R ⟨fun σ1 G1 H1 ρ1 a b c d => z.nx σ1 G1 H1 ρ1 a b c (h2 ρ1 d), z.rt, z.bk, z.ct⟩
def mergeD (ks more : List (Str × D)) : List (Str × D) := more.foldl (fun acc p => putD acc p.1 p.2) ks
theorem rel_merge {G : Hp} : ∀ {more : List (Key × V)} {ms : List (Str × D)} {kvs : List (Key × V)} {ks : List (Str × D)}, RelK K G more ms → RelK K G kvs ks → RelK K G (mergeK kvs more) (mergeD ks ms)
 | _, _, _, _, .nil, h => h
 | _, _, _, _, .cons r t, h => by
  unfold mergeK mergeD
  rw [List.foldl_cons, List.foldl_cons]
  exact rel_merge t (rel_put h r)
def dP (K : PySem.W.Frag) (hs : Option (Addr × Addr)) : List (TE × TE) → List Sl → (List (Str × D) → Prop) → Prop
 | [], _, k => k []
 | (tk, tv) :: r, ρ, k => dE K hs tk ρ fun x => ∃ s, x = .str s ∧ dE K hs tv ρ fun y => dP K hs r ρ fun ps => k ((s, y) :: ps)
theorem pairs_run : ∀ {trs : List (TE × TE)} {kp : List (Str × D) → Prop}, dP K hs trs ρ kp → ∀ (H0 : Hp) (σ : L2.St) (G H : Hp) (Q : List (V × V) → Hp → Prop), Fr hs G H → EnvR K hs H0 G H σ ρ →
  (∀ kvs G' H' ds, Step hs G H G' H' → RelK K G' kvs ds → kp ds → Q (kvs.map fun kv => (kV kv.1, kv.2)) H') → tPairs trs σ H Q
 | [], kp, h, H0, σ, G, H, Q, f, R, z => z [] G H [] f.refl .nil h
 | (tk, tv) :: r, kp, h, H0, σ, G, H, Q, f, R, z => h H0 σ G H _ f R fun v G1 H1 x s1 r1 ⟨s, e, h1⟩ => h1 H0 σ G1 H1 _ s1.fr (R.step s1) fun u G2 H2 y s2 r2 h2 =>
   pairs_run h2 H0 σ G2 H2 _ s2.fr (R.step (s1.trans s2)) fun kvs G3 H3 ds s3 r3 q => by
    subst e
    rw [rel_str r1]
    exact z ((Sum.inr s, u) :: kvs) G3 H3 ((s, y) :: ds) ((s1.trans s2).trans s3) (.cons (r2.mono s3.exg) r3) q
theorem m_disp {trs : List (TE × TE)} {kd : List (Str × D) → Prop} (h : dP K hs trs ρ fun ps => ps.length ≤ 15 ∧ kd (mergeD [] ps)) : dM K hs (tDisp trs) ρ kd := fun H0 σ G H Q f R z p hp => by
 have s0 := Step.fresh (o := .dK []) f.sub f.st hp
 refine pairs_run h H0 σ G _ _ s0.fr (R.step s0) fun kvs G1 H1 ps s1 r1 ⟨hl, q⟩ => ?_
 have oD := f.outs hp
 have hk : H1 p = some (.dK []) := s1.frm p _ oD upd_same
 have gp : G1 p = none := by
  cases e : G1 p with
  | none => rfl
  | some o =>
   have := s1.new p o e (Same.free f.sub hp)
   rw [upd_same] at this; rcases this with z | ⟨_, z⟩ <;> cases z
 refine ⟨hk, kvs, rfl, by rw [r1.len]; exact hl, ?_⟩
 have s2 := (s0.trans s1).mut (o := .dK (mergeK [] kvs)) hp oD gp
 exact z p _ _ _ _ s2 hp gp upd_same (rel_merge r1 .nil) q
theorem d_disp {trs : List (TE × TE)} (h : dP K hs trs ρ fun ps => ps.length ≤ 15 ∧ k (.dct (mergeD [] ps))) : dE K hs (tFrz (tDisp trs)) ρ k := d_frz (m_disp h)
end
end PD
set_option Elab.async false
set_option linter.all false
set_option maxRecDepth 100000
set_option maxHeartbeats 1000000
namespace PD
open PySem L2
variable [Tabs]
section
variable {K : PySem.W.Frag} {hs : Option (Addr × Addr)} {ρ : List Sl} {k : D → Prop}
theorem r_neL {ss ts : List Str} (h1 : ∀ s ∈ ss, PyData.strOk s = true) (h2 : ∀ s ∈ ts, PyData.strOk s = true) (q : k (.bl (!decide (ss = ts)))) : dR K hs (rNeD K) (.lst (strsOf ss)) (.lst (strsOf ts)) k := fun G H v u Q f r1 r2 z => by
 obtain ⟨a, vs, rfl, hh, r⟩ := rel_lst r1
 obtain ⟨b, us, rfl, hh', r'⟩ := rel_lst r2
 have e := rel_strs r
 have e' := rel_strs r'
 subst e e'
 refine ⟨_, _, .lst (SqL.of (f.sub _ _ hh)) dpAll_strs, .lst (SqL.of (f.sub _ _ hh')) dpAll_strs, shaped_lst h1, shaped_lst h2, ?_⟩
 rw [PyData.eqv, eqvAll_strs]
 exact z _ G H _ f.refl .bl q
theorem filter_strs (p : D → Bool) (ss : List Str) : ((strsOf ss).filter p).map (fun d => d) = strsOf (ss.filter fun s => p (.str s)) := by
 unfold strsOf
 rw [List.map_id', List.filter_map]
 rfl
end
end PD
set_option Elab.async false
set_option linter.all false
set_option maxRecDepth 100000
set_option maxHeartbeats 1000000
namespace PD
open PySem L2
variable [Tabs]
section
variable {K : PySem.W.Frag} {hs : Option (Addr × Addr)} {ρ : List Sl} {k : D → Prop} {kb : Bool → Prop} {kl : List D → Prop} {ta tb tc te : TE} {tt : TT} {g : TG} {E : DEnds}
theorem l_ifE (h : dT K hs tt ρ fun b => (b = true → dL K hs ta ρ kl) ∧ (b = false → dL K hs tb ρ kl)) : dL K hs (tIf tt ta tb) ρ kl := fun H0 σ G H Q f R z =>
 h H0 σ G H _ f R fun b G1 H1 s1 ⟨q1, q2⟩ => by
  cases b with
  | true => rw [if_pos rfl]; exact q1 rfl H0 σ G1 H1 _ s1.fr (R.step s1) fun p vs G2 H2 ds s2 h0 g0 hp r q => z p vs G2 H2 ds (s1.trans s2) (s1.back h0) g0 hp r q
  | false => rw [if_neg Bool.false_ne_true]; exact q2 rfl H0 σ G1 H1 _ s1.fr (R.step s1) fun p vs G2 H2 ds s2 h0 g0 hp r q => z p vs G2 H2 ds (s1.trans s2) (s1.back h0) g0 hp r q
theorem d_inOwn {neg : Bool} {i : Nat} {ss : List Str} (e : ρ[i]? = some (.own (strsOf ss))) (h : dE K hs te ρ fun x => ∃ s, x = .str s ∧ k (.bl (if neg then !decide (s ∈ ss) else decide (s ∈ ss)))) : dE K hs (tOp (rIn K neg) te (tVar i)) ρ k := fun H0 σ G H Q f R z =>
 h H0 σ G H _ f R fun v G1 H1 x s1 r1 ⟨s, ed, q⟩ => by
  subst ed
  obtain ⟨v', e1, p, vs, rfl, h0, ho, hg, hp, r⟩ := (R.step s1).ownL e
  have ev := rel_strs r
  subst ev
  rw [rel_str r1]
  refine ⟨_, e1, p, _, rfl, .inl (SqL.of hp), rfl, flat_strs, ?_⟩
  rw [inV_str]
  exact z _ G1 H1 _ s1 .bl q
theorem d_nin1 {i : Nat} {ss : List Str} (e : ρ[i]? = some (.own (strsOf ss))) (h : dE K hs te ρ fun x => ∃ s, x = .str s ∧ k (.bl (!decide (s ∈ ss)))) : dE K hs (tOp (rIn K true) te (tVar i)) ρ k := d_inOwn (neg := true) e h
theorem s_ownS {i : Nat} (ss : List Str) (h : dL K hs te ρ fun ds => ds = strsOf ss ∧ E.nx (ρ.set i (.own (strsOf ss)))) : dS K hs (tAsg te (gName i)) ρ E := s_own fun H0 σ G H Q f R z => h H0 σ G H Q f R fun p vs G' H' ds s h0 g0 hp r q => z p vs G' H' ds s h0 g0 hp r (by rw [q.1]; exact q.2)
theorem s_extDS {i : Nat} {ss : List Str} (e : ρ[i]? = some (.own (strsOf ss))) (h : dE K hs te ρ fun x => ∃ us : List Str, x = .lst (strsOf us) ∧ ss.length + us.length ≤ 100000 ∧ E.nx (ρ.set i (.own (strsOf (ss ++ us))))) : dS K hs (tDrop (tBM K "list" rExtend (tVar i) (tCons te tNil))) ρ E := s_extD e fun H0 σ G H Q f R z => h H0 σ G H Q f R fun v G' H' d s r ⟨us, eu, l, q⟩ => z v G' H' d s r (by
 refine ⟨_, eu, by simpa [strsOf] using l, ?_⟩
 rw [show strsOf ss ++ strsOf us = strsOf (ss ++ us) by simp [strsOf]]
 exact q)
theorem lcW_txt {js : List Nat} (p : Str → Bool) (h : ∀ s, ∀ kk : List Sl → Prop, (∀ ρ', (∀ kb : Bool → Prop, kb (p s) → dT K hs tt ρ' kb) → (p s = true → ∀ k : D → Prop, k (.str s) → dE K hs te ρ' k) → kk ρ') → dG K hs g (some js) (.str s) ρ kk) :
  ∀ (ss acc : List Str), kl (strsOf (acc ++ ss.filter p)) → lcW K hs g js tt te ρ kl (strsOf ss) (strsOf acc)
 | [], acc, q => by
  show kl _
  simpa using q
 | s :: r, acc, q => by
  refine h s _ fun ρ' h1 h2 => h1 _ ⟨fun e => h2 e _ ?_, fun e => ?_⟩
  ·have := lcW_txt p h r (acc ++ [s]) (by rw [List.filter_cons, if_pos e] at q; simpa using q)
   rw [show strsOf acc ++ [.str s] = strsOf (acc ++ [s]) by simp [strsOf]]
   exact this
  ·exact lcW_txt p h r acc (by rw [List.filter_cons, e] at q; simpa using q)
end
end PD
set_option Elab.async false
set_option linter.all false
set_option maxRecDepth 100000
set_option maxHeartbeats 1000000
namespace PD
open PySem L2
variable [Tabs]
def bigOf (d : Int) : List Int → Int
 | [] => d
 | y :: ys => ys.foldl max y
def rMaxDf (K : PySem.W.Frag) : List V → List V → Hp → VK → Prop := fun xs zs H Q => ∃ (a : Addr) (ns : List Int) (d : Int), xs = [.ref a] ∧ zs = [.int d] ∧ SqL K H a (ns.map V.int) ∧ Q (.int (bigOf d ns)) H
theorem depth_ints : ∀ ns : List Int, PyData.depthAll (ns.map .int) ≤ 1
 | [] => by simp [PyData.depthAll]
 | n :: r => by
  have := depth_ints r
  simp only [List.map_cons, PyData.depthAll, PyData.depth]
  omega
theorem alike_ints (ns : List Int) : PySem.W.AlikeAll (ns.map .int) := by
 refine ⟨fun x hx y hy => ?_, fun x hx => ?_⟩
 ·obtain ⟨_, _, rfl⟩ := List.mem_map.mp hx
  obtain ⟨_, _, rfl⟩ := List.mem_map.mp hy
  rfl
 ·obtain ⟨_, _, rfl⟩ := List.mem_map.mp hx
  exact fun e => by cases e
theorem cr_maxDf {X : Cx} (hc : X.calm = true) (hu : X.A.units + 64 < cLine) : CallRK X (.builtin "max") [Str.ofString "default"] (rMaxDf X.K) := by
 intro pins s σ H vs zs us ws Q I r rz h
 obtain ⟨a, ns, d, rfl, rfl, hs, q⟩ := h
 obtain rfl := Vals.ref1 r
 obtain ⟨w1, rfl, t, rfl⟩ := vals1 rz
 obtain ⟨its, rv, hl, _⟩ := I.list hs
 have dl := depth_ints ns
 refine PySem.W.max_list_default (I.ok.hd hc) hl.isList (xs := ns.map .int) (as := []) ?_ (alike_ints ns) (by omega) (fun e h' tk k => ?_) fun y ys i v h' tk bs e hv hr k => ?_
 ·exact rv.ints.reads s.heap
 ·have e' : ns = [] := by simpa using e
  subst e'
  exact ⟨.int d, H, I.kept k, ⟨_, rfl⟩, q⟩
 ·cases ns with
  | nil => cases e
  | cons n r =>
   simp only [List.map_cons, List.cons.injEq] at e
   obtain ⟨e1, e2⟩ := e
   subst e1
   subst e2
   rw [PySem.W.maxD_ints] at hr
   cases hr
   exact ⟨.int _, H, I.kept k, ⟨_, rfl⟩, q⟩
section
variable {K : PySem.W.Frag} {hs : Option (Addr × Addr)} {ρ : List Sl} {k : D → Prop} {tx tk : TA}
theorem d_maxDf (h : dA K hs tx ρ fun xs => dA K hs tk ρ fun zs => ∃ (ns : List Int) (d : Int), xs = [.lst (ns.map D.int)] ∧ zs = [.int d] ∧ k (.int (bigOf d ns))) : dE K hs (tCKw (rMaxDf K) tx tk) ρ k := fun H0 σ G H Q f R z =>
 h H0 σ G H _ f R fun vs G1 H1 xs s1 r1 h1 => h1 H0 σ G1 H1 _ s1.fr (R.step s1) fun ws G2 H2 zs s2 r2 ⟨ns, d, e1, e2, q⟩ => by
  subst e1
  subst e2
  cases r1 with
  | cons r1 r1' =>
  cases r1'
  cases r2 with
  | cons r2 r2' =>
  cases r2'
  obtain ⟨a, vs, rfl, h, r⟩ := rel_lst r1
  have e := rel_ints r
  subst e
  rw [rel_int r2]
  exact ⟨a, _, _, rfl, rfl, SqL.of (s2.sub _ _ (s2.exg _ _ h)), z _ G2 H2 _ (s1.trans s2) .int q⟩
end
end PD
set_option Elab.async false
set_option linter.all false
set_option maxRecDepth 100000
set_option maxHeartbeats 1000000
namespace PD
open PySem L2
variable [Tabs]
section
variable {K : PySem.W.Frag} {hs : Option (Addr × Addr)} {ρ : List Sl} {k : D → Prop} {kl : List D → Prop}
theorem r_pickS {x : Str} {r : Int} (hx : x.length ≤ 1000) (h0 : 0 ≤ r) (h1 : r < (x.cps.toList.length : Int)) (q : ∀ c ∈ x.cps.toList, k (.str ⟨#[c]⟩)) : dR K hs rIxS (.str x) (.int r) k := fun G H v u Q f r1 r2 z => by
 have hq : r.toNat < x.cps.toList.length := by omega
 rw [rel_str r1, rel_int r2]
 exact ⟨x, r, x.cps.toList[r.toNat], rfl, rfl, sz (by omega), atI_get (j := r.toNat) (by omega) (List.getElem?_eq_getElem hq), z _ G H _ f.refl .str (q _ (List.getElem_mem hq))⟩
end
end PD
set_option Elab.async false
set_option linter.all false
set_option maxRecDepth 100000
set_option maxHeartbeats 1000000
namespace PD
open PySem L2
variable [Tabs]
section
variable {K : PySem.W.Frag} {hs : Option (Addr × Addr)} {ρ : List Sl} {k : D → Prop} {te : TE}
theorem isi_two {x : D} {g : Tg} {a b : Tg} {G H : Hp} {v : V} {Q : VK} {p : Addr} (e : tgD x = some g) (s : Same G H) (r : Rel K G v x) (hp : H p = some (.tup [.ty a.nm, .ty b.nm])) (q : Q (.bl (g.is a || g.is b)) H) : rIsiT K [v, .ref p] H Q := by
 have e1 : tyD x = g.nm := by
  cases x <;> simp only [tgD, Option.some.injEq, reduceCtorEq] at e <;> subst e <;> rfl
 have ne : tyD x ≠ "" := by
  rw [e1]
  cases g <;> decide
 refine ⟨v, p, _, _, _, _, rfl, hp, .cons (.ty _) (.cons (.ty _) .nil), rel_ty s r ne, ?_, q⟩
 have k1 := kit_ty (K := K) (show kitB (tyD x) a.nm = some (g.is a) by rw [e1]; exact kit_tg g a)
 have k2 := kit_ty (K := K) (show kitB (tyD x) b.nm = some (g.is b) by rw [e1]; exact kit_tg g b)
 simp [PySem.W.kitAny, k1, k2]
 cases g.is a <;> cases g.is b <;> rfl
theorem d_isiTL (h : dE K hs te ρ fun x => ∃ g, tgD x = some g ∧ k (.bl (g.is .tup || g.is .lst))) : dE K hs (tCB (rIsiT K) (tCons te (tCons (tTup (tCons (tC (.ty "tuple")) (tCons (tC (.ty "list")) tNil))) tNil))) ρ k := fun H0 σ G H Q f R z =>
 h H0 σ G H _ f R fun v G1 H1 x s1 r ⟨g, e, q⟩ => ⟨by decide, fun p hp =>
  have s2 : Step hs G1 H1 _ _ := Step.alloc s1.sub s1.st hp
  isi_two (a := .tup) (b := .lst) e s2.sub (r.mono s2.exg) upd_same (z _ _ _ _ (s1.trans s2) .bl q)⟩
end
end PD
set_option Elab.async false
set_option linter.all false
set_option maxRecDepth 100000
set_option maxHeartbeats 1000000
namespace PD
open PySem L2 PyProof.Rows
variable [Tabs]
theorem vals_at : ∀ {vs : List V} {us : List Value}, vs.length = us.length → (∀ (j : Nat) v u, vs[j]? = some v → us[j]? = some u → RelV v u) → Vals vs us
 | [], [], _, _ => .nil
 | [], _ :: _, e, _ => by cases e
 | _ :: _, [], e, _ => by cases e
 | v :: vs, u :: us, e, h => .cons (h 0 v u rfl rfl) (vals_at (by simpa using e) fun j x y a b => h (j + 1) x y (by simpa using a) (by simpa using b))
def rListStr : List V → Hp → VK → Prop := fun xs H Q => ∃ x : Str, xs = [.str x] ∧ x.cps.size ≤ sizeLine ∧ ∀ l, H l = none → Q (.ref l) (upd H l (.lst (x.cps.toList.map fun c => V.str ⟨#[c]⟩)))
theorem cr_listStr {X : Cx} (hc : X.calm = true) : CallR X (.type "list") rListStr := by
 intro pins s σ H xs us Q I r h
 obtain ⟨x, rfl, hz, q⟩ := h
 obtain ⟨u, rfl, rx⟩ := vals1 r
 obtain ⟨t, rfl⟩ := rx
 refine PySem.call_list_str (I.ok.hd hc) x t (hn := hz) fun h' tk acc c' hk hS hacc => ?_
 refine ⟨.ref s.heap.objs.size, _, I.laid (t' := tk) hk (Nat.le_refl _) (show ObjOk X.prog X.w _ _ _ (.lst (x.cps.toList.map fun c => V.str ⟨#[c]⟩)) from ⟨by simpa using hz, acc.toList, c', vals_at (by simp [hacc.1]) fun j v u e1 e2 => ?_, by simpa using hS⟩), rfl, q _ (I.hok.fresh (Nat.le_refl _))⟩
 obtain ⟨c, t', h1, h2⟩ := hacc.2 j u (by simpa using e2)
 subst h2
 have : v = V.str ⟨#[c]⟩ := by
  have h3 : x.cps.toList[j]? = some c := by simpa using h1
  rw [List.getElem?_map, h3] at e1
  exact (Option.some.inj e1).symm
 subst this
 exact ⟨_, rfl⟩
def rTupF (K : PySem.W.Frag) : List V → Hp → VK → Prop := fun xs H Q => ∃ p ys, xs = [.ref p] ∧ SqL K H p ys ∧ ∀ l o, H l = none → o.dict = none → Q (.ref l) (upd H l (.frz o (.tup ys)))
theorem cr_tupF {X : Cx} : CallR X (.type "tuple") (rTupF X.K) := by
 intro pins s σ H xs us Q I r h
 obtain ⟨p, ys, rfl, hq, q⟩ := h
 obtain ⟨u, rfl, rx⟩ := vals1 r
 cases rx
 obtain ⟨its, r', pl, hz⟩ := I.list hq
 have hlen := r'.length
 refine call_tuple_list pl.isList (fun h' kp => ?_) (by simp only [List.size_toArray] <;> omega)
 have I1 : Inv X pins σ H { s with heap := h' } := I.kept (t' := s.toks) kp
 have hg : (h'.push { cls := .type "tuple", data := .seq its.toArray }).get? h'.objs.size = some { cls := .type "tuple", data := .seq its.toArray } := Heap.get?_push_size _ rfl
 have I2 : Inv X pins σ (upd H h'.objs.size (.frz { cls := .type "tuple", data := .seq its.toArray } (.tup ys))) { s with heap := h'.push { cls := .type "tuple", data := .seq its.toArray } } :=
  I1.laid (t' := s.toks) (fun b o e => Heap.get?_push_of_some _ e) (Nat.le_refl _) (show ObjOk X.prog X.w _ _ _ (.frz _ (.tup ys)) from ⟨hg, hz, its, r', _, hg, rfl, _, rfl⟩)
 exact ⟨.ref h'.objs.size, _, I2, rfl, q _ _ (I1.hok.fresh (Nat.le_refl _)) rfl⟩
end PD
set_option Elab.async false
set_option linter.all false
set_option maxRecDepth 100000
set_option maxHeartbeats 1000000
namespace PD
open PySem L2
variable [Tabs]
section
variable {K : PySem.W.Frag} {hs : Option (Addr × Addr)} {ρ : List Sl} {k : D → Prop} {kl : List D → Prop} {te te2 tv ty : TE} {t u : TS} {E : DEnds}
theorem l_listStr (h : dE K hs te ρ fun y => ∃ x : Str, y = .str x ∧ x.cps.size ≤ 100000 ∧ kl (x.cps.toList.map sgn)) : dL K hs (tCB rListStr (tCons te tNil)) ρ kl := fun H0 σ G H Q f R z =>
 h H0 σ G H _ f R fun v G1 H1 y s1 r1 ⟨x, e, hl, q⟩ => by
  subst e
  rw [rel_str r1]
  refine ⟨x, rfl, sz hl, fun l hp => ?_⟩
  have rl : ∀ cs : List Nat, RelL K G1 (cs.map fun c => V.str ⟨#[c]⟩) (cs.map sgn) := fun cs => by
   induction cs with
   | nil => exact .nil
   | cons c cs ih => exact .cons .str ih
  exact z l _ G1 _ _ (s1.trans (Step.fresh s1.sub s1.st hp)) (s1.back hp) (Same.free s1.sub hp) upd_same (rl _) q
theorem Rel.weak {G : Hp} {v : V} {ds : List D} (r : Rel K G v (.tpf ds)) : Rel K G v (.tup ds) := by
 cases r with
 | tpf h n r => exact .tup (.inl (.inr ⟨_, h⟩)) r
theorem d_tupF (h : dE K hs te ρ fun x => ∃ ds, x = .lst ds ∧ k (.tpf ds)) : dE K hs (tCB (rTupF K) (tCons te tNil)) ρ k := fun H0 σ G H Q f R z =>
 h H0 σ G H _ f R fun v G1 H1 x s1 r1 ⟨ds, e, q⟩ => by
  subst e
  obtain ⟨a, vs, rfl, hh, r⟩ := rel_lst r1
  refine ⟨a, vs, rfl, SqL.of (s1.sub _ _ hh), fun l o hp ho => ?_⟩
  have s2 : Step hs G1 H1 _ _ := Step.alloc (o := .frz o (.tup vs)) s1.sub s1.st hp
  exact z _ _ _ _ (s1.trans s2) (.tpf upd_same ho (r.mono s2.exg)) q
def prD (p : Str × D) : D := .tup [.str p.1, p.2]
theorem rel_prs {G H : Hp} (s : Same G H) : ∀ {ks : List (Str × D)} {vs : List V}, RelL K G vs (ks.map prD) → ∃ (ps : List Addr) (kvs : List (Key × V)), vs = ps.map V.ref ∧ Paired (fun p kv => SqT K H p [kV kv.1, kv.2]) ps kvs ∧ RelK K G kvs ks
 | [], _, .nil => ⟨[], [], rfl, .nil, .nil⟩
 | p :: ks, _, .cons r t => by
  obtain ⟨ps, kvs, e, h1, h2⟩ := rel_prs s t
  subst e
  obtain ⟨a, vs, rfl, h, r⟩ := rel_tup r
  cases r with
  | cons r1 r2 =>
  cases r2 with
  | cons r2 r3 =>
  cases r3
  rw [rel_str r1] at h
  exact ⟨a :: ps, (Sum.inr p.1, _) :: kvs, rfl, .cons (Same.tseq s h) h1, .cons r2 h2⟩
abbrev rDictL (K : PySem.W.Frag) : List V → Hp → VK → Prop := fun xs H Q => ∃ (a : Addr) (ps : List Addr) (kvs : List (Key × V)), xs = [.ref a] ∧ SqL K H a (ps.map V.ref) ∧ Paired (fun p kv => SqT K H p [kV kv.1, kv.2]) ps kvs ∧
  ∀ p, H p = none → Q (.ref p) (upd H p (.dK (mergeK [] kvs)))
theorem m_dictL {kd : List (Str × D) → Prop} (h : dE K hs te ρ fun x => ∃ ks : List (Str × D), x = .lst (ks.map prD) ∧ kd (mergeD [] ks)) : dM K hs (tCB (rDictL K) (tCons te tNil)) ρ kd := fun H0 σ G H Q f R z =>
 h H0 σ G H _ f R fun v G1 H1 x s1 r1 ⟨ks, e, q⟩ => by
  subst e
  obtain ⟨a, vs, rfl, hh, r⟩ := rel_lst r1
  obtain ⟨ps, kvs, e, h1, h2⟩ := rel_prs s1.sub r
  subst e
  refine ⟨a, ps, kvs, rfl, SqL.of (s1.sub _ _ hh), h1, fun p hp => ?_⟩
  exact z p _ _ _ _ (s1.trans (Step.fresh s1.sub s1.st hp)) (s1.back hp) (Same.free s1.sub hp) upd_same (rel_merge h2 .nil) q
theorem d_dictL (h : dE K hs te ρ fun x => ∃ ks : List (Str × D), x = .lst (ks.map prD) ∧ k (.dct (mergeD [] ks))) : dE K hs (tFrz (tCB (rDictL K) (tCons te tNil))) ρ k := d_frz (m_dictL h)
theorem mergeD_new : ∀ {more ks : List (Str × D)}, ((ks ++ more).map (·.1)).Nodup → mergeD ks more = ks ++ more
 | [], ks, _ => by simp [mergeD]
 | p :: more, ks, h => by
  have hn : p.1 ∉ ks.map (·.1) := by
   rw [List.map_append, List.nodup_append] at h
   exact fun e => h.2.2 _ e _ (by simp) rfl
  have e : mergeD ks (p :: more) = mergeD (ks ++ [p]) more := by
   show mergeD (putD ks p.1 p.2) more = _
   rw [putD_new hn]
  rw [e, mergeD_new (by simpa using h)]
  simp
theorem stay {G H G' H' : Hp} {p : Addr} {o : HO} (s : Step hs G H G' H') (ho : Outs hs p) (g : G p = none) (h : H p = some o) (n : ∀ vs, o ≠ HO.tup vs := by intro _ z; cases z) : G' p = none ∧ H' p = some o := by
 refine ⟨?_, s.frm _ _ ho h⟩
 cases e : G' p with
 | none => rfl
 | some q =>
  have := s.new p q e g
  rw [h] at this
  rcases this with z | ⟨vs, z⟩
  ·cases z
  ·cases z; exact absurd rfl (n vs)
theorem get_set {α : Type} {l : List α} {i : Nat} {x : α} (h : i < l.length) : (l.set i x)[i]? = some x := List.getElem?_set_self h
end
def Weak (K : PySem.W.Frag) (d d' : D) : Prop := ∀ G v, Rel K G v d → Rel K G v d'
section
variable {K : PySem.W.Frag} {hs : Option (Addr × Addr)} {ρ : List Sl} {k : D → Prop} {tx : TA} {M : List D → (D → Prop) → Prop} {X : XK} {te : TE}
theorem d_weak (h : dE K hs te ρ fun d => ∃ d', Weak K d d' ∧ k d') : dE K hs te ρ k := fun H0 σ G H Q f R z =>
 h H0 σ G H Q f R fun v G1 H1 d s r ⟨d', w, q⟩ => z v G1 H1 d' s (w _ _ r) q
end
end PD
set_option Elab.async false
set_option linter.all false
set_option maxRecDepth 100000
set_option maxHeartbeats 1000000
namespace PD
open PySem L2
variable [Tabs]
structure Inner (hs : Option (Addr × Addr)) (H0 G H : Hp) (q : Addr) (os : List Str) : Prop where
 h0 : H0 q = none
 out : Outs hs q
 g : G q = none
 at_ : H q = some (.lst (os.map V.str))
structure Own2 (hs : Option (Addr × Addr)) (H0 G H : Hp) (p : Addr) (oss : List (List Str)) : Prop where
 h0 : H0 p = none
 out : Outs hs p
 g : G p = none
 ex : ∃ qs : List Addr, H p = some (.lst (qs.map V.ref)) ∧ qs.Nodup ∧ p ∉ qs ∧ qs.length = oss.length ∧ ∀ (j : Nat) q os, qs[j]? = some q → oss[j]? = some os → Inner hs H0 G H q os
section
variable {hs : Option (Addr × Addr)} {H0 G H G' H' : Hp} {p q : Addr} {os : List Str} {oss : List (List Str)}
theorem Inner.step (s : Step hs G H G' H') (h : Inner hs H0 G H q os) : Inner hs H0 G' H' q os :=
 let ⟨a, b⟩ := stay s h.out h.g h.at_
 ⟨h.h0, h.out, a, b⟩
theorem Own2.step (s : Step hs G H G' H') (h : Own2 hs H0 G H p oss) : Own2 hs H0 G' H' p oss := by
 obtain ⟨qs, h1, h2, h3, h4, h5⟩ := h.ex
 obtain ⟨a, b⟩ := stay s h.out h.g h1
 exact ⟨h.h0, h.out, a, qs, b, h2, h3, h4, fun j q os e1 e2 => (h5 j q os e1 e2).step s⟩
end
def Flat (ρ : List Sl) : Prop := ∀ (i : Nat) (ds : OD), ρ[i]? ≠ some (.ow ds)
theorem EnvR.flat {K : PySem.W.Frag} {hs : Option (Addr × Addr)} {H0 G H H0' H' : Hp} {σ : L2.St} {ρ : List Sl} (h : EnvR K hs H0 G H σ ρ) (f : Flat ρ) : EnvR K hs H0' G H' σ ρ :=
 ⟨h.len, fun i s e => by
  obtain ⟨v, a, b⟩ := h.at_ i s e
  refine ⟨v, a, ?_⟩
  cases s with
  | un => trivial
  | d x => exact b
  | ow ds => exact absurd e (f i ds), fun i j ds es p e => absurd e (f i ds)⟩
theorem Flat.set {ρ : List Sl} (f : Flat ρ) {i : Nat} {d : D} : Flat (ρ.set i (.d d)) := fun j ds e => by
 by_cases q : i = j
 ·subst q
  rw [List.getElem?_set] at e
  simp only [if_true] at e
  split at e <;> cases e
 ·rw [List.getElem?_set_ne q] at e
  exact f j ds e
section
variable {K : PySem.W.Frag} {hs : Option (Addr × Addr)} {ρ : List Sl} {p : Addr} {oss : List (List Str)} {t u : TS} {te : TE} {E : DEnds} {nx : List Sl → List (List Str) → Prop}
def dS2 (K : PySem.W.Frag) (hs : Option (Addr × Addr)) (p : Addr) (t : TS) (ρ : List Sl) (oss : List (List Str)) (nx : List Sl → List (List Str) → Prop) : Prop := ∀ (G0 H0 Gb : Hp) (σ : L2.St) (G H : Hp) (D : Ends), Step hs G0 H0 G H → Same Gb G → EnvR K hs H0 G H σ ρ → Own2 hs H0 G H p oss →
 (∀ σ' G' H' ρ' oss', Step hs G0 H0 G' H' → Same Gb G' → EnvR K hs H0 G' H' σ' ρ' → Own2 hs H0 G' H' p oss' → nx ρ' oss' → D.nx σ' H') → t D σ H
theorem o_seq (h : dS2 K hs p t ρ oss fun ρ' oss' => dS2 K hs p u ρ' oss' nx) : dS2 K hs p (tSeq t u) ρ oss nx := fun G0 H0 Gb σ G H D s b R O z =>
 h G0 H0 Gb σ G H { D with nx := u D } s b R O fun σ' G' H' ρ' oss' s' b' R' O' q => q G0 H0 Gb σ' G' H' D s' b' R' O' z
theorem o_set {i : Nat} (h : dE K hs te ρ fun d => nx (ρ.set i (.d d)) oss) : dS2 K hs p (tAsg te (gName i)) ρ oss nx := fun G0 H0 Gb σ G H D s b R O z =>
 h H0 σ G H _ s.fr R fun v G1 H1 d s1 r1 q => z _ _ _ _ _ (s.trans s1) (b.trans s1.exg) ((R.step s1).set (s := .d d) ⟨v, rfl, r1⟩ fun _ e => by cases e) (O.step s1) q
theorem o_for {ti : TI} {g : TG} {Q : D → Prop} (h : dI K hs ti ρ fun ds => ∀ d ∈ ds, Q d) (h0 : nx ρ oss) (h1 : ∀ d ρ oss, Q d → nx ρ oss → dG K hs g none d ρ fun ρ' => dS2 K hs p t ρ' oss nx) : dS2 K hs p (tFor ti g t) ρ oss nx := fun G0 H0 Gb σ G H D s b R O z =>
 h H0 σ G H _ s.fr R fun J G1 H1 ds s1 y q => by
  refine ⟨fun i m σ' H' => i ≤ ds.length ∧ m = ds.length - i ∧ ∃ G' ρ' oss', Step hs G0 H0 G' H' ∧ Same G1 G' ∧ EnvR K hs H0 G' H' σ' ρ' ∧ Own2 hs H0 G' H' p oss' ∧ nx ρ' oss', ⟨_, Nat.zero_le _, rfl, G1, ρ, oss, s.trans s1, Same.refl G1, R.step s1, O.step s1, h0⟩, ?_⟩
  rintro i m σ' H' ⟨hi, hm, G', ρ', oss', s', e', R', O', q'⟩
  obtain ⟨y1, y2⟩ := y G' H' e' s'.fr i
  by_cases hl : i < ds.length
  ·refine .inr ⟨(y1 hl).1, fun σ'' H'' => ∃ m', m' < m ∧ i + 1 ≤ ds.length ∧ m' = ds.length - (i + 1) ∧ ∃ G' ρ' oss', Step hs G0 H0 G' H'' ∧ Same G1 G' ∧ EnvR K hs H0 G' H'' σ'' ρ' ∧ Own2 hs H0 G' H'' p oss' ∧ nx ρ' oss', fun σ'' H'' h => h, fun x H2 hy => ?_⟩
   obtain ⟨G2, s2, hd⟩ := (y1 hl).2 x H2 hy
   have rx := hd _ (List.getElem?_eq_getElem hl)
   refine h1 _ ρ' oss' (q _ (List.getElem_mem hl)) q' H0 σ' G2 H2 x _ s2.fr (R'.step s2) rx fun σ3 ρ3 R3 _ q3 => ?_
   exact q3 G0 H0 G1 σ3 G2 H2 _ (s'.trans s2) (e'.trans s2.exg) R3 (O'.step s2) fun σ4 G4 H4 ρ4 oss4 a b c d e => ⟨_, by omega, hl, rfl, G4, ρ4, oss4, a, b, c, d, e⟩
  ·exact .inl ⟨y2 (by omega), z _ _ _ _ _ s' ((b.trans s1.exg).trans e') R' O' q'⟩
theorem o_put {ix io ik : Nat} {s : Str} {k n : Int} (f : Flat ρ) (ex : ρ[ix]? = some (.d (.str s))) (eo : ρ[io]? = some (.d (.adr p))) (ek : ρ[ik]? = some (.d (.int k))) (k0 : 0 ≤ k) (k1 : k < (oss.length : Int)) (hn : n ≤ 1000)
  (h : ∀ os, oss[k.toNat]? = some os → (s ∉ os → (os.length : Int) < n → nx ρ (oss.set k.toNat (os ++ [s]))) ∧ nx ρ oss) :
  dS2 K hs p (tIfS (tAnd (tTest (tOp (rIn K true) (tVar ix) (tOp (rIx K) (tVar io) (tVar ik)))) (tTest (tOp (rI0 fun i j => .bl (decide (i < j))) (tCB (rLenQ K) (tCons (tOp (rIx K) (tVar io) (tVar ik)) tNil)) (tC (.int n)))))
   (tDrop (tBM K "list" rAppend (tOp (rIx K) (tVar io) (tVar ik)) (tCons (tVar ix) tNil))) tNext) ρ oss nx := fun G0 H0 Gb σ G H D st b R O z => by
 obtain ⟨v1, a1, b1⟩ := R.var ex
 obtain ⟨v2, a2, b2⟩ := R.var eo
 obtain ⟨v3, a3, b3⟩ := R.var ek
 cases rel_str b1
 cases rel_adr b2
 cases rel_int b3
 obtain ⟨qs, h1, h2, h3, h4, h5⟩ := O.ex
 have hk : k.toNat < oss.length := by omega
 have hk' : k.toNat < qs.length := by omega
 have eq1 := List.getElem?_eq_getElem hk'
 have eo1 := List.getElem?_eq_getElem hk
 have I := h5 _ _ _ eq1 eo1
 obtain ⟨hA, hB⟩ := h _ eo1
 have ia : atI (qs.map V.ref) k = some (.ref qs[k.toNat]) := atI_get (j := k.toNat) (by omega) (by rw [List.getElem?_map, eq1]; rfl)
 have get : ∀ (T : VK), T (.ref qs[k.toNat]) H → tOp (rIx K) (tVar io) (tVar ik) σ H T := fun T hT => ⟨_, a2, _, a3, .inl ⟨_, _, _, _, rfl, rfl, SqL.of h1, ia, hT⟩⟩
 refine ⟨_, a1, get _ ⟨_, _, rfl, .inl (SqL.of I.at_), rfl, flat_strs, ?_⟩⟩
 rw [inV_str]
 refine ⟨_, rfl, ?_⟩
 have no : D.nx σ H := z σ G H ρ oss st b R O hB
 by_cases hin : s ∈ oss[k.toNat]
 ·simp only [hin, decide_true, if_true, Bool.not_true, Bool.false_eq_true, if_false]
  exact no
 ·simp only [hin, decide_false, if_true, Bool.not_false]
  refine get _ ⟨_, _, rfl, .inl (SqL.of I.at_), _, _, rfl, rfl, _, rfl, ?_⟩
  rw [List.length_map]
  by_cases hl : (oss[k.toNat].length : Int) < n
  ·simp only [hl, decide_true, if_true]
   refine get _ ⟨.inl ⟨rfl, _, SqL.of I.at_⟩, _, a1, _, _, _, rfl, rfl, I.at_, ?_, ?_⟩
   ·rw [List.length_map]
    exact Nat.lt_of_lt_of_le (by omega : oss[k.toNat].length < 1000) (by decide)
   ·have s2 := st.mut (o := .lst (oss[k.toNat].map V.str ++ [.str s])) I.h0 I.out I.g
    have np : p ≠ qs[k.toNat] := fun e => h3 (by rw [e]; exact List.getElem_mem hk')
    refine z σ G _ ρ _ s2 b (R.flat f) ⟨O.h0, O.out, O.g, qs, ?_, h2, h3, ?_, fun j q os e1 e2 => ?_⟩ (hA hin hl)
    ·rw [upd_ne np]; exact h1
    ·rw [List.length_set]; exact h4
    ·by_cases ej : j = k.toNat
     ·subst ej
      rw [eq1] at e1
      cases e1
      rw [List.getElem?_set_self hk] at e2
      cases e2
      exact ⟨I.h0, I.out, I.g, by rw [upd_same, List.map_append]; rfl⟩
     ·rw [List.getElem?_set_ne (Ne.symm ej)] at e2
      have J := h5 j q os e1 e2
      refine ⟨J.h0, J.out, J.g, ?_⟩
      rw [upd_ne]
      ·exact J.at_
      ·intro e
       have hj : j < qs.length := (List.getElem?_eq_some_iff.mp e1).1
       have e3 : qs[j] = qs[k.toNat] := by
        rw [List.getElem?_eq_getElem hj] at e1
        cases e1
        exact e
       have pw := List.pairwise_iff_getElem.mp h2
       rcases Nat.lt_trichotomy j k.toNat with z | z | z
       ·exact pw j k.toNat hj hk' z e3
       ·exact ej z
       ·exact pw k.toNat j hk' hj z e3.symm
  ·simp only [hl, decide_false, Bool.false_eq_true, if_false]
   exact no
theorem freeze_all {G0 H0 H : Hp} : ∀ {qs : List Addr} {oss : List (List Str)} {G : Hp}, qs.Nodup → qs.length = oss.length → Step hs G0 H0 G H → (∀ (j : Nat) q os, qs[j]? = some q → oss[j]? = some os → Inner hs H0 G H q os) →
  ∃ G', Step hs G0 H0 G' H ∧ Same G G' ∧ (∀ a, a ∉ qs → G' a = G a) ∧ RelL K G' (qs.map V.ref) (oss.map fun os => .lst (strsOf os))
 | [], [], G, _, _, s, _ => ⟨G, s, Same.refl G, fun _ _ => rfl, .nil⟩
 | [], _ :: _, _, _, e, _, _ => by cases e
 | _ :: _, [], _, _, e, _, _ => by cases e
 | q :: qs, os :: oss, G, nd, e, s, h => by
  rw [List.nodup_cons] at nd
  have I := h 0 q os rfl rfl
  have s1 := s.freeze I.h0 I.out I.g I.at_
  obtain ⟨G', h1, h2, h3, h4⟩ := freeze_all (G := upd G q (.lst (os.map V.str))) nd.2 (by simpa using e) s1 fun j q' os' e1 e2 => by
   have J := h (j + 1) q' os' (by simpa using e1) (by simpa using e2)
   refine ⟨J.h0, J.out, ?_, J.at_⟩
   have : q' ≠ q := fun z => nd.1 (by rw [← z]; exact List.mem_of_getElem? e1)
   rw [upd_ne this]
   exact J.g
  have g' : G' q = some (.lst (os.map V.str)) := h2 _ _ upd_same
  refine ⟨G', h1, fun a o z => h2 a o (by rw [upd_ne (ne_of_none z I.g)]; exact z), fun a ha => ?_, ?_⟩
  ·rw [h3 a (fun z => ha (List.mem_cons_of_mem _ z)), upd_ne (fun z => ha (by rw [z]; exact List.mem_cons_self))]
  ·exact .cons (.lst g' rel_of_strs) h4
theorem s_own2 {i j jk : Nat} {m : Int} (f : Flat ρ) (hi : i < ρ.length) (em : ρ[j]? = some (.d (.int m))) (m0 : 0 ≤ m) (m1 : m ≤ 1000)
  (h : ∀ p, dS2 K hs p t ((wipeR ρ [jk]).set i (.d (.adr p))) (List.replicate m.toNat []) fun ρ' oss => Flat ρ' ∧ ρ'[i]? = some (.d (.adr p)) ∧ dS K hs u (ρ'.set i (.d (.lst (oss.map fun os => .lst (strsOf os))))) E)
  (hw : wipeR ρ [jk] = ρ) : dS K hs (tSeq (tAsg (tLc (iRng1 (tCons (tVar j) tNil)) (gName jk) tYes (tLst tNil) [jk]) (gName i)) (tSeq t u)) ρ E := fun G0 H0 Gb σ G H D s b R z => by
 rw [hw] at h
 obtain ⟨v, a1, b1⟩ := R.var em
 cases rel_int b1
 refine ⟨_, a1, m, rfl, by omega, by omega, fun p hp => ?_⟩
 have oD := s.fr.outs hp
 have gD := Same.free s.sub hp
 refine ⟨fun n k H' => n ≤ m.toNat ∧ k = m.toNat - n ∧ ∃ qs : List Addr, Step hs G H G H' ∧ H' p = some (.lst (qs.map V.ref)) ∧ qs.Nodup ∧ p ∉ qs ∧ qs.length = n ∧ ∀ q ∈ qs, H q = none ∧ H' q = some (.lst []),
  ⟨_, Nat.zero_le _, rfl, [], Step.fresh s.sub s.st hp, upd_same, List.nodup_nil, by simp, rfl, fun q e => by cases e⟩, ?_⟩
 rintro n k H' ⟨hn, hk, qs, s1, h1, h2, h3, h4, h5⟩
 by_cases hl : n < m.toNat
 ·refine .inr ⟨hl, fun H'' => ∃ k', k' < k ∧ n + 1 ≤ m.toNat ∧ k' = m.toNat - (n + 1) ∧ ∃ qs : List Addr, Step hs G H G H'' ∧ H'' p = some (.lst (qs.map V.ref)) ∧ qs.Nodup ∧ p ∉ qs ∧ qs.length = n + 1 ∧ ∀ q ∈ qs, H q = none ∧ H'' q = some (.lst []), fun H'' x => x, ?_⟩
  rintro x H2 ⟨rfl, rfl⟩
  refine ⟨?_, ?_⟩
  ·exact (wipe_set (σ := wipe σ [jk]) (j := jk) (v := some _) (vs := [jk]) (List.mem_singleton.mpr rfl)).trans (wipe_wipe fun j h => h)
  ·simp only [tYes, if_true]
   refine ⟨by decide, fun q hq => ?_⟩
   have hq0 : H q = none := s1.back hq
   have s2 := s1.trans (Step.fresh (o := .lst []) s1.sub s1.st hq)
   have npq : p ≠ q := ne_of_none h1 hq
   refine ⟨qs.map V.ref, by rw [upd_ne npq]; exact h1, Nat.lt_of_lt_of_le (by rw [List.length_map]; omega : (qs.map V.ref).length < 1000) (by decide), _, by omega, hl, rfl, qs ++ [q], s2.mut hp oD gD, by rw [upd_same, List.map_append]; rfl, ?_, ?_, by simp [h4], ?_⟩
   ·have hnq : q ∉ qs := fun e => by
     have := (h5 q e).2
     rw [hq] at this; cases this
    exact List.nodup_append.mpr ⟨h2, by simp, fun a ha b hb e => by
     simp only [List.mem_singleton] at hb
     subst hb
     subst e
     exact hnq ha⟩
   ·simp only [List.mem_append, List.mem_singleton, not_or]
    exact ⟨h3, npq⟩
   ·intro q' hq'
    rcases List.mem_append.mp hq' with e | e
    ·obtain ⟨a, b⟩ := h5 q' e
     refine ⟨a, ?_⟩
     have n1 : q' ≠ p := fun z => h3 (by rw [← z]; exact e)
     rw [upd_ne n1, upd_ne (ne_of_none b hq)]
     exact b
    ·rw [List.mem_singleton.mp e]
     exact ⟨hq0, by rw [upd_ne npq.symm, upd_same]⟩
 ·refine .inl ⟨by show m.toNat ≤ n; omega, ?_⟩
  have s2 := s.trans s1
  have R2 : EnvR K hs H0 G H' (σ.set i (some (.ref p))) (ρ.set i (.d (.adr p))) := (R.step s1).set (s := .d (.adr p)) ⟨_, rfl, .adr⟩ fun _ e => by cases e
  refine h p G0 H0 Gb _ G H' { D with nx := u D } s2 b R2 ⟨s.back hp, oD, gD, qs, h1, h2, h3, by simp; omega, fun j q os e1 e2 => ?_⟩ ?_
  ·have hq := h5 q (List.mem_of_getElem? e1)
   have eo : os = [] := by
    have := List.mem_of_getElem? e2
    exact (List.mem_replicate.mp this).2
   subst eo
   exact ⟨s.back hq.1, s.fr.outs hq.1, Same.free s.sub hq.1, hq.2⟩
  ·intro σ' G' H'' ρ' oss' s' b' R' O' ⟨f', hi', q⟩
   obtain ⟨qs', k1, k2, k3, k4, k5⟩ := O'.ex
   obtain ⟨G2, j1, j2, j3, j4⟩ := freeze_all (K := K) k2 k4 s' k5
   have gp : G2 p = none := (j3 p k3).trans O'.g
   have j5 := j1.freeze O'.h0 O'.out gp k1
   have e2 : Same G2 (upd G2 p (.lst (qs'.map V.ref))) := fun a o e => by
    rw [upd_ne (ne_of_none e gp)]; exact e
   have R3 : EnvR K hs H0 (upd G2 p (.lst (qs'.map V.ref))) H'' σ' ρ' := by
    refine ⟨R'.len, fun l sl e => ?_, fun l l' ds es q e => absurd e (f' l ds)⟩
    obtain ⟨v, x1, x2⟩ := R'.at_ l sl e
    refine ⟨v, x1, ?_⟩
    cases sl with
    | un => trivial
    | d y =>
     obtain ⟨u', y1, y2⟩ := x2
     exact ⟨u', y1, y2.mono (j2.trans e2)⟩
    | ow ds => exact absurd e (f' l ds)
   obtain ⟨v, x1, x2⟩ := R3.var hi'
   cases rel_adr x2
   have eσ : σ'.set i (some (.ref p)) = σ' := List.ext_getElem? fun l => by
    by_cases el : i = l
    ·subst el
     rw [x1]
     exact get_set (List.getElem?_eq_some_iff.mp x1).1
    ·rw [List.getElem?_set_ne el]
   have R4 := R3.set (i := i) (v := some (.ref p)) (s := .d (.lst (oss'.map fun os => .lst (strsOf os)))) ⟨_, rfl, .lst upd_same (j4.mono e2)⟩ fun _ e => by cases e
   rw [eσ] at R4
   exact q G0 H0 Gb _ _ _ D j5 ((b'.trans j2).trans e2) R4 z
end
end PD
set_option Elab.async false
set_option linter.all false
set_option maxRecDepth 100000
set_option maxHeartbeats 1000000
namespace PD
open PySem L2
variable [Tabs]
def CalU (P : Program) (w : World) (K : PySem.W.Frag) (mg : Str → Option Value) (base : Heap) (k : Nat) (x : Str) (ps : List Str) (sp : Sp) : Prop := ∃ f fd, mg x = some (.ref f) ∧ PySem.W.keepIn K (.ref f) = true ∧ Binds K fd ps [] ∧ FnOk P w K mg base CX0 k f fd ps sp
section
variable {P : Program} {w : World} {K : PySem.W.Frag} {mg : Str → Option Value} {base : Heap} {x : Str} {ps : List Str} {k j : Nat}
theorem Cal.all {ι : Type} (i0 : ι) {hs : ι → Option (Addr × Addr)} {M : ι → List D → (D → Prop) → Prop} (C : ∀ i, Cal P w K mg base k x ps (hs i) (M i)) : CalU P w K mg base k x ps fun vs H Q E => ∃ i, spD K (hs i) (M i) vs H Q E := by
 obtain ⟨f, fd, a, b, c, l, d⟩ := C i0
 refine ⟨f, fd, a, b, c, fun vs H Q E ⟨i, h⟩ => ?_, fun A outer s H args us vs Q E hr he hb hv ⟨i, h⟩ => ?_⟩
 ·obtain ⟨f', fd', _, _, _, _, d'⟩ := C i
  exact d'.len vs H Q E h
 ·obtain ⟨f', fd', a', _, _, l', d'⟩ := C i
  have ef : f = f' := by
   rw [a] at a'
   cases a'; rfl
  subst ef
  obtain ⟨oc, od, osl, l⟩ := l
  obtain ⟨oc', od', osl', l'⟩ := l'
  rw [l] at l'
  injection l' with l'
  injection l' with _ _ e _
  injection e with e
  subst e
  exact d'.run A outer s H args us vs Q E hr he hb hv h
theorem pe_calU {X : Cx} {sp : Sp} {e : Expr} {es : List Expr} {t : TA} {p pos : Pos} (hK : X.K = K) (C : CalU X.prog X.w X.K X.mg X.base k x ps sp) (hr : Room k X.A) (hg : Gl X x) (ha : PA X (e :: es) t) (hdb : (x == ("__debug__" : Str)) = false := by decide)
  (he : starEach (e :: es) X.env = (false, eval e X.env) :: starEach es X.env := by rfl) (hpl : (backTo pos (starEach es X.env)).any (·.1) = false := by rfl) : PE X (.Call (.Name x p) (e :: es) [] pos) (tCall sp [] E0 t) := by
 obtain ⟨f, fd, a, b, c, d⟩ := C
 exact pe_call d hr hg a b c .nil pass0 ha hdb he hpl
end
section
variable {K : PySem.W.Frag} {ρ : List Sl} {k : D → Prop} {tx : TA} {X : XK} {M : Addr × Addr → List D → (D → Prop) → Prop} {i : Addr × Addr}
theorem d_callU (h : dA K (some i) tx ρ fun ds => M i ds k) : dE K (some i) (tCall (fun vs H Q E => ∃ i, spD K (some i) (M i) vs H Q E) [] X tx) ρ k := fun H0 σ G H Q f R z =>
 h H0 σ G H _ f R fun vs G1 H1 ds s1 r q => ⟨i, G1, ds, k, s1.fr, by rw [List.append_nil]; exact r, q, fun v G2 H2 d s2 r2 q2 => z v G2 H2 d (s1.trans s2) r2 q2⟩
end
end PD
set_option Elab.async false
set_option linter.all false
set_option maxRecDepth 100000
set_option maxHeartbeats 1000000
namespace PD
open PySem L2
variable [Tabs]
mutual
def D.py : D → PyData
 | .bl b => .bool b
 | .int i => .int i
 | .str s => .str s
 | .tup ds => .tuple (D.pyL ds)
 | .lst ds => .list (D.pyL ds)
 | _ => .none
def D.pyL : List D → List PyData
 | [] => []
 | d :: r => d.py :: D.pyL r
end
mutual
def D.fit : Nat → D → Bool
 | _, .non => true
 | _, .bl _ => true
 | _, .int _ => true
 | _, .str s => PyData.strOk s
 | n + 1, .tup ds => D.fitL n ds
 | n + 1, .lst ds => D.fitL n ds
 | _, _ => false
def D.fitL : Nat → List D → Bool
 | _, [] => true
 | n, d :: r => D.fit n d && D.fitL n r
end
mutual
theorem fit_lay : ∀ {n : Nat} {d : D}, D.fit n d = true → d.py.canLay0 = true ∧ d.py.depth ≤ n
 | _, .non, _ => by simp [D.py, PyData.canLay0, PyData.depth]
 | _, .bl _, _ => by simp [D.py, PyData.canLay0, PyData.depth]
 | _, .int _, _ => by simp [D.py, PyData.canLay0, PyData.depth]
 | _, .str s, e => by
  simp only [D.fit] at e
  simp [D.py, PyData.canLay0, PyData.depth, e]
 | _, .adr _, e => by simp [D.fit] at e
 | _, .ty _, e => by simp [D.fit] at e
 | _, .dct _, e => by simp [D.fit] at e
 | _, .tpf _, e => by simp [D.fit] at e
 | 0, .tup ds, e => by simp [D.fit] at e
 | 0, .lst ds, e => by simp [D.fit] at e
 | n + 1, .tup ds, e => by
  simp only [D.fit] at e
  obtain ⟨h1, h2⟩ := fitL_lay e
  simp only [D.py, PyData.canLay0, PyData.depth]
  exact ⟨h1, by omega⟩
 | n + 1, .lst ds, e => by
  simp only [D.fit] at e
  obtain ⟨h1, h2⟩ := fitL_lay e
  simp only [D.py, PyData.canLay0, PyData.depth]
  exact ⟨h1, by omega⟩
theorem fitL_lay : ∀ {n : Nat} {ds : List D}, D.fitL n ds = true → PyData.canLayAll0 (D.pyL ds) = true ∧ PyData.depthAll (D.pyL ds) ≤ n
 | _, [], _ => by simp [D.pyL, PyData.canLayAll0, PyData.depthAll]
 | n, d :: r, e => by
  simp only [D.fitL, Bool.and_eq_true] at e
  obtain ⟨h1, h2⟩ := fit_lay e.1
  obtain ⟨h3, h4⟩ := fitL_lay e.2
  simp only [D.pyL, PyData.canLayAll0, PyData.depthAll, h1, h3, Bool.and_self, true_and]
  omega
end
section
variable {K : PySem.W.Frag} {G H : Hp}
mutual
theorem rel_dp (s : Same G H) : ∀ {n : Nat} {d : D} {v : V}, Rel K G v d → D.fit n d = true → Dp K H v d.py
 | _, .non, _, .non, _ => .non
 | _, .bl _, _, .bl, _ => .bl _
 | _, .int _, _, .int, _ => .int _
 | _, .str _, _, .str, _ => .str _
 | _, .adr _, _, _, e => by simp [D.fit] at e
 | _, .ty _, _, _, e => by simp [D.fit] at e
 | _, .dct _, _, _, e => by simp [D.fit] at e
 | _, .tpf _, _, _, e => by simp [D.fit] at e
 | 0, .tup ds, _, _, e => by simp [D.fit] at e
 | 0, .lst ds, _, _, e => by simp [D.fit] at e
 | n + 1, .tup ds, _, .tup h r, e => .tup (Same.tseq s h) (rel_dpL s r (by simpa [D.fit] using e))
 | n + 1, .lst ds, _, .lst h r, e => .lst (SqL.of (s _ _ h)) (rel_dpL s r (by simpa [D.fit] using e))
theorem rel_dpL (s : Same G H) : ∀ {n : Nat} {ds : List D} {vs : List V}, RelL K G vs ds → D.fitL n ds = true → DpAll K H vs (D.pyL ds)
 | _, [], _, .nil, _ => .nil
 | n, d :: r, _, .cons h t, e => by
  simp only [D.fitL, Bool.and_eq_true] at e
  exact .cons (rel_dp s h e.1) (rel_dpL s t e.2)
end
end
theorem fit_shaped {n : Nat} {d : D} (hn : n ≤ 64) (h : D.fit n d = true) : SeqAt.shaped d.py = true := by
 obtain ⟨h1, h2⟩ := fit_lay h
 unfold SeqAt.shaped
 rw [h1, decide_eq_true (show d.py.depth ≤ 64 by omega)]
 rfl
end PD
set_option Elab.async false
set_option linter.all false
set_option maxRecDepth 100000
set_option maxHeartbeats 1000000
namespace PD
open PySem L2
variable [Tabs]
mutual
def conOk (K : PySem.W.Frag) : D → Value → Bool
 | .str s, .str y _ => decide (s = y)
 | .int i, .int j _ => decide (i = j)
 | .bl b, .bool c => decide (b = c)
 | .tup ds, .ref a => (match K.lookup a with
  | some ⟨.type c, _, .seq its _, _⟩ => decide (c = "tuple") && (Nat.ble its.size 1000 && conL K ds its.toList)
  | _ => false)
 | _, _ => false
def conL (K : PySem.W.Frag) : List D → List Value → Bool
 | [], [] => true
 | d :: ds, u :: us => conOk K d u && conL K ds us
 | _, _ => false
end
mutual
theorem con_rel {K : PySem.W.Frag} : ∀ {d : D} {u : Value}, conOk K d u = true → ∃ v, RelV v u ∧ ∀ G, Rel K G v d
 | .str s, .str y t, h => by
  have e : s = y := by simpa [conOk] using h
  subst e
  exact ⟨.str s, ⟨t, rfl⟩, fun _ => .str⟩
 | .int i, .int j t, h => by
  have e : i = j := by simpa [conOk] using h
  subst e
  exact ⟨.int i, ⟨t, rfl⟩, fun _ => .int⟩
 | .bl b, .bool c, h => by
  have e : b = c := by simpa [conOk] using h
  subst e
  exact ⟨.bl b, rfl, fun _ => .bl⟩
 | .tup ds, .ref a, h => by
  unfold conOk at h
  split at h
  ·rename_i c od its n sl e
   obtain ⟨h1, h2⟩ := Bool.and_eq_true_iff.mp h
   obtain ⟨h2, h3⟩ := Bool.and_eq_true_iff.mp h2
   have e1 : c = "tuple" := of_decide_eq_true h1
   subst e1
   obtain ⟨vs, r, q⟩ := conL_rel h3
   exact ⟨.ref a, rfl, fun G => .tup (.inr ⟨_, its, n, e, rfl, rfl, Nat.le_trans (Nat.le_of_ble_eq_true h2) (by decide), r⟩) (q G)⟩
  ·cases h
 | .non, _, h => by simp [conOk] at h
 | .bl _, .none, h => by simp [conOk] at h
 | .bl _, .int _ _, h => by simp [conOk] at h
 | .bl _, .str _ _, h => by simp [conOk] at h
 | .bl _, .ref _, h => by simp [conOk] at h
 | .adr _, _, h => by simp [conOk] at h
 | .ty _, _, h => by simp [conOk] at h
 | .lst _, _, h => by simp [conOk] at h
 | .dct _, _, h => by simp [conOk] at h
 | .tpf _, _, h => by simp [conOk] at h
 | .str _, .none, h => by simp [conOk] at h
 | .str _, .bool _, h => by simp [conOk] at h
 | .str _, .int _ _, h => by simp [conOk] at h
 | .str _, .ref _, h => by simp [conOk] at h
 | .int _, .none, h => by simp [conOk] at h
 | .int _, .bool _, h => by simp [conOk] at h
 | .int _, .str _ _, h => by simp [conOk] at h
 | .int _, .ref _, h => by simp [conOk] at h
 | .tup _, .none, h => by simp [conOk] at h
 | .tup _, .bool _, h => by simp [conOk] at h
 | .tup _, .int _ _, h => by simp [conOk] at h
 | .tup _, .str _ _, h => by simp [conOk] at h
theorem conL_rel {K : PySem.W.Frag} : ∀ {ds : List D} {us : List Value}, conL K ds us = true → ∃ vs, Vals vs us ∧ ∀ G, RelL K G vs ds
 | [], [], _ => ⟨[], .nil, fun _ => .nil⟩
 | d :: ds, u :: us, h => by
  simp only [conL, Bool.and_eq_true] at h
  obtain ⟨v, r1, q1⟩ := con_rel h.1
  obtain ⟨vs, r2, q2⟩ := conL_rel h.2
  exact ⟨v :: vs, .cons r1 r2, fun G => .cons (q1 G) (q2 G)⟩
 | [], _ :: _, h => by simp [conL] at h
 | _ :: _, [], h => by simp [conL] at h
end
def gloB (K : PySem.W.Frag) (x : Str) (d : D) : Bool := conOk K d (.ref (He.ga K x))
def hasB (K : PySem.W.Frag) (x : Str) (tab : List (Str × D)) (no : List Str) : Bool := (tab.all fun p => match PySem.W.nsIn K (He.ga K x) p.1 with
 | some (some u) => conOk K p.2 u
 | _ => false) && no.all fun s => He.eqO (PySem.W.nsIn K (He.ga K x) s) (some none)
theorem has_ok {K : PySem.W.Frag} {x : Str} {tab : List (Str × D)} {no : List Str} (h : hasB K x tab no = true) : (∀ p ∈ tab, KHas K (He.ga K x) p.1 (some p.2)) ∧ ∀ s ∈ no, KHas K (He.ga K x) s none := by
 obtain ⟨h1, h2⟩ := Bool.and_eq_true_iff.mp h
 refine ⟨fun p hp => ?_, fun s hs => He.eqO_ok (List.all_eq_true.mp h2 s hs)⟩
 have h3 := List.all_eq_true.mp h1 p hp
 cases e : PySem.W.nsIn K (He.ga K x) p.1 with
 | none => rw [e] at h3; cases h3
 | some r =>
  rw [e] at h3
  cases r with
  | none => cases h3
  | some u =>
   obtain ⟨v, r, q⟩ := con_rel h3
   exact ⟨u, v, e, r, q⟩
end PD
set_option Elab.async false
set_option linter.all false
set_option maxRecDepth 100000
set_option maxHeartbeats 1000000
namespace PD
open PySem L2
open PTT (Rw SetTT rSetTT rSortedTT rLenTT rLenTx tScT le)
variable [Tabs]
abbrev Txs := PTT.TS
section
variable {P : Program} {w : World} {K : PySem.W.Frag} {hs : Option (Addr × Addr)} {ρ : List Sl} {k : D → Prop} {te : TE} {tt : TT} {g : TG} {kl : List D → Prop} {tx : TA}
def Ups (ys acc : List Txs) : Prop := ys.Pairwise le ∧ ys.Nodup ∧ ∀ x, x ∈ ys ↔ x ∈ acc
theorem Ups.same {ys zs acc : List Txs} (h : Ups ys acc) (h' : Ups zs acc) : ys = zs := PTT.le_same h.1 h'.1 h.2.1 h'.2.1 fun x => (h.2.2 x).trans (h'.2.2 x).symm
theorem d_lenTx (h : dE K hs te ρ fun x => ∃ ss : List Str, x = .lst (strsOf ss) ∧ ss.length ≤ 60 ∧ ∀ ys : List Str, ys.Nodup → (∀ x, x ∈ ys ↔ x ∈ ss) → k (.int ys.length)) : dE K hs (tCB (rLenTx w) (tCons (tCB (PT.rSetTx K w) (tCons te tNil)) tNil)) ρ k := fun H0 σ G H Q f R z =>
 h H0 σ G H _ f R fun v G1 H1 x s1 r1 ⟨ss, e, few, q⟩ => by
  subst e
  obtain ⟨l, vs, rfl, hh, r⟩ := rel_lst r1
  have e := rel_strs r
  subst e
  refine ⟨l, ss, rfl, SqL.of (s1.sub _ _ hh), few, fun a ha => ?_⟩
  have s2 := Step.fresh (o := PT.SetTx w a ss.reverse) s1.sub s1.st ha
  exact ⟨a, ss.reverse, rfl, upd_same, by rw [List.length_reverse]; omega, fun N nd m => z _ G1 _ _ (s1.trans s2) .int (q N nd fun x => (m x).trans List.mem_reverse)⟩
end
end PD
set_option Elab.async false
set_option linter.all false
set_option maxRecDepth 100000
set_option maxHeartbeats 1000000
namespace PD
open PySem PySem.Spec PyProof.Rows L2 NdefX LamX
variable [Tabs]
structure FnC (P : Program) (w : World) (K : PySem.W.Frag) (mg : Str → Option Value) (base : Heap) (C : Heap → Hp → List Env → Prop) (k : Nat) (f : Addr) (fd : FuncData) (ps : List Str) (sp : Sp) : Prop where
 len : ∀ vs H Q E, sp vs H Q E → vs.length = ps.length
 run : ∀ (A : Around) (outer : List Env) (s : Shared) (H : Hp) (args : Args) (us : List Value) (vs : List V) (Q : VK) (E : XK), Room k A → Env0 P w K mg base A outer s H → BindsTo s fd args (ps.zip us) → Vals vs us → C s.heap H outer → sp vs H Q E →
  codeAny (model P w) A (.call (.ref f) args) (CR CX0 outer P w H s Q E) s
section
variable {P : Program} {w : World} {K : PySem.W.Frag} {mg : Str → Option Value} {base : Heap} {C : Heap → Hp → List Env → Prop}
theorem FnC.mono {j k : Nat} {f : Addr} {fd : FuncData} {ps : List Str} {sp : Sp} (F : FnC P w K mg base C j f fd ps sp) (h : j ≤ k) : FnC P w K mg base C k f fd ps sp := ⟨F.len, fun A outer s H args us vs Q E hr => F.run A outer s H args us vs Q E (hr.mono h)⟩
theorem fnC_of {x qual : Str} {params : Arguments} {body : List Stmt} {scope : Scope} {dvs : List V} {kws : List (Str × V)} {f : Addr} {fd : FuncData} {N ps : List Str} {k : Nat} {sp : Sp} (F : FunD K x qual params body scope dvs kws f fd) (S : FnScope N ps scope) (len : ∀ vs H Q E, sp vs H Q E → vs.length = ps.length)
  (hbody : ∀ (cdv : Value) (A : Around) (outer : List Env) (s : Shared) (H : Hp) (vs : List V) (Q : VK) (E : XK), Room k (A.deeper (envOfC qual scope s.heap.objs.size f cdv)) → C s.heap H outer → sp vs H Q E →
   ∃ t, PSs (cxOf CX0 P w K mg base N qual scope f cdv A outer s H E) body t ∧ t { nx := fun _ H' => Q .non H', rt := Q } (L2.start N vs) H) : FnC P w K mg base C (k + 1) f fd ps sp := by
 obtain ⟨oc, od, dV, kV, doc, pm, an, cdv, ct, osl, rfl, lk, hcd, _, _⟩ := F.ex
 refine ⟨len, fun A outer s H args us vs Q E hr e0 hb r hC hsp => ?_⟩
 have KX : K.In s.heap := e0.mod.kin.keeps fun b o e => (e0.bs b o e).1
 have many := len _ _ _ _ hsp
 have named : ∀ y ∈ ps.zip us, scope.names.lookup y.1 = some .local ∨ (scope.names.lookup y.1 = some .cell ∧ ((cellsFrom (s.heap.objs.size + 1) scope.names []).lookup y.1).isSome = true) := by
  rintro ⟨n, v⟩ hy
  exact (S.par n (List.of_mem_zip hy).1).imp id fun q => ⟨q, PySem.W.cellsFrom_some _ _ _ (.inl q)⟩
 refine codeAny_call_function hr.depth (KX _ _ lk) rfl S.co S.gen rfl (PySem.W.codeRec_of KX hcd) (hb _ _ _ _ (wpAny_newFunctionEnv_cells S.kind named fun env he s1 x => ?_))
 subst he
 refine ⟨(e0.mod.nolimit.keeps fun b o e => (e0.bs b o e).1).keeps x.toInCall.keep, codeAny_func ?_⟩
 obtain ⟨t, ht, hq⟩ := hbody cdv A outer s H vs Q E (hr.deeper _) hC hsp
 refine wpAny_mono (ht.run [] s1 (L2.start N vs) H _ (inv_start S hr.hd e0 many r x) hq) (fun fl s' hs => ?_) fun e s' hs => hs
 cases fl with
 | ret u =>
  obtain ⟨v, σ', H', J, rv, q⟩ := hs
  exact ⟨v, H', J.os, J.bare, J.base, J.hok, rv, q⟩
 | next =>
  obtain ⟨σ', H', J, q⟩ := hs
  exact ⟨.non, H', J.os, J.bare, J.base, J.hok, rfl, q⟩
 | brk => exact hs.elim fun _ h => h.elim fun _ h => h.2.elim
 | cont => exact hs.elim fun _ h => h.elim fun _ h => h.2.elim
def tCallC (sp : Sp) (dvs : List V) (Z : L2.St → Prop) (E : XK) (t : TA) : TE := fun σ H Q => Z σ ∧ t σ H fun vs H1 => sp (vs ++ dvs) H1 Q E
theorem pe_callC {X : Cx} {C : Heap → Hp → List Env → Prop} {Z : L2.St → Prop} {k : Nat} {f : Addr} {fd : FuncData} {ps : List Str} {sp : Sp} {dvs : List V} {ds : List Value} {x : Str} {p pos : Pos} {e : Expr} {es : List Expr} {t : TA} (F : FnC X.prog X.w X.K X.mg X.base C k f fd ps sp)
  (hC : ∀ pins σ H s, Inv X pins σ H s → Z σ → C s.heap H X.stack) (hr : Room k X.A) (hg : Gl X x) (hm : X.mg x = some (.ref f)) (hk : PySem.W.keepIn X.K (.ref f) = true) (hb : Binds X.K fd ps ds) (hd : Vals dvs ds) (ha : PA X (e :: es) t) (hdb : (x == ("__debug__" : Str)) = false := by decide)
  (he : starEach (e :: es) X.env = (false, eval e X.env) :: starEach es X.env := by rfl) (hpl : (backTo pos (starEach es X.env)).any (·.1) = false := by rfl) : PE X (.Call (.Name x p) (e :: es) [] pos) (tCallC sp dvs Z E0 t) := by
 refine ⟨fun pins s σ H Q I h => ?_⟩
 obtain ⟨hz, h⟩ := h
 refine wpAny_Call_Name_kw (ld_glob I hg hm ?_ hdb)
 refine PySem.W.callWith_K (h₀ := X.base) I.ok.mod.kin hk (thn (ha.run pos pins s σ H _ I h) fun us s1 ⟨vs, H1, I1, r, q⟩ => ⟨I1.kIn, ?_⟩) he hpl
 have r2 : Vals (vs ++ dvs) (us ++ ds) := r.append hd
 have many : (us ++ ds).length = ps.length := by rw [← r2.length]; exact F.len _ _ _ _ q
 refine wpAny_call (codeAny_mono (F.run X.A X.stack s1 H1 ⟨us, []⟩ (us ++ ds) (vs ++ dvs) Q E0 hr I1.env0 (hb s1 us I1.kIn many) r2 (hC _ _ _ _ I1 hz) q) fun r s' hq => ?_)
 cases r with
 | error e => exact pass0 pins σ H1 s1 e s' I1 hq
 | ok fl =>
  cases fl with
  | ret u => exact I1.after hq
  | next => exact hq.elim
  | brk => exact hq.elim
  | cont => exact hq.elim
def tCallF (i : Nat) (f : Addr) (F : NF) (sp : Sp) (t : TA) : TE := fun σ H Q => σ[i]? = some (some (.ref f)) ∧ H f = some (FnO f F) ∧ t σ H fun vs H1 => H1 f = some (FnO f F) ∧ H1 F.c = some (CodeO F.c F.qual) ∧ sp vs H1 Q E0
theorem pe_callF {X : Cx} {F : NF} {ps fr : List Str} {ws : List (Option V)} {i k : Nat} {f : Addr} {x : Str} {sp : List (Option V) → Sp} {t : TA} {e : Expr} {es : List Expr} {p pos : Pos} (Fn : NOk X.prog X.w X.K X.mg X.base CX0 k f F ps fr sp) (C : CellsAt F.cl fr ws X.s_0.heap X.H_0) (nf : ∀ y c, F.cl.lookup y = some c → c ∉ X.fs)
  (hx : X.ex = []) (hr : Room k X.A) (hN : X.N[i]? = some x) (hv : Vis X.env.scope x) (ha : PA X (e :: es) t) (hd : (x == ("__debug__" : Str)) = false := by decide) (hcd : (x == ("__classdict__" : Str)) = false := by decide)
  (he : starEach (e :: es) X.env = (false, eval e X.env) :: starEach es X.env := by rfl) (hpl : (backTo pos (starEach es X.env)).any (·.1) = false := by rfl) : PE X (.Call (.Name x p) (e :: es) [] pos) (tCallF i f F (sp ws) t) := by
 refine ⟨fun pins s σ H Q I h => ?_⟩
 obtain ⟨hs, hf, ht⟩ := h
 refine wpAny_Call_Name_kw (thn ((pe_var (pos := p) hN hv hd hcd).run pins s σ H (fun v H1 => v = .ref f ∧ H1 = H) I ⟨.ref f, hs, rfl, rfl⟩) fun u s1 ⟨v, H1, I1, r1, q1⟩ => ?_)
 obtain ⟨rfl, rfl⟩ := q1
 obtain rfl : u = Value.ref f := r1
 refine PySem.W.callWith_F (first := []) (fnAt_of I1 hf) (thn (ha.run pos pins s1 σ _ _ I1 ht) fun us s2 ⟨vs, H2, I2, r, h1, h2, q⟩ => ⟨fnAt_of I2 h1, ?_⟩) he hpl
 have C2 := C.later nf (fun y c _ z => by rw [hx] at z; cases z) I2
 refine wpAny_call (codeAny_mono (Fn.run X.A X.stack s2 H2 us vs ws Q E0 hr I2.env0 h1 h2 C2 r q) fun r s' hq => ?_)
 cases r with
 | error e => exact pass0 pins σ H2 s2 e s' I2 hq
 | ok fl =>
  cases fl with
  | ret u => exact I2.after hq
  | next => exact hq.elim
  | brk => exact hq.elim
  | cont => exact hq.elim
def Caught (F : NF) (fr : List Str) (ws : List (Option V)) : Heap → Hp → List Env → Prop := fun h H outer => CellsAt F.cl fr ws h H ∧ ∀ y c, F.cl.lookup y = some c → c ∉ frs outer
theorem Caught.on {X : Cx} {F : NF} {fr : List Str} {ws : List (Option V)} {pins : List (Addr × Obj)} {σ : L2.St} {H : Hp} {s : Shared} (C : Caught F fr ws X.s_0.heap X.H_0 X.outer) (hx : X.ex = []) (hst : X.stack = X.env :: X.outer) (hf : X.env.frame = some X.env.locals) (I : Inv X pins σ H s) : Caught F fr ws s.heap H X.stack := by
 refine ⟨C.1.later C.2 (fun y c _ z => by rw [hx] at z; cases z) I, fun y c e hm => ?_⟩
 obtain ⟨v, o, ho, hd⟩ := (C.1.all y c e).2
 have lt := Heap.lt_size ho
 rw [hst] at hm
 unfold frs at hm
 rw [List.filterMap_cons, hf] at hm
 rcases List.mem_cons.mp hm with z | z
 ·have := I.ok.above
  rw [← z] at this
  exact absurd lt (Nat.not_lt.mpr this)
 ·exact C.2 y c e z
theorem Caught.made {X : Cx} {F : NF} {fr : List Str} {js : List Nat} {pins : List (Addr × Obj)} {σ : L2.St} {H : Hp} {s : Shared} (cp : Caps X F.cl fr js) (hfn : ∀ y, X.fn y = true) (hst : X.stack = X.env :: X.outer) (hf : X.env.frame = some X.env.locals) (I : Inv X pins σ H s) : Caught F fr (js.map (slotAt σ)) s.heap H X.stack := by
 refine ⟨cells_of I cp, fun y c e hm => ?_⟩
 have e1 := cp.sub y c e
 rw [hst] at hm
 unfold frs at hm
 rw [List.filterMap_cons, hf] at hm
 rcases List.mem_cons.mp hm with z | z
 ·obtain ⟨v, o, ho, hd⟩ := I.cell y c e1
  obtain ⟨m, ⟨o', es, ep, ho', r⟩, _⟩ := I.loc
  rw [← z, ho] at ho'
  cases ho'
  rw [hd] at r
  exact absurd r.1 (by simp)
 ·have ge := I.ok.cab y c (hfn y) e1
  obtain ⟨_, o, ho, _⟩ := I.ok.funs.mem z
  exact absurd (Heap.lt_size ho) (Nat.not_lt.mpr ge)
end
end PD
set_option Elab.async false
set_option linter.all false
set_option maxRecDepth 100000
set_option maxHeartbeats 1000000
namespace PD
open PySem PySem.Spec PyProof.Rows L2 NdefX LamX
variable [Tabs]
def tNd (P : Addr) (nm : Nat → Nat → Str) (i : Nat) (mk : Addr → NF) : TS := fun D σ H => TabN H P nm ∧
 (∀ c f (ps : Array Value) (pos : Pos), H P = some (.tbl ps) → codeAmong pos ps.toList = some (.ref c) → nm pos.line pos.col = (mk c).qual → H f = none → D.nx (σ.set i (some (.ref f))) (upd H f (FnO f (mk c)))) ∧
 (∀ c f (ps qs : Array Value), H P = some (.tbl ps) → H c = none → f ≠ c → H f = none → TriplesOk qs.toList → (∀ (pos : Pos) (cv : Value), codeAmong pos qs.toList = some cv → codeAmong pos ps.toList = some cv ∨ (cv = .ref c ∧ nm pos.line pos.col = (mk c).qual)) →
  D.nx (σ.set i (some (.ref f))) (upd (upd (upd H P (.tbl qs)) c (CodeO c (mk c).qual)) f (FnO f (mk c))))
section
variable {X : Cx}
theorem ps_nd {st : Stmt} {nm : Nat → Nat → Str} {c P : Addr} {name : Str} {pos : Pos} {i : Nat} (hst : st = .FunctionDef name (C8.fnArgs st) (C8.fnBody st) [] none [] (C8.fnScope st) none name pos) (TB : TabB X.base X.mg c P) (hcode : X.env.code = .ref c) (hn : nm pos.line pos.col = X.env.qual ++ name)
  (hfree : ∀ y ∈ (C8.fnScope st).names, y.2 = .free → X.env.scope.names.lookup y.1 = some .cell ∨ X.env.scope.names.lookup y.1 = some .free) (hd0 : (C8.fnArgs st).defaults = []) (hk0 : (C8.fnArgs st).kw_defaults = []) (ha : annTrees (C8.fnArgs st) none X.env = [])
  (hN : X.N.Nodup) (hi : X.N[i]? = some name) (hx : Loc X.env.scope name) (hf : X.fn name = true ∨ X.env.scope.names.lookup name = some .local) :
  PS X st (tNd P nm i (NF.of st name (X.env.qual ++ name) (cloFrom X.env.cells (C8.fnScope st).names []))) := by
 suffices key : PS X (.FunctionDef name (C8.fnArgs st) (C8.fnBody st) [] none [] (C8.fnScope st) none name pos) (tNd P nm i (NF.of st name (X.env.qual ++ name) (cloFrom X.env.cells (C8.fnScope st).names []))) by
  rw [← hst] at key
  exact key
 refine ⟨fun pins s σ H D I h => ?_⟩
 obtain ⟨⟨ps, hP, ht, hall⟩, hit, new⟩ := h
 have hq : qualnameIn X.env name name = X.env.qual ++ name := by
  have kd : X.env.kindOf name = some .local ∨ X.env.kindOf name = some .cell := hx
  unfold qualnameIn
  rcases kd with k | k <;> rw [k] <;> first | rfl | exact if_neg (by decide)
 refine PySem.W.nestDef_K hd0 hk0 ha ?_
 rw [hq]
 have caught : ∀ y ∈ (C8.fnScope st).names, y.2 = .free → ∃ c, X.env.cells.lookup y.1 = some c := fun y hy e => (hfree y hy e).elim (fun z => I.ok.has _ (.inl z)) fun z => I.ok.has _ (.inr z)
 have bP : s.heap.BuiltinsAt X.mg P := TB.bm.keeps I.bk
 have hP' : s.heap.get? P = some { cls := .none, data := .fields ps } := I.hok P _ hP
 cases hc : codeAmong pos ps.toList with
 | some cv =>
  obtain ⟨c', e, hco⟩ := hall pos cv hc
  subst e
  refine PySem.W.makeFunction_hit (mg := X.mg) (c := c) (P := P) (ps := ps) (closure_ok caught) I.ok.glob (I.mod.glob.keeps I.bk) hcode (TB.code.keeps I.bk) hP' ht hc bP fun ctv doc h' tk kp _ => ?_
  have I1 : Inv X pins σ H { s with heap := h', toks := tk } := I.kept kp
  have free : H h'.objs.size = none := I1.hok.fresh (Nat.le_refl _)
  refine store_ok (v := .ref _) (inv_fn (F := NF.of st name (X.env.qual ++ name) (cloFrom X.env.cells (C8.fnScope st).names []) c') (t' := tk) (doc := doc) (pm := (X.mg "__name__").getD .none) (ctv := ctv) I1 rfl) hN hi hx rfl (fun s2 J => ⟨_, _, J, hit c' _ ps pos hP hc hn free⟩) hf
 | none =>
  refine PySem.W.makeFunction_K (mg := X.mg) (c := c) (P := P) (ps := ps) (closure_ok caught) I.ok.glob (I.mod.glob.keeps I.bk) hcode (TB.code.keeps I.bk) hP' ht hc TB.gP bP fun c' ctv doc h' tk kp ge lt rec tb => ?_
  obtain ⟨c2, oc, vs, t, e2, hoc, hd, hv⟩ := rec
  cases e2
  have nC : H c' = none := I.hok.fresh ge
  have I1 := inv_table (t' := tk) (more := #[rawInt pos.line, rawInt pos.col, .ref c']) (h' := h') I hP (fun b o hb e => kp b o hb e) tb ge ⟨oc, vs, t, hoc, hd, hv⟩
  have nf : (upd (upd H P (.tbl (ps ++ #[rawInt pos.line, rawInt pos.col, .ref c']))) c' (CodeO c' (X.env.qual ++ name))) h'.objs.size = none := I1.hok.fresh (Nat.le_refl _)
  have f0 : H h'.objs.size = none := upd_none (upd_none nf)
  have eL : (ps ++ #[rawInt pos.line, rawInt pos.col, .ref c']).toList = ps.toList ++ [rawInt pos.line, rawInt pos.col, .ref c'] := by simp
  refine store_ok (v := .ref _) (inv_fn (F := NF.of st name (X.env.qual ++ name) (cloFrom X.env.cells (C8.fnScope st).names []) c') (t' := tk) (doc := doc) (pm := (X.mg "__name__").getD .none) (ctv := ctv) I1 rfl) hN hi hx rfl (fun s2 J => ⟨_, _, J, new c' _ ps (ps ++ #[rawInt pos.line, rawInt pos.col, .ref c']) hP nC (Nat.ne_of_gt lt) f0 (by rw [eL]; exact PySem.TriplesOk_snoc _ _ _ _ ht) fun p' cv hcv => ?_⟩) hf
  rw [eL] at hcv
  rcases among_app2 _ ht hcv with z | ⟨z, z1, z2⟩
  ·exact .inl z
  ·refine .inr ⟨z, ?_⟩
   rw [← z1, ← z2, hn]
   rfl
end
end PD
set_option Elab.async false
set_option linter.all false
set_option maxRecDepth 100000
set_option maxHeartbeats 1000000
namespace PD
open PySem PySem.Spec PyProof.Rows L2 NdefX LamX
variable [Tabs]
theorem Step.grow {hs : Option (Addr × Addr)} {G H : Hp} {P c : Addr} {nm : Nat → Nat → Str} {q : Str} {ps qs : Array Value} (s : Same G H) (h : HSt hs G H) (hm : (P, nm) ∈ Tabs.T) (hu : ∀ p ∈ Tabs.T, p.1 = P → p.2 = nm) (hP : H P = some (.tbl ps)) (hc : H c = none) (t : TriplesOk qs.toList)
  (all : ∀ (pos : Pos) (cv : Value), codeAmong pos qs.toList = some cv → codeAmong pos ps.toList = some cv ∨ (cv = .ref c ∧ nm pos.line pos.col = q)) : Step hs G H (upd G c (CodeO c q)) (upd (upd H P (.tbl qs)) c (CodeO c q)) := by
 have gc : G c = none := Same.free s hc
 have gP : G P = none := (h.1 _ hm).1
 have cP : P ≠ c := ne_of_none hP hc
 have old : ∀ a u, H a = some u → a ≠ P → upd (upd H P (.tbl qs)) c (CodeO c q) a = some u := fun a u e n => by rw [upd_ne (ne_of_none e hc), upd_ne n]; exact e
 refine ⟨fun a o ho e => old a o e (ho.1 _ hm), fun a u e => by rw [upd_ne (ne_of_none e gc)]; exact e, fun a u e => ?_, fun a u e n => ?_, fun p hp => ?_, ?_⟩
 ·by_cases ac : a = c
  ·subst ac
   rw [upd_same] at e ⊢
   exact e
  ·rw [upd_ne ac] at e
   exact old a u (s a u e) (ne_of_none e gP)
 ·by_cases ac : a = c
  ·rw [ac]; exact .inl hc
  ·rw [upd_ne ac, n] at e; cases e
 ·obtain ⟨g, ps', e1, e2, e3⟩ := h.1 p hp
  have pc : p.1 ≠ c := ne_of_none e1 hc
  refine ⟨by rw [upd_ne pc]; exact g, ?_⟩
  by_cases pP : p.1 = P
  ·have pn := hu p hp pP
   rw [pP] at e1
   rw [hP] at e1
   cases e1
   refine ⟨qs, by rw [pP, upd_ne cP, upd_same], t, fun pos cv z => ?_⟩
   rcases all pos cv z with z | ⟨z, zq⟩
   ·obtain ⟨c0, a1, a2⟩ := e3 pos cv z
    exact ⟨c0, a1, by rw [upd_ne (ne_of_none a2 gc)]; exact a2⟩
   ·refine ⟨c, z, ?_⟩
    rw [upd_same, pn, zq]
  ·exact ⟨ps', old _ _ e1 pP, e2, fun pos cv z => let ⟨c0, a1, a2⟩ := e3 pos cv z; ⟨c0, a1, by rw [upd_ne (ne_of_none a2 gc)]; exact a2⟩⟩
 ·have d := h.2
  cases hs with
  | none => trivial
  | some q' =>
   obtain ⟨ah, as⟩ := q'
   obtain ⟨h0, h1, h2, m, k, ns, h3, h4, h5⟩ := d
   have n3 : ah ≠ P := h.1.ne h3 (fun ps z => by cases z) _ hm
   have n4 : as ≠ P := h.1.ne h4 (fun ps z => by cases z) _ hm
   exact ⟨h0, by rw [upd_ne (ne_of_none h3 hc)]; exact h1, by rw [upd_ne (ne_of_none h4 hc)]; exact h2, m, k, ns, old _ _ h3 n3, old _ _ h4 n4, h5⟩
section
variable {K : PySem.W.Frag} {hs : Option (Addr × Addr)} {ρ : List Sl} {k : D → Prop} {te : TE} {u : TS} {E : DEnds} {tx : TA}
theorem s_names {i j : Nat} {P : Addr} {nm : Nat → Nat → Str} {mk : Addr → NF} (hm : (P, nm) ∈ Tabs.T) (hu : ∀ p ∈ Tabs.T, p.1 = P → p.2 = nm) (hk : ∀ c, (mk c).c = c)
  (h : dE K hs te ρ fun x => ∃ ss : List Str, x = .lst (strsOf ss) ∧ ∀ c f l, dS K hs u ((ρ.set j (.d (.adr l))).set i (.d (.clo f (mk c) l ss))) E) : dS K hs (tSeq (tAsg te (gName j)) (tSeq (tNd P nm i mk) u)) ρ E := fun G0 H0 Gb σ G H D s b R z =>
 h H0 σ G H _ s.fr R fun v G1 H1 x s1 r1 ⟨ss, e, q⟩ => by
  subst e
  obtain ⟨l, vs, rfl, hl, r⟩ := rel_lst r1
  have e := rel_strs r
  subst e
  have st := s.trans s1
  have b1 := b.trans s1.exg
  have R1 := (R.step s1).set (i := j) (v := some (.ref l)) (s := .d (.adr l)) ⟨_, rfl, .adr⟩ fun _ e => by cases e
  refine ⟨s1.st.1.tabs s1.sub _ hm, fun c f ps pos hP hc hn hf => ?_, fun c f ps qs hP hc nf hf tr all => ?_⟩
  ·obtain ⟨_, ps', e1, e2, e3⟩ := s1.st.1 _ hm
   have e1' : H1 P = some (.tbl ps') := e1
   rw [hP] at e1'
   cases e1'
   obtain ⟨c0, a1, a2⟩ := e3 pos _ hc
   cases a1
   have s2 := Step.alloc (o := FnO f (mk c)) s1.sub s1.st hf
   refine q c f l G0 H0 Gb _ _ _ D (st.trans s2) (b1.trans s2.exg) ((R1.step s2).set (s := .d (.clo f (mk c) l ss)) ⟨_, rfl, .clo upd_same ?_ (s2.exg _ _ hl)⟩ fun _ e => by cases e) z
   rw [hk, ← hn]
   exact s2.exg _ _ a2
  ·have s2 := Step.grow (q := (mk c).qual) s1.sub s1.st hm hu hP hc tr all
   have hf2 : upd (upd H1 P (.tbl qs)) c (CodeO c (mk c).qual) f = none := by
    rw [upd_ne nf, upd_ne (fun z => by rw [z, hP] at hf; cases hf)]; exact hf
   have s3 := Step.alloc (o := FnO f (mk c)) s2.sub s2.st hf2
   have s4 := s2.trans s3
   refine q c f l G0 H0 Gb _ _ _ D (st.trans s4) (b1.trans s4.exg) ((R1.step s4).set (s := .d (.clo f (mk c) l ss)) ⟨_, rfl, .clo upd_same ?_ (s4.exg _ _ hl)⟩ fun _ e => by cases e) z
   rw [hk]
   refine s3.exg _ _ ?_
   rw [upd_same]
def tCallM (j : Nat) (mk : Addr → NF) (sp : Addr → NF → Addr → Sp) (dvs : List V) (t : TA) : TE := fun σ H Q => ∃ f c l, σ[j]? = some (some (.ref l)) ∧ t σ H fun vs H1 => sp f (mk c) l (vs ++ dvs) H1 Q E0
theorem pe_callM {X : Cx} {mk : Addr → NF} {cl : List (Str × Addr)} {y : Str} {j n : Nat} {g : Addr} {fd : FuncData} {ps : List Str} {sp : Addr → NF → Addr → Sp} {dvs : List V} {ds : List Value} {x : Str} {p pos : Pos} {e : Expr} {es : List Expr} {t : TA}
  (F : ∀ f c l, FnC X.prog X.w X.K X.mg X.base (Caught (mk c) [y] [some (.ref l)]) n g fd ps (sp f (mk c) l)) (hcl : ∀ c, (mk c).cl = cl) (cp : X.Ok → Caps X cl [y] [j]) (hfn : ∀ y, X.fn y = true) (hst : X.stack = X.env :: X.outer) (hf : X.env.frame = some X.env.locals)
  (hr : Room n X.A) (hg : Gl X x) (hm : X.mg x = some (.ref g)) (hk : PySem.W.keepIn X.K (.ref g) = true) (hb : Binds X.K fd ps ds) (hd : Vals dvs ds) (ha : PA X (e :: es) t) (hdb : (x == ("__debug__" : Str)) = false := by decide)
  (he : starEach (e :: es) X.env = (false, eval e X.env) :: starEach es X.env := by rfl) (hpl : (backTo pos (starEach es X.env)).any (·.1) = false := by rfl) : PE X (.Call (.Name x p) (e :: es) [] pos) (tCallM j mk sp dvs t) := by
 refine ⟨fun pins s σ H Q I h => ?_⟩
 obtain ⟨f, c, l, hz, h⟩ := h
 refine (pe_callC (F f c l) (Z := fun σ => σ[j]? = some (some (.ref l))) (fun pins σ H s I hz => ?_) hr hg hm hk hb hd ha hdb he hpl).run pins s σ H Q I ⟨hz, h⟩
 have q := Caught.made (F := mk c) (js := [j]) (by rw [hcl]; exact cp I.ok) hfn hst hf I
 have e1 : [j].map (slotAt σ) = [some (.ref l)] := by
  show [slotAt σ j] = _
  rw [slotAt_of hz]
 rw [e1] at q
 exact q
theorem d_callM {j : Nat} {mk : Addr → NF} {f c l : Addr} {dvs : List V} {dds : List D} {M : Addr → NF → Addr → List D → (D → Prop) → Prop} (e : ρ[j]? = some (.d (.adr l))) (hv : ∀ G, RelL K G dvs dds) (h : dA K hs tx ρ fun ds => M f (mk c) l (ds ++ dds) k) :
  dE K hs (tCallM j mk (fun f F l => spD K none (M f F l)) dvs tx) ρ k := fun H0 σ G H Q fr R z => by
 obtain ⟨v, h1, h2⟩ := R.var e
 cases rel_adr h2
 exact ⟨f, c, l, h1, h H0 σ G H _ fr R fun vs G1 H1 ds s1 r q => ⟨G1, ds ++ dds, k, s1.fr.none, r.append (hv _), q, fun v G2 H2 d s2 r2 q2 => z v G2 H2 d (s1.trans (s2.lift s1.fr)) r2 q2⟩⟩
theorem d_callS {Z : L2.St → Prop} (hz : ∀ σ, Z σ) {dvs : List V} {dds : List D} {M : List D → (D → Prop) → Prop} {X : XK} (hv : ∀ G, RelL K G dvs dds) (h : dA K hs tx ρ fun ds => M (ds ++ dds) k) : dE K hs (tCallC (spD K none M) dvs Z X tx) ρ k := fun H0 σ G H Q f R z =>
 ⟨hz σ, h H0 σ G H _ f R fun vs G1 H1 ds s1 r q => ⟨G1, ds ++ dds, k, s1.fr.none, r.append (hv _), q, fun v G2 H2 d s2 r2 q2 => z v G2 H2 d (s1.trans (s2.lift s1.fr)) r2 q2⟩⟩
def spN (K : PySem.W.Frag) (M : List D → (D → Prop) → Prop) (l : Addr) (ss : List Str) : List (Option V) → Sp := fun ws vs H Q _ => ws = [some (.ref l)] ∧ ∃ (G : Hp) (ds : List D) (kk : D → Prop), Fr none G H ∧ RelL K G vs ds ∧ G l = some (.lst (ss.map V.str)) ∧ M ds kk ∧ ∀ v G' H' d, Step none G H G' H' → Rel K G' v d → kk d → Q v H'
theorem d_callF {i : Nat} {f l : Addr} {F : NF} {ss : List Str} {M : List D → (D → Prop) → Prop} (e : ρ[i]? = some (.d (.clo f F l ss))) (h : dA K hs tx ρ fun ds => M ds k) : dE K hs (tCallF i f F (spN K M l ss [some (.ref l)]) tx) ρ k := fun H0 σ G H Q fr R z => by
 obtain ⟨v, h1, h2⟩ := R.var e
 cases h2 with
 | clo g1 g2 g3 =>
  exact ⟨h1, fr.sub _ _ g1, h H0 σ G H _ fr R fun vs G1 H1 ds s1 r q => ⟨s1.sub _ _ (s1.exg _ _ g1), s1.sub _ _ (s1.exg _ _ g2), rfl, G1, ds, k, s1.fr.none, r, s1.exg _ _ g3, q, fun v G2 H2 d s2 r2 q2 => z v G2 H2 d (s1.trans (s2.lift s1.fr)) r2 q2⟩⟩
theorem okN {P : Program} {w : World} {mg : Str → Option Value} {base : Heap} {f l : Addr} {F : NF} {N ps : List Str} {y : Str} {n : Nat} {ss : List Str} {M : List D → (D → Prop) → Prop} (S : NScope N ps [y] F.scope)
  (hb : ∀ (doc pm ctv : Value) (us : List Value), us.length = ps.length → bindArgs (F.fd doc pm ctv) ⟨us, []⟩ = pure (ps.zip us)) (len : ∀ ds k, M ds k → ds.length = ps.length)
  (hbody : ∀ (A : Around) (outer : List Env) (s : Shared) (H : Hp) (E : XK) (ds : List D) (kk : D → Prop), Room n (A.deeper (envF F f s.heap.objs.size)) → M ds kk →
   ∃ t, PSs (ncx CX0 P w K mg base N F f A outer s H E) F.body t ∧ dS K none t (ds.map Sl.d ++ (.d (.lst (strsOf ss)) :: List.replicate (N.length - ps.length - 1) .un)) { nx := fun _ => kk .non, rt := kk }) :
  NOk P w K mg base CX0 (n + 1) f F ps [y] (spN K M l ss) := by
 refine nok_of S hb (fun ws vs H Q E h => ?_) (fun A outer s H vs ws Q E hr hf hc hl h => ?_)
 ·obtain ⟨_, G, ds, kk, _, r, _, m, _⟩ := h
  rw [r.length]
  exact len ds kk m
 ·obtain ⟨rfl, G, ds, kk, fr, r, gl, m, z⟩ := h
  obtain ⟨t, ht, hd⟩ := hbody A outer s H E ds kk hr m
  have ln := len ds kk m
  have lv : vs.length = ps.length := r.length.trans ln
  refine ⟨t, ht, hd G H G _ G H _ fr.refl (Same.refl G) ?_ ⟨fun σ G' H' ρ s' _ _ q => z _ G' H' _ s' .non q, fun v G' H' d s' r' q => z v G' H' d s' r' q, fun _ _ _ _ _ _ _ q => q.elim, fun _ _ _ _ _ _ _ q => q.elim⟩⟩
  refine ⟨?_, fun i s' e => ?_, fun i j ds' es p q1 => ?_⟩
  ·unfold startF
   simp [lv, ln]
  ·unfold startF
   by_cases hi : i < ds.length
   ·rw [List.getElem?_append_left (by simpa using hi), List.getElem?_map] at e
    rw [List.getElem?_append_left (by rw [List.length_map, lv, ← ln]; exact hi), List.getElem?_map]
    cases q : ds[i]? with
    | none => rw [q] at e; cases e
    | some d =>
     rw [q] at e
     cases e
     obtain ⟨v, h1, h2⟩ := r.getD q
     exact ⟨some v, by rw [h1]; rfl, v, rfl, h2⟩
   ·rw [List.getElem?_append_right (by simpa using hi), List.length_map] at e
    rw [List.getElem?_append_right (by rw [List.length_map, lv, ← ln]; omega), List.length_map, lv, ← ln]
    cases ei : i - ds.length with
    | zero =>
     rw [ei] at e
     cases e
     exact ⟨some (.ref l), rfl, _, rfl, .lst gl rel_of_strs⟩
    | succ m' =>
     rw [ei] at e
     have e' : (List.replicate (N.length - ps.length - 1) Sl.un)[m']? = some s' := e
     rw [List.getElem?_replicate] at e'
     split at e'
     ·rename_i hm'
      cases e'
      refine ⟨none, ?_, trivial⟩
      show (List.replicate (N.length - ds.length - 1) none)[m']? = _
      rw [List.getElem?_replicate, if_pos (by rw [ln]; exact hm')]
     ·cases e'
  ·exfalso
   have := List.mem_of_getElem? q1
   rcases List.mem_append.mp this with q | q
   ·obtain ⟨d, _, e⟩ := List.mem_map.mp q
    cases e
   ·rcases List.mem_cons.mp q with e | q
    ·cases e
    ·have := (List.mem_replicate.mp q).2
     cases this
end
end PD
set_option Elab.async false
set_option linter.all false
set_option maxRecDepth 100000
set_option maxHeartbeats 1000000
namespace PD
open PySem L2
def namedBy (g : Addr → Option Obj) (as : List Addr) : List Addr := as.flatMap fun a => match g a with
 | some o => He.refsD o
 | none => []
def looksAt (fs ts cs : List Str) (g : Addr → Option Obj) : List Addr :=
 let at_ := fun xs : List Str => xs.map (He.ga (He.frG g [mainGlobals]))
 let t2 := namedBy g (at_ ts)
 let c2 := namedBy g (at_ cs)
 let c3 := namedBy g c2
 mainGlobals :: (at_ fs ++ namedBy g (at_ fs) ++ at_ ts ++ t2 ++ namedBy g t2 ++ at_ cs ++ c2 ++ c3 ++ namedBy g c3)
section
variable {A : (Addr → Option Obj) → List Addr} {fa : List He.Fa} {fn : List He.DefD} {ts : List He.Tab} {tf : List He.Defn} {ex : PySem.W.Frag → Bool}
def obsA (A : (Addr → Option Obj) → List Addr) (fa : List He.Fa) (fn : List He.DefD) (ts : List He.Tab) (tf : List He.Defn) (ex : PySem.W.Frag → Bool) (g : Addr → Option Obj) : He.AlX :=
 let K := He.frT g (A g)
 (He.obsT fa fn ts K, ex K && He.tabsB g tf K)
theorem says_obsA {w : World} {h : Heap} (e : obsA A fa fn ts tf ex h.get? = He.valX fn ts w) : He.SaysX fa fn ts tf ex w h (He.frT h.get? (A h.get?)) := by
 obtain ⟨e1, e2⟩ := Prod.mk.inj e
 rw [Bool.and_eq_true] at e2
 have key : ∀ p ∈ tf, _ := List.all_eq_true.mp e2.2
 have tab : ∀ p ∈ tf, ∃ o, h.get? (He.cT (He.frT h.get? (A h.get?)) p).2 = some o ∧ He.emptyTab o = true := fun p hp => by
  have k := key p hp
  rw [Bool.and_eq_true] at k
  have k2 := k.2
  split at k2
  ·rename_i o q
   exact ⟨o, q, k2⟩
  ·cases k2
 refine ⟨e1, e2.1, fun p hp => ?_, fun p hp => ?_, fun p hp => ?_⟩
 ·have k := key p hp
  rw [Bool.and_eq_true] at k
  exact k.1
 ·obtain ⟨o, q, z⟩ := tab p hp
  exact He.frT_none q z
 ·obtain ⟨o, q, z⟩ := tab p hp
  rw [q, He.emptyTab_eq z]
def hookA (A : (Addr → Option Obj) → List Addr) (fa : List He.Fa) (fn : List He.DefD) (ts : List He.Tab) (tf : List He.Defn) (ex : PySem.W.Frag → Bool) : PySem.W.Hook where
 α := He.AlX
 obs := fun s => obsA A fa fn ts tf ex s.heap.get?
 val := fun w => He.valX fn ts w
 says := (He.hookX 0 fa fn ts tf ex).says
 of := fun _ _ e => ⟨_, He.frT_in, says_obsA e⟩
 keeps := (He.hookX 0 fa fn ts tf ex).keeps
theorem obsA_eq {g : Addr → Option Obj} {s : Shared} (h : ∀ a, g a = s.heap.get? a) : obsA A fa fn ts tf ex g = (hookA A fa fn ts tf ex).obs s := by
 have e : g = s.heap.get? := funext h
 rw [e]
 rfl
end
end PD
set_option Elab.async false
set_option linter.all false
set_option maxRecDepth 100000
set_option maxHeartbeats 1000000
namespace PD
open PySem L2
def errB (K : PySem.W.Frag) (pe : Str) (xs : List Str) (j : Nat) : Bool :=
 let C := He.ga K (xs.getD j "")
 decide (PySem.W.exmOne K (.ref C) (.ref (He.ga K pe)) = some true) && (He.eqO (PySem.W.findIn K (.ref C) "__getattribute__") (some (some (.builtin "BaseException.__getattribute__"))) && (He.eqO (PySem.W.findIn K (.ref C) "__getattr__") (some none) &&
 (decide (PySem.W.subIn K (.ref C) (.type "BaseException") = some true) && (PySem.W.hasDictIn K C && (He.eqO (PySem.W.findIn K (.ref C) "__class__") (some (some (.builtin "object.__class__"))) &&
 (He.eqO (PySem.W.specialIn K (.builtin "object.__class__") "__get__") (some (some (.builtin "getset_descriptor.__get__"))) && (decide (PySem.W.takesIn K (.builtin "object.__class__") = some true) && (decide (PySem.W.mroIn K C (.type "object") = some true) &&
 ((List.range xs.length).all (fun i => decide (PySem.W.kitOne K (.ref C) (.ref (He.ga K (xs.getD i ""))) = some (decide (i = j)))) && (decide (PySem.W.kitOne K (.ref C) (.type "ValueError") = some true) && (PySem.W.keepIn K (.ref C) &&
 (PySem.W.excIn K C [.type "ValueError", .type "Exception", .type "BaseException", .type "object"] "ValueError.__new__" && decide (PySem.W.typeIn K (.ref C) = some (.type "type"))))))))))))))
end PD
set_option Elab.async false
set_option linter.all false
set_option maxRecDepth 100000
set_option maxHeartbeats 1000000
namespace PD
open PySem L2
end PD
set_option Elab.async false
set_option linter.all false
set_option maxRecDepth 100000
set_option maxHeartbeats 4000000
namespace PD
open PySem PySem.Spec PyProof.Rows L2 PySem.W
variable [Tabs]
def keyIn (ws : List Str) : Value → Bool
 | .str s _ => ws.contains s
 | _ => false
def allB (K : PySem.W.Frag) (x : Str) (ws : List Str) : Bool := match K.lookup (He.ga K x) with
 | some ⟨_, _, .dict es _, _⟩ => es.toList.all fun e => keyIn ws e.key && !e.refKey
 | _ => false
theorem all_ok {K : PySem.W.Frag} {x : Str} {ws : List Str} (h : allB K x ws = true) : ∀ p, p ∉ ws → KHas K (He.ga K x) p none := by
 intro p hp
 show PySem.W.nsIn K (He.ga K x) p = some none
 unfold allB at h
 unfold PySem.W.nsIn
 split at h
 ·rename_i es _ _ e
  rw [e]
  have h := List.all_eq_true.mp h
  have n1 : es.toList.find? (·.key.isStr p) = none := List.find?_eq_none.mpr fun d hd q => by
   have := (Bool.and_eq_true_iff.mp (h d hd)).1
   cases ek : d.key <;> rw [ek] at this q <;> first | (cases this; done) | skip
   rename_i s t
   have m : s ∈ ws := by
    have : ws.contains s = true := this
    simpa using this
   have e : s = p := by
    have : (s == p) = true := q
    exact eq_of_beq this
   exact hp (e ▸ m)
  have n2 : es.toList.any (·.refKey) = false := by
   rw [List.any_eq_false]
   intro d hd
   have := (Bool.and_eq_true_iff.mp (h d hd)).2
   simpa using this
  simp only [n1, n2]
  rfl
 ·cases h
end PD
set_option Elab.async false
set_option linter.all false
set_option maxRecDepth 100000
set_option maxHeartbeats 1000000
namespace PD
open PySem PySem.Spec PyProof.Rows L2 PySem.W
def oexB (K : PySem.W.Frag) (C : Addr) : Bool := match K.lookup C with
 | some ⟨.type "type", _, .cls cd, sl⟩ => (match cd.mro, sl.toList with
  | .ref C' :: bm, [_, _, _, _, some (.builtin n), _] => C' == C && (n == "ValueError.__new__" && (!cd.hasDel && (cd.hasDict && PySem.HandSPX.refsVE bm)))
  | _, _ => false)
 | _ => false
theorem oex_cls {K : PySem.W.Frag} {C : Addr} (q : oexB K C = true) : ∃ nm q N bs bm sn sub ab col dd k0 k1 k2 k3 k5, K.lookup C = some (excClassObj nm q C N bs bm true sn sub ab col dd k0 k1 k2 k3 k5 "ValueError.__new__") ∧ PySem.HandSPX.refsVE bm = true := by
 unfold oexB at q
 split at q
 ·rename_i dd cd sl ho
  split at q
  ·rename_i C' bm k0 k1 k2 k3 n k5 hm hs
   simp only [Bool.and_eq_true, beq_iff_eq, Bool.not_eq_true'] at q
   obtain ⟨rfl, rfl, hdel, hdct, hbm⟩ := q
   obtain ⟨nm, bs, mro, ns, qn, hd, sn, sub, ab, col, del⟩ := cd
   dsimp only at hm hdel hdct
   subst hm hdel hdct
   have hsl : sl = #[k0, k1, k2, k3, some (.builtin "ValueError.__new__"), k5] := by
    obtain ⟨l⟩ := sl
    simp only at hs
    rw [hs]
   subst hsl
   exact ⟨nm, qn, ns, bs, bm, sn, sub, ab, col, dd, k0, k1, k2, k3, k5, ho, hbm⟩
  ·cases q
 ·cases q
def errFB (K : PySem.W.Frag) (pe : Str) (xs : List Str) (j : Nat) (fld : Str) : Bool :=
 let C := He.ga K (xs.getD j "")
 decide (PySem.W.exmOne K (.ref C) (.ref (He.ga K pe)) = some true) && (He.eqO (PySem.W.findIn K (.ref C) "__getattribute__") (some (some (.builtin "BaseException.__getattribute__"))) && (He.eqO (PySem.W.findIn K (.ref C) "__getattr__") (some none) &&
 (decide (PySem.W.subIn K (.ref C) (.type "BaseException") = some true) && (PySem.W.hasDictIn K C && (He.eqO (PySem.W.findIn K (.ref C) "__class__") (some (some (.builtin "object.__class__"))) &&
 (He.eqO (PySem.W.specialIn K (.builtin "object.__class__") "__get__") (some (some (.builtin "getset_descriptor.__get__"))) && (decide (PySem.W.takesIn K (.builtin "object.__class__") = some true) && (decide (PySem.W.mroIn K C (.type "object") = some true) &&
 ((List.range xs.length).all (fun i => decide (PySem.W.kitOne K (.ref C) (.ref (He.ga K (xs.getD i ""))) = some (decide (i = j)))) && (decide (PySem.W.kitOne K (.ref C) (.type "ValueError") = some true) && (PySem.W.keepIn K (.ref C) &&
 (decide (PySem.W.typeIn K (.ref C) = some (.type "type")) && (oexB K C && (He.eqO (PySem.W.findIn K (.ref C) "__setattr__") (some (some (.builtin "object.__setattr__"))) && (He.eqO (PySem.W.findIn K (.ref C) fld) (some none) &&
 (He.eqO (PySem.W.findIn K (.ref C) "__init__") (some (some (.ref (He.ma K C "__init__")))) && decide (PySem.W.typeIn K (.ref (He.ma K C "__init__")) = some (.type "function"))))))))))))))))))
end PD
set_option Elab.async false
set_option linter.all false
set_option maxRecDepth 100000
set_option maxHeartbeats 1000000
namespace Pr
open PySem L2 PD
variable [Tabs]
def top (i : Nat) : Stmt := PySem.Challenge.pw_partdeeds_k20_texts_that_write_no_tree.main.body.getD i (.Pass ⟨0, 0, 0, 0⟩)
abbrev s_size_of : Stmt := top 12
abbrev N_size_of : List Str := ["nest", "arms_of", "fits", "around", "sorts", "total", "sort", "arm", "inner"]
theorem sc_size_of : FnScope N_size_of ["nest", "arms_of", "fits", "around"] (defScope s_size_of) := ⟨rfl, rfl, rfl, by decide +kernel, rfl, by decide +kernel, by decide +kernel⟩
abbrev s_body_arms : Stmt := top 26
abbrev N_body_arms : List Str := ["word"]
theorem sc_body_arms : FnScope N_body_arms ["word"] (defScope s_body_arms) := ⟨rfl, rfl, rfl, by decide +kernel, rfl, by decide +kernel, by decide +kernel⟩
abbrev s_is_number : Stmt := top 21
abbrev N_is_number : List Str := ["worth", "greatest"]
theorem sc_is_number : FnScope N_is_number ["worth", "greatest"] (defScope s_is_number) := ⟨rfl, rfl, rfl, by decide +kernel, rfl, by decide +kernel, by decide +kernel⟩
abbrev s_fits_body : Stmt := top 27
abbrev N_fits_body : List Str := ["sort", "arm"]
theorem sc_fits_body : FnScope N_fits_body ["sort", "arm"] (defScope s_fits_body) := ⟨rfl, rfl, rfl, by decide +kernel, rfl, by decide +kernel, by decide +kernel⟩
abbrev s_is_body : Stmt := top 28
abbrev N_is_body : List Str := ["body"]
theorem sc_is_body : FnScope N_is_body ["body"] (defScope s_is_body) := ⟨rfl, rfl, rfl, by decide +kernel, rfl, by decide +kernel, by decide +kernel⟩
abbrev s_is_ask : Stmt := top 32
abbrev N_is_ask : List Str := ["row"]
theorem sc_is_ask : FnScope N_is_ask ["row"] (defScope s_is_ask) := ⟨rfl, rfl, rfl, by decide +kernel, rfl, by decide +kernel, by decide +kernel⟩
abbrev s_is_deed : Stmt := top 33
abbrev N_is_deed : List Str := ["row"]
theorem sc_is_deed : FnScope N_is_deed ["row"] (defScope s_is_deed) := ⟨rfl, rfl, rfl, by decide +kernel, rfl, by decide +kernel, by decide +kernel⟩
abbrev s_is_cell : Stmt := top 34
abbrev N_is_cell : List Str := ["row"]
theorem sc_is_cell : FnScope N_is_cell ["row"] (defScope s_is_cell) := ⟨rfl, rfl, rfl, by decide +kernel, rfl, by decide +kernel, by decide +kernel⟩
abbrev s_are_rows : Stmt := top 35
abbrev N_are_rows : List Str := ["rows", "most", "is_row", "row", "names"]
theorem sc_are_rows : FnScope N_are_rows ["rows", "most", "is_row"] (defScope s_are_rows) := ⟨rfl, rfl, rfl, by decide +kernel, rfl, by decide +kernel, by decide +kernel⟩
abbrev s_are_asks : Stmt := top 36
abbrev N_are_asks : List Str := ["rows", "deeds", "given", "deed", "row"]
theorem sc_are_asks : FnScope N_are_asks ["rows", "deeds"] (defScope s_are_asks) := ⟨rfl, rfl, rfl, by decide +kernel, rfl, by decide +kernel, by decide +kernel⟩
abbrev s_fault_of : Stmt := top 37
abbrev N_fault_of : List Str := ["part"]
theorem sc_fault_of : FnScope N_fault_of ["part"] (defScope s_fault_of) := ⟨rfl, rfl, rfl, by decide +kernel, rfl, by decide +kernel, by decide +kernel⟩
abbrev s_check_part : Stmt := top 38
abbrev N_check_part : List Str := ["part", "why"]
theorem sc_check_part : FnScope N_check_part ["part"] (defScope s_check_part) := ⟨rfl, rfl, rfl, by decide +kernel, rfl, by decide +kernel, by decide +kernel⟩
abbrev s_written_nest : Stmt := top 13
abbrev N_written_nest : List Str := ["nest", "words", "arm"]
theorem sc_written_nest : FnScope N_written_nest ["nest"] (defScope s_written_nest) := ⟨rfl, rfl, rfl, by decide +kernel, rfl, by decide +kernel, by decide +kernel⟩
abbrev s_tree_arms : Stmt := top 43
abbrev N_tree_arms : List Str := ["word"]
theorem sc_tree_arms : FnScope N_tree_arms ["word"] (defScope s_tree_arms) := ⟨rfl, rfl, rfl, by decide +kernel, rfl, by decide +kernel, by decide +kernel⟩
abbrev s_check_shelf : Stmt := top 44
abbrev N_check_shelf : List Str := ["shelf", "part", "names"]
theorem sc_check_shelf : FnScope N_check_shelf ["shelf"] (defScope s_check_shelf) := ⟨rfl, rfl, rfl, by decide +kernel, rfl, by decide +kernel, by decide +kernel⟩
abbrev s_check_tree : Stmt := top 45
abbrev N_check_tree : List Str := ["shelf", "tree", "names", "part", "fits_tree"]
theorem sc_check_tree : FnScope N_check_tree ["shelf", "tree"] (defScope s_check_tree) := ⟨rfl, rfl, rfl, by decide +kernel, rfl, by decide +kernel, by decide +kernel⟩
def kindsS : List Str := ["number", "truth", "list"]
def deedsS : List Str := ["a", "b", "c", "d", "e", "f", "g", "h"]
def cellsS : List Str := ["p", "q", "r", "s"]
def partsS : List Str := ["A", "B", "C", "D", "E", "F"]
def armsTab : List (Str × List Str) := [("number", ["number"]), ("truth", ["truth"]), ("empty", []), ("argument", []), ("cell", ["cell"]), ("plus", ["nest", "nest"]), ("less", ["nest", "nest"]), ("times", ["nest", "nest"]),
 ("below", ["nest", "nest"]), ("same", ["nest", "nest"]), ("not", ["nest"]), ("and", ["nest", "nest"]), ("if", ["nest", "nest", "nest"]), ("put", ["nest", "nest"]), ("first", ["nest"]), ("rest", ["nest"]), ("many", ["nest"]),
 ("set", ["cell", "nest"]), ("then", ["nest", "nest"]), ("call", ["deed", "nest"])]
def fixTab : List (Str × List Str × Str) := [("number", [], "number"), ("truth", [], "truth"), ("empty", [], "list"), ("plus", ["number", "number"], "number"), ("less", ["number", "number"], "number"), ("times", ["number", "number"], "number"),
 ("below", ["number", "number"], "truth"), ("not", ["truth"], "truth"), ("and", ["truth", "truth"], "truth"), ("put", ["number", "list"], "list"), ("first", ["list"], "number"), ("rest", ["list"], "list"), ("many", ["list"], "number")]
def treeTab : List (Str × List Str) := [("part", ["part"]), ("with", ["nest", "nest"]), ("without", ["nest", "deed"]), ("also", ["nest", "deed", "deed"]), ("renamed", ["nest", "deed", "deed"]), ("over", ["nest", "part"])]
structure Con (K : PySem.W.Frag) (mg : Str → Option Value) (x : Str) (d : D) : Prop where
 ex : ∃ a, mg x = some (.ref a) ∧ ∀ G, Rel K G (.ref a) d
structure KTab (w : World) (K : PySem.W.Frag) (mg : Str → Option Value) (x : Str) (tab : List (Str × D)) : Prop where
 ex : ∃ a es n, mg x = some (.ref a) ∧ KDict K w a es n ∧ ∀ p ∈ tab, KHas K a p.1 (some p.2)
abbrev s_misplaced : Stmt := top 14
abbrev N_misplaced : List Str := ["words", "arms_of", "fits_word", "awaited", "at", "word", "sort"]
theorem sc_misplaced : FnScope N_misplaced ["words", "arms_of", "fits_word"] (defScope s_misplaced) := ⟨rfl, rfl, rfl, by decide +kernel, rfl, by decide +kernel, by decide +kernel⟩
abbrev s_read_nest : Stmt := top 15
abbrev N_read_nest : List Str := ["words", "arms_of", "worth_of", "read", "word", "sorts", "many"]
theorem sc_read_nest : FnScope N_read_nest ["words", "arms_of", "worth_of"] (defScope s_read_nest) := ⟨rfl, rfl, rfl, by decide +kernel, rfl, by decide +kernel, by decide +kernel⟩
abbrev s_is_number_word : Stmt := top 49
abbrev N_is_number_word : List Str := ["word", "figures"]
theorem sc_is_number_word : FnScope N_is_number_word ["word"] (defScope s_is_number_word) := ⟨rfl, rfl, rfl, by decide +kernel, rfl, by decide +kernel, by decide +kernel⟩
abbrev s_fits_word : Stmt := top 50
abbrev N_fits_word : List Str := ["sort", "word"]
theorem sc_fits_word : FnScope N_fits_word ["sort", "word"] (defScope s_fits_word) := ⟨rfl, rfl, rfl, by decide +kernel, rfl, by decide +kernel, by decide +kernel⟩
abbrev s_worth_of_word : Stmt := top 51
abbrev N_worth_of_word : List Str := ["word"]
theorem sc_worth_of_word : FnScope N_worth_of_word ["word"] (defScope s_worth_of_word) := ⟨rfl, rfl, rfl, by decide +kernel, rfl, by decide +kernel, by decide +kernel⟩
abbrev s_written_tree : Stmt := top 53
abbrev N_written_tree : List Str := ["shelf", "tree"]
theorem sc_written_tree : FnScope N_written_tree ["shelf", "tree"] (defScope s_written_tree) := ⟨rfl, rfl, rfl, by decide +kernel, rfl, by decide +kernel, by decide +kernel⟩
abbrev s_read_tree : Stmt := top 54
abbrev N_read_tree : List Str := ["shelf", "text", "words", "place", "tree"]
theorem sc_read_tree : FnScope N_read_tree ["shelf", "text"] (defScope s_read_tree) := ⟨rfl, rfl, rfl, by decide +kernel, rfl, by decide +kernel, by decide +kernel⟩
structure KAll (K : PySem.W.Frag) (mg : Str → Option Value) (x : Str) (ws : List Str) : Prop where
 no : ∀ a, mg x = some (.ref a) → ∀ p, p ∉ ws → KHas K a p none
structure Txt (w : World) (K : PySem.W.Frag) (mg : Str → Option Value) : Prop where
 KINDS : Con K mg "KINDS" (.tup (strsOf kindsS))
 DEEDS : Con K mg "DEED_NAMES" (.tup (strsOf deedsS))
 CELLS : Con K mg "CELL_NAMES" (.tup (strsOf cellsS))
 PARTS : Con K mg "PART_NAMES" (.tup (strsOf partsS))
 ARMS : KTab w K mg "BODY_ARMS" (armsTab.map fun p => (p.1, .tup (strsOf p.2)))
 TREES : KTab w K mg "TREE_ARMS" (treeTab.map fun p => (p.1, .tup (strsOf p.2)))
 ARMSN : KAll K mg "BODY_ARMS" (armsTab.map (·.1))
 TREESN : KAll K mg "TREE_ARMS" (treeTab.map (·.1))
 TRUTHS : Con K mg "TRUTHS" (.tup (strsOf ["True", "False"]))
 FIGS : ∃ t, mg "MOST_FIGURES" = some (.int 3 t)
 GREAT : ∃ t, mg "GREATEST_IN_BODIES" = some (.int 99 t)
 WORDS : ∃ t, mg "MOST_WORDS" = some (.int 60 t)
 AROUND : ∃ t, mg "MOST_AROUND" = some (.int 9 t)
 MDEEDS : ∃ t, mg "MOST_DEEDS" = some (.int 8 t)
 MCELLS : ∃ t, mg "MOST_CELLS" = some (.int 4 t)
 MPARTS : ∃ t, mg "MOST_PARTS" = some (.int 6 t)
 MTREES : ∃ t, mg "MOST_TREES" = some (.int 40 t)
 z_enumerate : mg "enumerate" = none
 z_len : mg "len" = none
 z_isinstance : mg "isinstance" = none
 z_tuple : mg "tuple" = none
 z_int : mg "int" = none
 z_bool : mg "bool" = none
 z_str : mg "str" = none
 z_zip : mg "zip" = none
 z_any : mg "any" = none
 z_set : mg "set" = none
 z_sorted : mg "sorted" = none
 f_misplaced : DefT K mg "misplaced" s_misplaced
 f_read_nest : DefT K mg "read_nest" s_read_nest
 f_is_number_word : DefT K mg "is_number_word" s_is_number_word
 f_fits_word : DefT K mg "fits_word" s_fits_word
 f_worth_of_word : DefT K mg "worth_of_word" s_worth_of_word
 f_written_tree : DefT K mg "written_tree" s_written_tree
 f_read_tree : DefT K mg "read_tree" s_read_tree
 f_size_of : DefV K mg "size_of" s_size_of [.int 0]
 f_body_arms : DefT K mg "body_arms" s_body_arms
 f_is_number : DefT K mg "is_number" s_is_number
 f_fits_body : DefT K mg "fits_body" s_fits_body
 f_is_body : DefT K mg "is_body" s_is_body
 f_is_ask : DefT K mg "is_ask" s_is_ask
 f_is_deed : DefT K mg "is_deed" s_is_deed
 f_is_cell : DefT K mg "is_cell" s_is_cell
 f_are_rows : DefT K mg "are_rows" s_are_rows
 f_are_asks : DefT K mg "are_asks" s_are_asks
 f_fault_of : DefT K mg "fault_of" s_fault_of
 f_check_part : DefT K mg "check_part" s_check_part
 f_written_nest : DefT K mg "written_nest" s_written_nest
 f_tree_arms : DefT K mg "tree_arms" s_tree_arms
 f_check_shelf : DefT K mg "check_shelf" s_check_shelf
 f_check_tree : DefT K mg "check_tree" s_check_tree
local macro_rules | `(tactic| walk_at "d1") => `(tactic| (first
 | with_reducible refine s_seq ?_ | with_reducible refine s_ret ?_ | with_reducible refine s_if ?_
 | with_reducible refine d_var (by with_unfolding_all rfl) ?_ | with_reducible refine d_cK (by assumption) ?_ | with_reducible refine d_c (by with_unfolding_all rfl) ?_
 | with_reducible refine d_op ?_ | with_reducible refine d_test ?_ | with_reducible refine d_cons ?_ | with_reducible refine d_nil ?_ | with_reducible refine d_cb ?_ | with_reducible refine d_call ?_ | with_reducible refine d_callP ?_ | with_reducible refine d_callV (fun _ => RelL.cons Rel.int RelL.nil) ?_
 | with_reducible refine br_t (by assumption) ?_ | with_reducible refine br_f (by assumption) ?_ | with_reducible refine br_t (by with_unfolding_all rfl) ?_ | with_reducible refine br_f (by with_unfolding_all rfl) ?_
 | with_reducible refine ⟨_, rfl, ?_⟩ | with_reducible refine ⟨_, _, rfl, ?_⟩ | with_reducible refine ⟨_, _, _, _, rfl, ?_⟩ | with_reducible refine ⟨_, rfl, ?_, ?_⟩
 | with_reducible refine r_I0 (by with_unfolding_all rfl) ?_ | with_reducible refine r_eqS ?_ | with_reducible refine r_eqI ?_ | with_reducible refine r_neI ?_ | with_reducible refine r_neS ?_ | with_reducible refine r_isN ?_ | with_reducible refine r_notN ?_ | with_reducible refine r_inT ?_ | with_reducible refine r_inL ?_
 | with_reducible refine r_ix (.inr (r_ixT (by with_unfolding_all rfl) ?_)) | with_reducible refine r_ix (.inl (r_ixL (by with_unfolding_all rfl) ?_)) | with_reducible refine c_lenS (.inr rfl) ?_ | with_reducible refine c_lenS (.inl rfl) ?_
 | with_reducible refine s_next ?_ | with_reducible refine d_andV ?_ | with_reducible refine d_orV ?_ | with_reducible refine d_notV ?_
 | with_reducible refine d_un ?_ | with_reducible refine d_tB ?_ | with_reducible refine d_and ?_ | with_reducible refine d_or ?_ | with_reducible refine d_not ?_
 | with_reducible refine d_yes ?_ | with_reducible refine d_ifE ?_
 | with_reducible refine d_tup ?_ | with_reducible refine d_lst ?_ | with_reducible refine d_slT1 ?_ | with_reducible refine d_slT3 ?_ | with_reducible refine d_slT13 ?_ | with_reducible refine d_slT ?_ | with_reducible refine o_no ?_ | with_reducible refine o_part ?_ | with_reducible refine d_chain ?_ | with_reducible refine d_truth ?_
 | with_reducible refine s_setL ?_ | with_reducible refine s_set ?_ | with_reducible refine s_for ?_ | with_reducible refine i_zipT ?_ | with_reducible refine i_tup ?_ | with_reducible refine i_list ?_
 | with_reducible refine g_name ?_ | with_reducible refine g_nameV (by decide) ?_ | with_reducible refine gs_cons ?_ | with_reducible refine gs_nil ?_ | ((with_reducible refine g_tid ?_); refine g_tup rfl ?_) | with_reducible refine s_aug (by with_unfolding_all rfl) ?_ | with_reducible refine s_asg ?_ | with_reducible refine s_drop ?_
 | with_reducible refine d_callLP (by with_unfolding_all rfl) ?_ | with_reducible refine d_lc ?_ | with_reducible refine forW_cons ?_ | with_reducible refine forW_nil ?_ | ((with_reducible refine forW_id ?_); refine forW_pair ?_) | ((with_reducible refine forW_id ?_); refine forW_pnil ?_) | with_reducible refine lcW_cons ?_ | with_reducible refine lcW_nil ?_
 | with_reducible refine d_dget ?_ | with_reducible refine d_dget1 ?_ | with_reducible refine d_dget2 ?_ | with_reducible refine d_kget ?_
 | with_reducible refine r_eq (by with_unfolding_all rfl) (by with_unfolding_all rfl) (by with_unfolding_all rfl) ?_ | with_reducible refine r_ne (by with_unfolding_all rfl) (by with_unfolding_all rfl) (by with_unfolding_all rfl) ?_
 | with_reducible refine u_I (by with_unfolding_all rfl) ?_
 | with_reducible refine c_bool (by with_unfolding_all rfl) ?_ | with_reducible refine c_int (by with_unfolding_all rfl) ?_ | with_reducible refine c_str (by with_unfolding_all rfl) ?_ | with_reducible refine c_tup (by with_unfolding_all rfl) ?_ | with_reducible refine c_lst (by with_unfolding_all rfl) ?_
 | with_reducible refine And.intro (show List.length _ ≤ 100000 by simp) ?_ | with_reducible refine truOk_tup ?_ | with_reducible refine truOk_lst ?_ | with_reducible assumption | with_reducible refine ⟨fun _ => ?_, fun _ => ?_⟩ | dsimp only | fail "stop"))
local macro_rules | `(tactic| walk_at "d") => `(tactic| repeat' walk_at "d1")
section
variable {P : Program} {w : World} {K : PySem.W.Frag} {mg : Str → Option Value} {base : Heap}
def M_is_ask : List D → (D → Prop) → Prop := fun ds k => ∃ x t u : Str, ds = [.tup [.str x, .str t, .str u]] ∧ k (.bl (decide (x ∈ deedsS) && (decide (t ∈ kindsS) && decide (u ∈ kindsS))))
theorem ok_is_ask (T : Txt w K mg) : Cal P w K mg base 1 "is_ask" ["row"] none M_is_ask := by
 refine okF T.f_is_ask sc_is_ask (fun _ _ _ _ _ _ us hl => match us, hl with | [_], _ => rfl) (fun ds k h => ?_) (fun f cdv A outer s H E ds kk hr h => ?_)
 ·obtain ⟨_, _, _, rfl, _⟩ := h
  rfl
 obtain ⟨x, t, u, rfl, q⟩ := h
 obtain ⟨aK, gK, rK⟩ := T.KINDS.ex
 obtain ⟨aD, gD, rD⟩ := T.DEEDS.ex
 refine ⟨_, (pss_one (ps_ret (pe_and (pe_cmpR op_eq (pe_callB (r := rLenQ K) (id := "len")  call_len_seq (by rfl) T.z_len PySem.boot_len (pa_cons (pv 0) pa_nil)) pe_int (nomark _)) (pe_and (pe_cmpR (r := rIn K false) op_in_seq (pe_ix (r := rIx K) ix_seq (pv 0) pe_int (fun _ _ => rfl)) (pe_gref rfl gD) rfl) (pe_and (pe_cmpR (r := rIn K false) op_in_seq (pe_ix (r := rIx K) ix_seq (pv 0) pe_int (fun _ _ => rfl)) (pe_gref rfl gK) rfl) (pe_one (pe_cmpR (r := rIn K false) op_in_seq (pe_ix (r := rIx K) ix_seq (pv 0) pe_int (fun _ _ => rfl)) (pe_gref rfl gK) rfl))))))), ?_⟩
 try dsimp only [cxOf]
 walk_at "d"
 all_goals (show kk _; simp_all)
def M_is_cell : List D → (D → Prop) → Prop := fun ds k => ∃ x t : Str, ds = [.tup [.str x, .str t]] ∧ k (.bl (decide (x ∈ cellsS) && decide (t ∈ kindsS)))
theorem ok_is_cell (T : Txt w K mg) : Cal P w K mg base 1 "is_cell" ["row"] none M_is_cell := by
 refine okF T.f_is_cell sc_is_cell (fun _ _ _ _ _ _ us hl => match us, hl with | [_], _ => rfl) (fun ds k h => ?_) (fun f cdv A outer s H E ds kk hr h => ?_)
 ·obtain ⟨_, _, rfl, _⟩ := h
  rfl
 obtain ⟨x, t, rfl, q⟩ := h
 obtain ⟨aK, gK, rK⟩ := T.KINDS.ex
 obtain ⟨aC, gC, rC⟩ := T.CELLS.ex
 refine ⟨_, (pss_one (ps_ret (pe_and (pe_cmpR op_eq (pe_callB (r := rLenQ K) (id := "len")  call_len_seq (by rfl) T.z_len PySem.boot_len (pa_cons (pv 0) pa_nil)) pe_int (nomark _)) (pe_and (pe_cmpR (r := rIn K false) op_in_seq (pe_ix (r := rIx K) ix_seq (pv 0) pe_int (fun _ _ => rfl)) (pe_gref rfl gC) rfl) (pe_one (pe_cmpR (r := rIn K false) op_in_seq (pe_ix (r := rIx K) ix_seq (pv 0) pe_int (fun _ _ => rfl)) (pe_gref rfl gK) rfl)))))), ?_⟩
 try dsimp only [cxOf]
 walk_at "d"
 all_goals (show kk _; simp_all)
def M_is_number : List D → (D → Prop) → Prop := fun ds k => ∃ n g : Int, ds = [.int n, .int g] ∧ k (.bl (decide (-g ≤ n) && decide (n ≤ g)))
theorem ok_is_number (T : Txt w K mg) : Cal P w K mg base 1 "is_number" ["worth", "greatest"] none M_is_number := by
 refine okF T.f_is_number sc_is_number (fun _ _ _ _ _ _ us hl => match us, hl with | [_, _], _ => rfl) (fun ds k h => ?_) (fun f cdv A outer s H E ds kk hr h => ?_)
 ·obtain ⟨_, _, rfl, _⟩ := h
  rfl
 obtain ⟨n, g, rfl, q⟩ := h
 refine ⟨_, (pss_cons (ps_if (PW.pt (pw_or (pt_val (pe_callB (r := rIsi K) (id := "isinstance")  call_isi (by rfl) T.z_isinstance (by decide +kernel) (pa_cons (pv 0) (pa_cons (pe_bty (n := "bool") rfl T.z_bool (by decide +kernel)) pa_nil)))) (pw_or1 (pt_not (pt_val (pe_callB (r := rIsi K) (id := "isinstance")  call_isi (by rfl) T.z_isinstance (by decide +kernel) (pa_cons (pv 0) (pa_cons (pe_bty (n := "int") rfl T.z_int (by decide +kernel)) pa_nil)))))))) (pss_one (ps_ret pe_bl)) pss_nil)
   (pss_one (ps_ret (pe_chain op_le op_le (pe_un un_neg (pv 1)) (pv 0) (pv 1))))), ?_⟩
 try dsimp only [cxOf]
 walk_at "d"
 all_goals (show kk _; simp_all)
def M_body_arms : List D → (D → Prop) → Prop := fun ds k => ∃ x ss, ds = [.str x] ∧ (x, ss) ∈ armsTab ∧ k (.tup (strsOf ss))
theorem ok_body_arms (T : Txt w K mg) : Cal P w K mg base 1 "body_arms" ["word"] none M_body_arms := by
 refine okF T.f_body_arms sc_body_arms (fun _ _ _ _ _ _ us hl => match us, hl with | [_], _ => rfl) (fun ds k h => ?_) (fun f cdv A outer s H E ds kk hr h => ?_)
 ·obtain ⟨_, _, rfl, _⟩ := h
  rfl
 obtain ⟨x, ss, rfl, hm, q⟩ := h
 obtain ⟨aA, es, n, gA, kdA, hA⟩ := T.ARMS.ex
 refine ⟨_, (pss_cons (ps_if (pt_not (pt_val (pe_callB (r := rIsi K) (id := "isinstance")  call_isi (by rfl) T.z_isinstance (by decide +kernel) (pa_cons (pv 0) (pa_cons (pe_bty (n := "str") rfl T.z_str (by decide +kernel)) pa_nil))))) (pss_one (ps_ret pe_non)) pss_nil)
   (pss_one (ps_ret (kd_get1 kdA rfl gA (pv 0) ⟨rfl, rfl, rfl, rfl⟩)))), ?_⟩
 try dsimp only [cxOf]
 walk_at "d"
 refine ⟨x, some (.tup (strsOf ss)), rfl, hA _ (List.mem_map.mpr ⟨_, hm, rfl⟩), q⟩
end
inductive B where
 | num (n : Int) | tru (b : Bool) | emp | arg | cel (c : Str) | set (c : Str) (x : B) | call (d : Str) (x : B) | op1 (w : Str) (x : B) | op2 (w : Str) (x y : B) | ite (x y z : B)
def B.toD : B → D
 | .num n => .tup [.str "number", .int n]
 | .tru b => .tup [.str "truth", .bl b]
 | .emp => .tup [.str "empty"]
 | .arg => .tup [.str "argument"]
 | .cel c => .tup [.str "cell", .str c]
 | .set c x => .tup [.str "set", .str c, x.toD]
 | .call d x => .tup [.str "call", .str d, x.toD]
 | .op1 w x => .tup [.str w, x.toD]
 | .op2 w x y => .tup [.str w, x.toD, y.toD]
 | .ite x y z => .tup [.str "if", x.toD, y.toD, z.toD]
def B.size : B → Nat
 | .set _ x => x.size + 1
 | .call _ x => x.size + 1
 | .op1 _ x => x.size + 1
 | .op2 _ x y => x.size + y.size + 1
 | .ite x y z => x.size + y.size + z.size + 1
 | _ => 1
def B.depth : B → Nat
 | .set _ x => x.depth + 1
 | .call _ x => x.depth + 1
 | .op1 _ x => x.depth + 1
 | .op2 _ x y => max x.depth y.depth + 1
 | .ite x y z => max (max x.depth y.depth) z.depth + 1
 | _ => 1
def w1S : List Str := ["not", "first", "rest", "many"]
def w2S : List Str := ["plus", "less", "times", "below", "same", "and", "put", "then"]
def B.ok : B → Prop
 | .num n => -99 ≤ n ∧ n ≤ 99
 | .cel c => c ∈ cellsS
 | .set c x => c ∈ cellsS ∧ x.ok
 | .call d x => d ∈ deedsS ∧ x.ok
 | .op1 w x => w ∈ w1S ∧ x.ok
 | .op2 w x y => w ∈ w2S ∧ x.ok ∧ y.ok
 | .ite x y z => x.ok ∧ y.ok ∧ z.ok
 | _ => True
section
variable {P : Program} {w : World} {K : PySem.W.Frag} {mg : Str → Option Value} {base : Heap}
def M_fits : List D → (D → Prop) → Prop := fun ds k => (∃ n : Int, ds = [.str "number", .int n] ∧ k (.bl (decide (-99 ≤ n) && decide (n ≤ 99)))) ∨ (∃ b : Bool, ds = [.str "truth", .bl b] ∧ k (.bl true)) ∨
 (∃ c : Str, ds = [.str "cell", .str c] ∧ k (.bl (decide (c ∈ cellsS)))) ∨ (∃ c : Str, ds = [.str "deed", .str c] ∧ k (.bl (decide (c ∈ deedsS))))
theorem ok_fits_body (T : Txt w K mg) : Cal P w K mg base 2 "fits_body" ["sort", "arm"] none M_fits := by
 have C_is_number := ok_is_number (P := P) (base := base) T
 refine okF T.f_fits_body sc_fits_body (fun _ _ _ _ _ _ us hl => match us, hl with | [_, _], _ => rfl) (fun ds k h => ?_) (fun f cdv A outer s H E ds kk hr h => ?_)
 ·rcases h with ⟨_, rfl, _⟩ | ⟨_, rfl, _⟩ | ⟨_, rfl, _⟩ | ⟨_, rfl, _⟩ <;> rfl
 obtain ⟨aC, gC, rC⟩ := T.CELLS.ex
 obtain ⟨aD, gD, rD⟩ := T.DEEDS.ex
 obtain ⟨tg, gG⟩ := T.GREAT
 refine ⟨_, (pss_cons (ps_if (pt_cmpR op_eq (pv 0) pe_str (nomark _)) (pss_one (ps_ret (pe_calK (K := K) rfl C_is_number (hr.mono (by first | decide | omega)) rfl (pa_cons (pv 1) (pa_cons (pe_gint rfl gG) pa_nil))))) pss_nil)
   (pss_cons (ps_if (pt_cmpR op_eq (pv 0) pe_str (nomark _)) (pss_one (ps_ret (pe_callB (r := rIsi K) (id := "isinstance")  call_isi (by rfl) T.z_isinstance (by decide +kernel) (pa_cons (pv 1) (pa_cons (pe_bty (n := "bool") rfl T.z_bool (by decide +kernel)) pa_nil))))) pss_nil)
   (pss_cons (ps_if (pt_cmpR op_eq (pv 0) pe_str (nomark _)) (pss_one (ps_ret (pe_cmpR (r := rIn K false) op_in_seq (pv 1) (pe_gref rfl gC) rfl))) pss_nil)
   (pss_one (ps_ret (pe_cmpR (r := rIn K false) op_in_seq (pv 1) (pe_gref rfl gD) rfl)))))), ?_⟩
 try dsimp only [cxOf]
 rcases h with ⟨n, rfl, q⟩ | ⟨n, rfl, q⟩ | ⟨n, rfl, q⟩ | ⟨n, rfl, q⟩
 ·walk_at "d"
  exact ⟨n, 99, rfl, q⟩
 ·walk_at "d"
  exact q
 ·walk_at "d"
  exact q
 ·walk_at "d"
  exact q
end
end Pr
set_option Elab.async false
set_option linter.all false
set_option maxRecDepth 100000
set_option maxHeartbeats 0
namespace Pr
open PySem PySem.Spec PyProof.Rows L2 PD
def dd_size_of : He.DefD := ⟨("size_of", none), "size_of", "size_of", defArgs (top 12), defBody (top 12), defScope (top 12), [.int 0], []⟩
def dd_written_nest : He.DefD := ⟨("written_nest", none), "written_nest", "written_nest", defArgs (top 13), defBody (top 13), defScope (top 13), [], []⟩
def dd_misplaced : He.DefD := ⟨("misplaced", none), "misplaced", "misplaced", defArgs (top 14), defBody (top 14), defScope (top 14), [], []⟩
def dd_read_nest : He.DefD := ⟨("read_nest", none), "read_nest", "read_nest", defArgs (top 15), defBody (top 15), defScope (top 15), [], []⟩
def dd_is_number : He.DefD := ⟨("is_number", none), "is_number", "is_number", defArgs (top 21), defBody (top 21), defScope (top 21), [], []⟩
def dd_body_arms : He.DefD := ⟨("body_arms", none), "body_arms", "body_arms", defArgs (top 26), defBody (top 26), defScope (top 26), [], []⟩
def dd_fits_body : He.DefD := ⟨("fits_body", none), "fits_body", "fits_body", defArgs (top 27), defBody (top 27), defScope (top 27), [], []⟩
def dd_is_body : He.DefD := ⟨("is_body", none), "is_body", "is_body", defArgs (top 28), defBody (top 28), defScope (top 28), [], []⟩
def dd_is_ask : He.DefD := ⟨("is_ask", none), "is_ask", "is_ask", defArgs (top 32), defBody (top 32), defScope (top 32), [], []⟩
def dd_is_deed : He.DefD := ⟨("is_deed", none), "is_deed", "is_deed", defArgs (top 33), defBody (top 33), defScope (top 33), [], []⟩
def dd_is_cell : He.DefD := ⟨("is_cell", none), "is_cell", "is_cell", defArgs (top 34), defBody (top 34), defScope (top 34), [], []⟩
def dd_are_rows : He.DefD := ⟨("are_rows", none), "are_rows", "are_rows", defArgs (top 35), defBody (top 35), defScope (top 35), [], []⟩
def dd_are_asks : He.DefD := ⟨("are_asks", none), "are_asks", "are_asks", defArgs (top 36), defBody (top 36), defScope (top 36), [], []⟩
def dd_fault_of : He.DefD := ⟨("fault_of", none), "fault_of", "fault_of", defArgs (top 37), defBody (top 37), defScope (top 37), [], []⟩
def dd_check_part : He.DefD := ⟨("check_part", none), "check_part", "check_part", defArgs (top 38), defBody (top 38), defScope (top 38), [], []⟩
def dd_tree_arms : He.DefD := ⟨("tree_arms", none), "tree_arms", "tree_arms", defArgs (top 43), defBody (top 43), defScope (top 43), [], []⟩
def dd_check_shelf : He.DefD := ⟨("check_shelf", none), "check_shelf", "check_shelf", defArgs (top 44), defBody (top 44), defScope (top 44), [], []⟩
def dd_check_tree : He.DefD := ⟨("check_tree", none), "check_tree", "check_tree", defArgs (top 45), defBody (top 45), defScope (top 45), [], []⟩
def dd_is_number_word : He.DefD := ⟨("is_number_word", none), "is_number_word", "is_number_word", defArgs (top 49), defBody (top 49), defScope (top 49), [], []⟩
def dd_fits_word : He.DefD := ⟨("fits_word", none), "fits_word", "fits_word", defArgs (top 50), defBody (top 50), defScope (top 50), [], []⟩
def dd_worth_of_word : He.DefD := ⟨("worth_of_word", none), "worth_of_word", "worth_of_word", defArgs (top 51), defBody (top 51), defScope (top 51), [], []⟩
def dd_written_tree : He.DefD := ⟨("written_tree", none), "written_tree", "written_tree", defArgs (top 53), defBody (top 53), defScope (top 53), [], []⟩
def dd_read_tree : He.DefD := ⟨("read_tree", none), "read_tree", "read_tree", defArgs (top 54), defBody (top 54), defScope (top 54), [], []⟩
def dd_law_mix : He.DefD := ⟨("_law_mix", none), "_law_mix", "_law_mix", defArgs (top 56), defBody (top 56), defScope (top 56), [], []⟩
def dd_law_next : He.DefD := ⟨("_law_next", none), "_law_next", "_law_next", defArgs (top 57), defBody (top 57), defScope (top 57), [], []⟩
def dd_law_alike : He.DefD := ⟨("_law_alike", none), "_law_alike", "_law_alike", defArgs (top 58), defBody (top 58), defScope (top 58), [], []⟩
def dd_law_leaf : He.DefD := ⟨("_law_leaf", none), "_law_leaf", "_law_leaf", defArgs (top 59), defBody (top 59), defScope (top 59), [], []⟩
def dd_law_call : He.DefD := ⟨("_law_call", none), "_law_call", "_law_call", defArgs (top 60), defBody (top 60), defScope (top 60), [], []⟩
def dd_law_body : He.DefD := ⟨("_law_body", none), "_law_body", "_law_body", defArgs (top 61), defBody (top 61), defScope (top 61), [], []⟩
def dd_law_reckons : He.DefD := ⟨("_law_reckons", none), "_law_reckons", "_law_reckons", defArgs (top 62), defBody (top 62), defScope (top 62), [], []⟩
def dd_law_calls : He.DefD := ⟨("_law_calls", none), "_law_calls", "_law_calls", defArgs (top 63), defBody (top 63), defScope (top 63), [], []⟩
def dd_law_used : He.DefD := ⟨("_law_used", none), "_law_used", "_law_used", defArgs (top 64), defBody (top 64), defScope (top 64), [], []⟩
def dd_law_part : He.DefD := ⟨("_law_part", none), "_law_part", "_law_part", defArgs (top 65), defBody (top 65), defScope (top 65), [], []⟩
def dd_law_shelf : He.DefD := ⟨("_law_shelf", none), "_law_shelf", "_law_shelf", defArgs (top 66), defBody (top 66), defScope (top 66), [], []⟩
def dd_law_tree : He.DefD := ⟨("_law_tree", none), "_law_tree", "_law_tree", defArgs (top 67), defBody (top 67), defScope (top 67), [], []⟩
def dd_law_kind : He.DefD := ⟨("_law_kind", none), "_law_kind", "_law_kind", defArgs (top 68), defBody (top 68), defScope (top 68), [], []⟩
def dd_law_from : He.DefD := ⟨("_law_from", none), "_law_from", "_law_from", defArgs (top 69), defBody (top 69), defScope (top 69), [], []⟩
def dd_law_deep : He.DefD := ⟨("_law_deep", none), "_law_deep", "_law_deep", defArgs (top 70), defBody (top 70), defScope (top 70), [], []⟩
def dd_law_many : He.DefD := ⟨("_law_many", none), "_law_many", "_law_many", defArgs (top 71), defBody (top 71), defScope (top 71), [], []⟩
def dd_law_due : He.DefD := ⟨("_law_due", none), "_law_due", "_law_due", defArgs (top 72), defBody (top 72), defScope (top 72), [], []⟩
def dd_law_changed : He.DefD := ⟨("_law_changed", none), "_law_changed", "_law_changed", defArgs (top 73), defBody (top 73), defScope (top 73), [], []⟩
def dd_law_told : He.DefD := ⟨("_law_told", none), "_law_told", "_law_told", defArgs (top 74), defBody (top 74), defScope (top 74), [], []⟩
def dd_law : He.DefD := ⟨("law", none), "law", "law", defArgs (top 75), defBody (top 75), defScope (top 75), [], []⟩
def dd_BadText_init : He.DefD := ⟨("BadText", some "__init__"), "__init__", "BadText.__init__", defArgs (inClass (top 9) 0), defBody (inClass (top 9) 0), defScope (inClass (top 9) 0), [], []⟩
def fnD : List He.DefD := [dd_size_of, dd_written_nest, dd_misplaced, dd_read_nest, dd_is_number, dd_body_arms, dd_fits_body, dd_is_body, dd_is_ask, dd_is_deed, dd_is_cell, dd_are_rows, dd_are_asks, dd_fault_of, dd_check_part, dd_tree_arms, dd_check_shelf, dd_check_tree, dd_is_number_word, dd_fits_word, dd_worth_of_word, dd_written_tree, dd_read_tree, dd_law_mix, dd_law_next, dd_law_alike, dd_law_leaf, dd_law_call, dd_law_body, dd_law_reckons, dd_law_calls, dd_law_used, dd_law_part, dd_law_shelf, dd_law_tree, dd_law_kind, dd_law_from, dd_law_deep, dd_law_many, dd_law_due, dd_law_changed, dd_law_told, dd_law, dd_BadText_init]
def faD : List He.Fa := [.glo "size_of", .glo "written_nest", .glo "misplaced", .glo "read_nest", .glo "is_number", .glo "body_arms", .glo "fits_body", .glo "is_body", .glo "is_ask", .glo "is_deed", .glo "is_cell", .glo "are_rows", .glo "are_asks", .glo "fault_of", .glo "check_part", .glo "tree_arms", .glo "check_shelf", .glo "check_tree", .glo "is_number_word", .glo "fits_word", .glo "worth_of_word", .glo "written_tree", .glo "read_tree", .glo "_law_mix", .glo "_law_next", .glo "_law_alike", .glo "_law_leaf", .glo "_law_call", .glo "_law_body", .glo "_law_reckons", .glo "_law_calls", .glo "_law_used", .glo "_law_part", .glo "_law_shelf", .glo "_law_tree", .glo "_law_kind", .glo "_law_from", .glo "_law_deep", .glo "_law_many", .glo "_law_due", .glo "_law_changed", .glo "_law_told", .glo "law", .glo "KINDS", .glo "DEED_NAMES", .glo "CELL_NAMES", .glo "PART_NAMES", .glo "TRUTHS", .glo "BODY_ARMS", .glo "TREE_ARMS", .int "MOST_AROUND" 9, .int "MOST_WORDS" 60, .int "GREATEST_IN_BODIES" 99, .int "MOST_DEEDS" 8, .int "MOST_CELLS" 4, .int "MOST_PARTS" 6, .int "MOST_TREES" 40, .int "MOST_FIGURES" 3, .free "ValueError", .free "any", .free "bool", .free "dict", .free "enumerate", .free "int", .free "isinstance", .free "len", .free "list", .free "max", .free "min", .free "range", .free "set", .free "sorted", .free "str", .free "sum", .free "tuple", .free "zip", .glo "PartError", .glo "BadPart", .glo "BadShelf", .glo "BadTree", .glo "NotRight", .glo "NotWhole", .glo "BadCall", .glo "Long", .glo "BadText"]
def tsD : List He.Tab := [((fun K => He.ga K "BODY_ARMS"), ["number", "truth", "empty", "argument", "cell", "plus", "less", "times", "below", "same", "not", "and", "if", "put", "first", "rest", "many", "set", "then", "call"]), ((fun K => He.ga K "TREE_ARMS"), ["part", "with", "without", "also", "renamed", "over"])]
def tfD : List He.Defn := [("check_tree", none), ("_law_told", none)]
def exD (K : PySem.W.Frag) : Bool := gloB K "KINDS" (.tup (strsOf kindsS)) && gloB K "DEED_NAMES" (.tup (strsOf deedsS)) && gloB K "CELL_NAMES" (.tup (strsOf cellsS)) && gloB K "PART_NAMES" (.tup (strsOf partsS)) && gloB K "TRUTHS" (.tup (strsOf ["True", "False"])) && hasB K "BODY_ARMS" ((armsTab.map fun p => (p.1, .tup (strsOf p.2)))) [] && hasB K "TREE_ARMS" ((treeTab.map fun p => (p.1, .tup (strsOf p.2)))) [] && PD.errB K "PartError" ["BadPart", "BadShelf", "BadTree", "NotRight", "NotWhole", "BadCall", "Long", "BadText"] 2 && PD.allB K "BODY_ARMS" ((armsTab.map (·.1))) && PD.allB K "TREE_ARMS" ((treeTab.map (·.1))) && PD.errFB K "PartError" ["BadPart", "BadShelf", "BadTree", "NotRight", "NotWhole", "BadCall", "Long", "BadText"] 0 "why" && PD.errFB K "PartError" ["BadPart", "BadShelf", "BadTree", "NotRight", "NotWhole", "BadCall", "Long", "BadText"] 3 "name" && PD.errFB K "PartError" ["BadPart", "BadShelf", "BadTree", "NotRight", "NotWhole", "BadCall", "Long", "BadText"] 7 "place"
def names0 : List Str := ["PartError", "BadPart", "BadShelf", "BadTree", "NotRight", "NotWhole", "BadCall", "Long", "BadText", "MOST_AROUND", "size_of", "written_nest", "misplaced", "read_nest", "KINDS", "DEED_NAMES", "CELL_NAMES", "PART_NAMES", "is_number", "MOST_WORDS", "GREATEST_IN_BODIES", "BODY_ARMS", "body_arms", "fits_body", "is_body", "MOST_DEEDS", "MOST_CELLS", "is_ask", "is_deed", "is_cell"]
def names1 : List Str := ["are_rows", "are_asks", "fault_of", "check_part", "MOST_PARTS", "MOST_TREES", "TREE_ARMS", "tree_arms", "check_shelf", "check_tree", "MOST_FIGURES", "TRUTHS", "is_number_word", "fits_word", "worth_of_word", "written_tree", "read_tree", "_law_mix", "_law_next", "_law_alike", "_law_leaf", "_law_call", "_law_body", "_law_reckons", "_law_calls", "_law_used", "_law_part", "_law_shelf", "_law_tree", "_law_kind"]
def names2 : List Str := ["_law_from", "_law_deep", "_law_many", "_law_due", "_law_changed", "_law_told"]
def namesD : List Str := names0 ++ names1 ++ names2
abbrev rowR : PySem.W.OpenRow := PySem.W.OpenLaw.row PySem.Challenge.rw_partdeeds_k20_texts_that_write_no_tree
def fsD : List Str := (["size_of", "written_nest", "misplaced", "read_nest", "is_number", "body_arms", "fits_body", "is_body", "is_ask", "is_deed", "is_cell", "are_rows", "are_asks", "fault_of", "check_part", "tree_arms", "check_shelf", "check_tree", "is_number_word", "fits_word", "worth_of_word", "written_tree", "read_tree", "_law_mix", "_law_next"] : List Str) ++ (["_law_alike", "_law_leaf", "_law_call", "_law_body", "_law_reckons", "_law_calls", "_law_used", "_law_part", "_law_shelf", "_law_tree", "_law_kind", "_law_from", "_law_deep", "_law_many", "_law_due", "_law_changed", "_law_told", "law"] : List Str)
def csD : List Str := ["KINDS", "DEED_NAMES", "CELL_NAMES", "PART_NAMES", "TRUTHS", "BODY_ARMS", "TREE_ARMS"]
def clD : List Str := ["PartError", "BadPart", "BadShelf", "BadTree", "NotRight", "NotWhole", "BadCall", "Long", "BadText"]
abbrev hkD : PySem.W.Hook := PD.hookA (PD.looksAt fsD csD clD) faD fnD tsD tfD exD
def obD (s : PySem.W.SharedT) : He.AlX := PD.obsA (PD.looksAt fsD csD clD) faD fnD tsD tfD exD (HandSHeadRun.getT s)
theorem obD_eq (s : PySem.W.SharedT) : obD s = hkD.obs s.abs := PD.obsA_eq (HandSHeadRun.getT_eq s)
theorem runD0 (w : World) : HandSHeadRun.RunEq rowR (PySem.W.view rowR.prog [75]) hkD obD 8000 namesD (w.withFollow "special-get-raises" false) := by
 intro os
 kernel_rfl
theorem runD1 (w : World) : HandSHeadRun.RunEq rowR (PySem.W.view rowR.prog [75]) hkD obD 8000 namesD (w.withFollow "special-get-raises" true) := by
 intro os
 kernel_rfl
theorem runD (w : World) : HandSHeadRun.RunEq rowR (PySem.W.view rowR.prog [75]) hkD obD 8000 namesD w := PySem.W.byRow2 "special-get-raises" (P := fun w => HandSHeadRun.RunEq rowR (PySem.W.view rowR.prog [75]) hkD obD 8000 namesD w) runD0 runD1 w
end Pr
set_option Elab.async false
set_option linter.all false
set_option maxRecDepth 100000
set_option maxHeartbeats 1000000
namespace PD
open PySem PySem.Spec PyProof.Rows L2
variable [Tabs]
section
variable {K : PySem.W.Frag} {hs : Option (Addr × Addr)} {ρ : List Sl} {k : D → Prop} {ta tb te : TE} {tx : TA} {kl : List D → Prop} {kb : Bool → Prop}
theorem d_dnotin (h : dE K hs ta ρ fun x => dE K hs tb ρ fun y => ∃ s ks, x = .str s ∧ y = .dct ks ∧ k (.bl (!(lookD ks s).isSome))) : dE K hs (tDNotIn ta tb) ρ k := fun H0 σ G H Q f R z =>
 h H0 σ G H _ f R fun v G1 H1 x s1 r1 h1 => h1 H0 σ G1 H1 _ s1.fr (R.step s1) fun w G2 H2 y s2 r2 ⟨s, ks, e1, e2, q⟩ => by
  subst e1 e2
  obtain ⟨a, o, kvs, rfl, hh, r⟩ := rel_dct r2
  refine ⟨a, valV kvs (Sum.inr s), rfl, .inl ⟨kvs, Sum.inr s, .inr ⟨o, s2.sub _ _ hh⟩, by rw [rel_str r1]; rfl, rfl⟩, ?_⟩
  obtain ⟨h1, h2⟩ := rel_look (s := s) r
  cases e : lookD ks s with
  | none => rw [e] at q; rw [h2 e]; exact z _ G2 H2 _ (s1.trans s2) .bl q
  | some d => rw [e] at q; obtain ⟨v', h3, _⟩ := h1 d e; rw [h3]; exact z _ G2 H2 _ (s1.trans s2) .bl q
def rStrV : List V → Hp → VK → Prop := fun xs H Q => (∃ a, xs = [.str a] ∧ Q (.str a) H) ∨ (∃ i : Int, xs = [.int i] ∧ i.natAbs.log2 < 1920 ∧ Q (.str (toString i)) H) ∨ ∃ b : Bool, xs = [.bl b] ∧ Q (.str (if b then "True" else "False")) H
theorem c_strS {x : Str} (q : k (.str x)) : dC K hs rStrV [.str x] k := fun G H vs Q f r z => by
 cases r with
 | cons r1 r2 =>
  cases r2
  rw [rel_str r1]
  exact .inl ⟨x, rfl, z _ G H _ f.refl .str q⟩
theorem c_strI {i : Int} (h : i.natAbs < 2 ^ 1900) (q : k (.str (toString i))) : dC K hs rStrV [.int i] k := fun G H vs Q f r z => by
 cases r with
 | cons r1 r2 =>
  cases r2
  rw [rel_int r1]
  refine .inr (.inl ⟨i, rfl, ?_, z _ G H _ f.refl .str q⟩)
  by_cases e : i.natAbs = 0
  ·rw [e]; decide
  ·exact Nat.lt_of_lt_of_le ((Nat.log2_lt e).mpr h) (by decide)
theorem c_strB {b : Bool} (q : k (.str (if b then "True" else "False"))) : dC K hs rStrV [.bl b] k := fun G H vs Q f r z => by
 cases r with
 | cons r1 r2 =>
  cases r2
  rw [rel_bl r1]
  exact .inr (.inr ⟨b, rfl, z _ G H _ f.refl .str q⟩)
theorem d_join {r : V → List V → Hp → VK → Prop} (h : dE K hs ta ρ fun x => ∃ a : Str, x = .str a ∧ dE K hs tb ρ fun y => ∃ ys : List Str, y = .lst (strsOf ys) ∧ (ys.map (·.length)).sum + ys.length * a.length ≤ 16777216 ∧ k (.str (Txt.join a ys))) :
  dE K hs (tM1 (fun x xs H Q => ∃ a p, ∃ ys : List Str, x = .str a ∧ xs = [.ref p] ∧ (SqL K H p (ys.map V.str) ∨ SqT K H p (ys.map V.str)) ∧ (ys.map (·.length)).sum + ys.length * a.length ≤ 16777216 ∧ Q (.str (Txt.join a ys)) H) ta tb) ρ k := fun H0 σ G H Q f R z =>
 h H0 σ G H _ f R fun v G1 H1 x s1 r1 ⟨a, e1, h1⟩ => by
  subst e1
  refine ⟨⟨a, rel_str r1⟩, h1 H0 σ G1 H1 _ s1.fr (R.step s1) fun w G2 H2 y s2 r2 ⟨ys, e2, hl, q⟩ => ?_⟩
  subst e2
  obtain ⟨p, vs, rfl, hh, r⟩ := rel_lst r2
  have e := rel_strs r
  subst e
  exact ⟨a, p, ys, rel_str r1, rfl, .inl (SqL.of (s2.sub _ _ hh)), hl, z _ G2 H2 _ (s1.trans s2) .str q⟩
end
section
variable {X : Cx}
theorem cr_strV : CallR X (.type "str") rStrV := by
 intro pins s σ H xs us Q I r h
 rcases h with h | h | ⟨b, rfl, q⟩
 ·exact SkE.call_str_str pins s σ H xs us Q I r h
 ·exact call_str_int pins s σ H xs us Q I r h
 ·obtain ⟨u, rfl, ru⟩ := vals1 r
  cases ru
  exact PySem.P.str_of_bool ⟨.str _, H, I.tok _, ⟨_, rfl⟩, q⟩
end
end PD
set_option Elab.async false
set_option linter.all false
set_option maxRecDepth 100000
set_option maxHeartbeats 1000000
namespace PD
open PySem PySem.Spec PyProof.Rows L2
variable [Tabs]
abbrev Row3 := Str × Addr × List D
def kvsOf (x : List Row3) : List (Key × V) := x.map fun r => (Sum.inr r.1, V.ref r.2.1)
structure In3 (K : PySem.W.Frag) (hs : Option (Addr × Addr)) (H0 G H : Hp) (q : Addr) (ds : List D) : Prop where
 h0 : H0 q = none
 out : Outs hs q
 g : G q = none
 at_ : ∃ vs, H q = some (.lst vs) ∧ RelL K G vs ds
structure Own3 (K : PySem.W.Frag) (hs : Option (Addr × Addr)) (H0 G H : Hp) (p : Addr) (x : List Row3) : Prop where
 h0 : H0 p = none
 out : Outs hs p
 g : G p = none
 at_ : H p = some (.dK (kvsOf x))
 nd : (x.map fun r => r.2.1).Nodup
 no : p ∉ x.map fun r => r.2.1
 keys : (x.map fun r => r.1).Nodup
 rows : ∀ r ∈ x, In3 K hs H0 G H r.2.1 r.2.2
section
variable {K : PySem.W.Frag} {hs : Option (Addr × Addr)} {H0 G H G' H' : Hp} {p q : Addr} {x : List Row3} {ds : List D}
theorem In3.step (s : Step hs G H G' H') (h : In3 K hs H0 G H q ds) : In3 K hs H0 G' H' q ds := by
 obtain ⟨vs, h1, h2⟩ := h.at_
 obtain ⟨a, b⟩ := stay s h.out h.g h1
 exact ⟨h.h0, h.out, a, vs, b, h2.mono s.exg⟩
theorem Own3.step (s : Step hs G H G' H') (h : Own3 K hs H0 G H p x) : Own3 K hs H0 G' H' p x := by
 obtain ⟨a, b⟩ := stay s h.out h.g h.at_
 exact ⟨h.h0, h.out, a, b, h.nd, h.no, h.keys, fun r hr => (h.rows r hr).step s⟩
theorem Own3.more {s : Str} (f : Fr hs G H) (h : Own3 K hs H0 G H p x) (h0 : H0 q = none) (hq : H q = none) (new : s ∉ x.map fun r => r.1) : Own3 K hs H0 G (upd (upd H q (.lst [])) p (.dK (kvsOf (x ++ [(s, q, [])])))) p (x ++ [(s, q, [])]) := by
 have np : p ≠ q := ne_of_none h.at_ hq
 have nq : q ∉ x.map fun r => r.2.1 := fun z => by
  obtain ⟨r, hr, e⟩ := List.mem_map.mp z
  obtain ⟨vs, h1, _⟩ := (h.rows r hr).at_
  rw [e, hq] at h1
  cases h1
 refine ⟨h.h0, h.out, h.g, upd_same, ?_, ?_, ?_, fun r hr => ?_⟩
 ·rw [List.map_append]
  exact List.nodup_append.mpr ⟨h.nd, by simp, fun a ha b hb e => nq (by rw [List.mem_singleton.mp hb] at e; have e' : a = q := e; rw [← e']; exact ha)⟩
 ·rw [List.map_append, List.mem_append, not_or]
  exact ⟨h.no, by simpa using np⟩
 ·rw [List.map_append]
  exact List.nodup_append.mpr ⟨h.keys, by simp, fun a ha b hb e => new (by rw [List.mem_singleton.mp hb] at e; have e' : a = s := e; rw [← e']; exact ha)⟩
 ·rcases List.mem_append.mp hr with z | z
  ·have J := h.rows r z
   obtain ⟨vs, h1, h2⟩ := J.at_
   have n1 : r.2.1 ≠ p := fun e => h.no (List.mem_map.mpr ⟨r, z, e⟩)
   exact ⟨J.h0, J.out, J.g, vs, by rw [upd_ne n1, upd_ne (ne_of_none h1 hq)]; exact h1, h2⟩
  ·rw [List.mem_singleton.mp z]
   exact ⟨h0, f.outs hq, Same.free f.sub hq, [], by rw [upd_ne np.symm, upd_same], .nil⟩
def setRow (x : List Row3) (q : Addr) (ds : List D) : List Row3 := x.map fun r => if r.2.1 = q then (r.1, r.2.1, ds) else r
theorem setRow_fst {x : List Row3} : (setRow x q ds).map (fun r => r.1) = x.map fun r => r.1 := by
 unfold setRow
 rw [List.map_map]
 refine List.map_congr_left fun r _ => ?_
 show (if r.2.1 = q then (r.1, r.2.1, ds) else r).1 = r.1
 split <;> rfl
theorem setRow_at {x : List Row3} : (setRow x q ds).map (fun r => r.2.1) = x.map fun r => r.2.1 := by
 unfold setRow
 rw [List.map_map]
 refine List.map_congr_left fun r _ => ?_
 show (if r.2.1 = q then (r.1, r.2.1, ds) else r).2.1 = r.2.1
 split <;> rfl
theorem setRow_kvs {x : List Row3} : kvsOf (setRow x q ds) = kvsOf x := by
 unfold kvsOf setRow
 rw [List.map_map]
 refine List.map_congr_left fun r _ => ?_
 show ((Sum.inr (if r.2.1 = q then (r.1, r.2.1, ds) else r).1 : Key), V.ref (if r.2.1 = q then (r.1, r.2.1, ds) else r).2.1) = _
 split <;> rfl
theorem Own3.put {vs : List V} (h : Own3 K hs H0 G H p x) (hq : q ∈ x.map fun r => r.2.1) (r : RelL K G vs ds) : Own3 K hs H0 G (upd H q (.lst vs)) p (setRow x q ds) := by
 have np : p ≠ q := fun e => h.no (e ▸ hq)
 refine ⟨h.h0, h.out, h.g, by rw [setRow_kvs, upd_ne np]; exact h.at_, by rw [setRow_at]; exact h.nd, by rw [setRow_at]; exact h.no, by rw [setRow_fst]; exact h.keys, fun r' hr => ?_⟩
 unfold setRow at hr
 obtain ⟨r0, hr0, rfl⟩ := List.mem_map.mp hr
 have J := h.rows r0 hr0
 by_cases e : r0.2.1 = q
 ·rw [if_pos e]
  exact ⟨J.h0, J.out, J.g, vs, by rw [e, upd_same], r⟩
 ·rw [if_neg e]
  obtain ⟨us, h1, h2⟩ := J.at_
  exact ⟨J.h0, J.out, J.g, us, by rw [upd_ne e]; exact h1, h2⟩
end
section
variable {K : PySem.W.Frag} {hs : Option (Addr × Addr)} {ρ : List Sl} {p : Addr} {x : List Row3} {t u : TS} {te ta tb : TE} {E : DEnds} {nx : List Sl → List Row3 → Prop}
end
end PD
set_option Elab.async false
set_option linter.all false
set_option maxRecDepth 100000
set_option maxHeartbeats 1000000
namespace PD
open PySem PySem.Spec PyProof.Rows L2
variable [Tabs]
section
variable {K : PySem.W.Frag} {hs : Option (Addr × Addr)} {ρ : List Sl} {p : Addr} {x : List Row3} {t u : TS} {te ta tb : TE} {E : DEnds} {nx : List Sl → List Row3 → Prop}
end
end PD
set_option Elab.async false
set_option linter.all false
set_option maxRecDepth 100000
set_option maxHeartbeats 1000000
namespace PD
open PySem PySem.Spec PyProof.Rows L2
variable [Tabs]
section
variable {K : PySem.W.Frag} {hs : Option (Addr × Addr)} {ρ : List Sl} {te : TE} {E : DEnds}
theorem RelL.put {G : Hp} {v : V} {d : D} (h : Rel K G v d) : ∀ {vs : List V} {ds : List D} (n : Nat), RelL K G vs ds → RelL K G (vs.set n v) (ds.set n d)
 | _, _, _, .nil => .nil
 | _, _, 0, .cons _ r => .cons h r
 | _, _, n + 1, .cons a r => .cons a (RelL.put h n r)
theorem ixN_nat {l n : Nat} (h : n < l) : ixN l (n : Int) = some n := by
 unfold ixN
 split <;> simp_all <;> omega
end
end PD
set_option Elab.async false
set_option linter.all false
set_option maxRecDepth 100000
set_option maxHeartbeats 1000000
namespace PD
open PySem PySem.Spec PyProof.Rows L2 NdefX LamX
variable [Tabs]
section
variable {P : Program} {w : World} {K : PySem.W.Frag} {mg : Str → Option Value} {base : Heap} {C : Heap → Hp → List Env → Prop}
theorem okC {x qual : Str} {params : Arguments} {body : List Stmt} {scope : Scope} {dvs : List V} {kws : List (Str × V)} {f : Addr} {fd : FuncData} {N ps : List Str} {k : Nat} {M : List D → (D → Prop) → Prop} (F : FunD K x qual params body scope dvs kws f fd) (S : FnScope N ps scope)
  (len : ∀ ds k, M ds k → ds.length = ps.length)
  (hbody : ∀ (cdv : Value) (A : Around) (outer : List Env) (s : Shared) (H : Hp) (E : XK) (ds : List D) (kk : D → Prop), Room k (A.deeper (envOfC qual scope s.heap.objs.size f cdv)) → C s.heap H outer → M ds kk →
   ∃ t, PSs (cxOf CX0 P w K mg base N qual scope f cdv A outer s H E).nox body t ∧ dS K none t (startD N ds) { nx := fun _ => kk .non, rt := kk }) : FnC P w K mg base C (k + 1) f fd ps (spD K none M) := by
 refine fnC_of F S (fun vs H Q E h => ?_) (fun cdv A outer s H vs Q E hr hC h => ?_)
 ·obtain ⟨G, ds, kk, _, r, m, _⟩ := h
  rw [r.length]
  exact len ds kk m
 ·obtain ⟨G, ds, kk, fr, r, m, z⟩ := h
  obtain ⟨t, ht, hd⟩ := hbody cdv A outer s H E ds kk hr hC m
  exact ⟨t, ht.nox, hd G H G _ G H _ fr.refl (Same.refl G) (env_start r) ⟨fun σ G' H' ρ s' _ _ q => z _ G' H' _ s' .non q, fun v G' H' d s' r' q => z v G' H' d s' r' q, fun _ _ _ _ _ _ _ q => q.elim, fun _ _ _ _ _ _ _ q => q.elim⟩⟩
end
end PD
set_option Elab.async false
set_option linter.all false
set_option maxRecDepth 100000
set_option maxHeartbeats 1000000
namespace PD
open PySem PySem.Spec PyProof.Rows L2 NdefX LamX
variable [Tabs]
section
variable {P : Program} {w : World} {K : PySem.W.Frag} {mg : Str → Option Value} {base : Heap} {x : Str} {st : Stmt} {N ps : List Str} {hs : Option (Addr × Addr)} {k : Nat} {M : List D → (D → Prop) → Prop} {c : Addr}
theorem okX (F : DefT K mg x st) (hc : ∀ (f : Addr) (oc : Value) (od : Option Addr) (fd : FuncData) (osl : Array (Option Value)), mg x = some (.ref f) → K.lookup f = some ⟨oc, od, .func fd, osl⟩ → fd.code = .ref c) (S : FnScope N ps (defScope st))
  (hb : ∀ (kV doc pm : Value) (an : Option Addr) (cdv ct : Value) (us : List Value), us.length = ps.length → bindArgs (PySem.W.fnOf x x (defArgs st) (defBody st) (defScope st) .none kV doc pm an cdv ct) ⟨us, []⟩ = pure (ps.zip us))
  (len : ∀ ds k, M ds k → ds.length = ps.length)
  (hbody : ∀ (f : Addr) (A : Around) (outer : List Env) (s : Shared) (H : Hp) (E : XK) (ds : List D) (kk : D → Prop), Room k (A.deeper (PyProof.Rows.envOfC x (defScope st) s.heap.objs.size f (.ref c))) → M ds kk →
   ∃ t, PSs (cxOf CX0 P w K mg base N x (defScope st) f (.ref c) A outer s H E).nox (defBody st) t ∧ dS K hs t (startD N ds) { nx := fun _ => kk .non, rt := kk }) : Cal P w K mg base (k + 1) x ps hs M := by
 obtain ⟨f, fd, h1, h2⟩ := F
 refine ⟨f, fd, h1, h2.kp, h2.bindsN hb, fd_look h2, ?_⟩
 obtain ⟨oc, od, dV, kV, doc, pm, an, cdv, ct, osl, rfl, lk, hcd, _, _⟩ := h2.ex
 have e : cdv = .ref c := hc f oc od _ osl h1 lk
 subst e
 refine fn_of lk hcd S (fun vs H Q E h => ?_) fun A outer s H vs Q E hr h => ?_
 ·obtain ⟨G, ds, kk, _, r, m, _⟩ := h
  rw [r.length]
  exact len ds kk m
 ·obtain ⟨G, ds, kk, fr, r, m, z⟩ := h
  obtain ⟨t, ht, hd⟩ := hbody f A outer s H E ds kk hr m
  exact ⟨t, ht.nox, hd G H G _ G H _ fr.refl (Same.refl G) (env_start r) ⟨fun σ G' H' ρ s' _ _ q => z _ G' H' _ s' .non q, fun v G' H' d s' r' q => z v G' H' d s' r' q, fun _ _ _ _ _ _ _ q => q.elim, fun _ _ _ _ _ _ _ q => q.elim⟩⟩
end
end PD
set_option Elab.async false
set_option linter.all false
set_option maxRecDepth 100000
set_option maxHeartbeats 1000000
namespace PO
open PySem PySem.Spec
section
variable {prog : Program} {w : World} {K : Type} [DecidableEq K] {knd : KeyKind prog w K} {A : Around} {E : Value → Shared → Prop} {s : Shared}
end
end PO
set_option Elab.async false
set_option linter.all false
set_option maxRecDepth 100000
set_option maxHeartbeats 1000000
namespace PD
open PySem PySem.Spec PyProof.Rows L2
section
variable {X : Cx} {ea eb : Expr} {ta tb : TE} {pos : Pos}
end
end PD
set_option Elab.async false
set_option linter.all false
set_option maxRecDepth 100000
set_option maxHeartbeats 1000000
namespace PD
open PySem PySem.Spec PyProof.Rows L2
variable [Tabs]
section
variable {K : PySem.W.Frag} {hs : Option (Addr × Addr)} {ρ : List Sl} {k : D → Prop} {ta tb : TE}
end
end PD
set_option Elab.async false
set_option linter.all false
set_option maxRecDepth 100000
set_option maxHeartbeats 1000000
namespace PD
open PySem PySem.Calls PySem.Spec PyProof.Rows L2 PySem.W
variable [Tabs]
section
variable {K : PySem.W.Frag} {G H : Hp}
end
section
variable {X : Cx} {pins : List (Addr × Obj)} {σ : L2.St} {H : Hp} {s : Shared}
end
section
variable {X : Cx} {pins : List (Addr × Obj)} {σ : L2.St} {H G : Hp} {s : Shared} {k : Nat} {x : Str} {ps : List Str} {f : Addr} {fd : FuncData} {M : List D → (D → Prop) → Prop}
end
section
variable {X : Cx} {k : Nat} {x : Str} {ps : List Str} {f : Addr} {fd : FuncData} {M : List D → (D → Prop) → Prop}
end
section
variable {K : PySem.W.Frag} {hs : Option (Addr × Addr)} {ρ : List Sl} {kd : D → Prop} {te : TE} {f : Addr} {M : List D → (D → Prop) → Prop} {kl : List D → Prop}
end
end PD
set_option Elab.async false
set_option linter.all false
set_option maxRecDepth 100000
set_option maxHeartbeats 4000000
namespace PD
open PySem PySem.Spec PyProof.Rows L2 NdefX LamX PySem.W
variable [Tabs]
theorem RelL.erase {K : PySem.W.Frag} {G : Hp} : ∀ {vs : List V} {ds : List D} (n : Nat), RelL K G vs ds → RelL K G (vs.eraseIdx n) (ds.eraseIdx n)
 | _, _, _, .nil => .nil
 | _, _, 0, .cons _ t => t
 | _, _, n + 1, .cons r t => .cons r (RelL.erase n t)
section
variable {K : PySem.W.Frag} {hs : Option (Addr × Addr)} {k : D → Prop}
theorem c_min2 {i j : Int} (q : k (.int (if j < i then j else i))) : dC K hs (fun xs H Q => ∃ i j, xs = [.int i, .int j] ∧ Q (.int (if j < i then j else i)) H) [.int i, .int j] k := fun G H vs Q f r z => by
 cases r with
 | cons r1 r2 =>
  cases r2 with
  | cons r2 r3 =>
   cases r3
   rw [rel_int r1, rel_int r2]
   exact ⟨i, j, rfl, z _ G H _ f.refl .int q⟩
end
def enumF (i : Nat) : List D → List D
 | [] => []
 | d :: r => .tup [.int (i : Int), d] :: enumF (i + 1) r
theorem enumF_len : ∀ (ds : List D) (i : Nat), (enumF i ds).length = ds.length
 | [], _ => rfl
 | d :: r, i => by simp only [enumF, List.length_cons, enumF_len r (i + 1)]
theorem enumF_get : ∀ (ds : List D) (i j : Nat) (d : D), ds[j]? = some d → (enumF i ds)[j]? = some (.tup [.int ((i + j : Nat) : Int), d])
 | [], i, j, d, h => by simp at h
 | x :: r, i, 0, d, h => by
  simp only [List.getElem?_cons_zero, Option.some.injEq] at h
  subst h
  rfl
 | x :: r, i, j + 1, d, h => by
  have h' : r[j]? = some d := by simpa using h
  have := enumF_get r (i + 1) j d h'
  simp only [enumF, List.getElem?_cons_succ]
  rw [this]
  have : i + 1 + j = i + (j + 1) := by omega
  rw [this]
section
variable {K : PySem.W.Frag} {hs : Option (Addr × Addr)} {ρ : List Sl} {te : TE} {kl : List D → Prop}
theorem i_enum (h : dE K hs te ρ fun x => ∃ ds, x = .lst ds ∧ kl (enumF 0 ds)) : dI K hs (iEnum K (tCons te tNil)) ρ kl := fun H0 σ G H R' f R z =>
 h H0 σ G H _ f R fun v G1 H1 x s1 r1 ⟨ds, e, q⟩ => by
  subst e
  obtain ⟨a, vs, rfl, ga, rl⟩ := rel_lst r1
  refine ⟨a, vs, rfl, SqL.of (s1.sub _ _ ga), z _ G1 H1 _ s1 (fun G' H' eg f' i => ⟨fun hi => ?_, fun hi => ?_⟩) q⟩
  ·rw [enumF_len] at hi
   have sq : SqL K H' a vs := SqL.of (f'.sub _ _ (eg _ _ ga))
   have hv : i < vs.length := by rw [rl.length]; exact hi
   refine ⟨⟨vs, vs[i], sq, List.getElem?_eq_getElem hv⟩, fun x' H'' hy => ?_⟩
   obtain ⟨T, y, rfl, hT, rfl, hall⟩ := hy
   have ey := hall vs sq
   obtain ⟨d, e2, rd⟩ := rl.get ey
   have st : Step hs G' H' _ _ := Step.alloc (o := HO.tup [V.int (i : Int), y]) f'.sub f'.st hT
   refine ⟨_, st, fun d' hd' => ?_⟩
   rw [enumF_get ds 0 i d e2] at hd'
   cases hd'
   refine .tup (.inl (.inl upd_same)) (.cons ?_ (.cons ((rd.mono eg).mono st.exg) .nil))
   rw [Nat.zero_add]
   exact .int
  ·rw [enumF_len] at hi
   exact ⟨vs, SqL.of (f'.sub _ _ (eg _ _ ga)), by rw [rl.length]; exact hi⟩
end
section
variable {K : PySem.W.Frag} {hs : Option (Addr × Addr)} {ρ : List Sl} {te : TE} {k : D → Prop} {G : Hp}
theorem RelL.snoc {vs : List V} {ds : List D} (h : RelL K G vs ds) {v : V} {d : D} (r : Rel K G v d) : RelL K G (vs ++ [v]) (ds ++ [d]) := h.append (.cons r .nil)
theorem RelL.rev : ∀ {vs : List V} {ds : List D}, RelL K G vs ds → RelL K G vs.reverse ds.reverse
 | _, _, .nil => .nil
 | _, _, .cons r h => by
  rw [List.reverse_cons, List.reverse_cons]
  exact (RelL.rev h).snoc r
theorem l_rev {kl : List D → Prop} (h : dE K hs te ρ fun x => ∃ ds, x = .lst ds ∧ kl ds.reverse) : dL K hs (tRevL K te) ρ kl := fun H0 σ G H Q f R z =>
 h H0 σ G H _ f R fun v G1 H1 x s1 r1 ⟨ds, e, q⟩ => by
  subst e
  obtain ⟨a, vs, rfl, hh, r⟩ := rel_lst r1
  refine ⟨a, vs, rfl, SqL.of (s1.sub _ _ hh), fun p hp => ?_⟩
  exact z p _ G1 _ _ (s1.trans (Step.fresh s1.sub s1.st hp)) (s1.back hp) (Same.free s1.sub hp) upd_same r.rev q
theorem d_rev (h : dE K hs te ρ fun x => ∃ ds, x = .lst ds ∧ k (.lst ds.reverse)) : dE K hs (tRevL K te) ρ k := d_ofL (l_rev h)
end
section
variable {P : Program} {w : World} {K : PySem.W.Frag} {mg : Str → Option Value} {base : Heap} {x : Str} {ps : List Str} {k j : Nat} {sp : Sp}
theorem CalU.mono (C : CalU P w K mg base k x ps sp) (h : k ≤ j) : CalU P w K mg base j x ps sp := by
 obtain ⟨f, fd, a, b, c, d⟩ := C
 exact ⟨f, fd, a, b, c, d.mono h⟩
end
end PD
set_option Elab.async false
set_option linter.all false
set_option maxRecDepth 100000
set_option maxHeartbeats 4000000
namespace PD
open PySem PySem.Spec PyProof.Rows L2 NdefX LamX PySem.W
variable [Tabs]
def tLamE (P : Addr) (nm : Nat → Nat → Str) (q : Str) (TT : (XK → Hp → VK → Prop) → Hp → VK → Prop) (t : XK → TE) : TE := fun σ H Q => TabN H P nm ∧
 (∀ c (ps : Array Value) (pos : Pos), H P = some (.tbl ps) → codeAmong pos ps.toList = some (.ref c) → nm pos.line pos.col = q → H c = some (CodeO c q) → TT (fun E H' Q' => t E σ H' Q') H Q) ∧
 (∀ c (ps qs : Array Value), H P = some (.tbl ps) → H c = none → TriplesOk qs.toList → (∀ (pos : Pos) (cv : Value), codeAmong pos qs.toList = some cv → codeAmong pos ps.toList = some cv ∨ (cv = .ref c ∧ nm pos.line pos.col = q)) →
  TT (fun E H' Q' => t E σ H' Q') (upd (upd H P (.tbl qs)) c (CodeO c q)) Q)
theorem not_frs {P : Program} {w : World} {K : PySem.W.Frag} {mg : Str → Option Value} {base : Heap} {A : Around} {outer : List Env} {s : Shared} {H : Hp} (e : Env0 P w K mg base A outer s H) {f : Addr} (h : s.heap.objs.size ≤ f) : f ∉ frs outer := fun hm => by
 obtain ⟨_, o, ho, _⟩ := e.funs.mem hm
 exact absurd (Heap.lt_size ho) (Nat.not_lt.mpr h)
theorem pe_lamE {X : Cx} {st : Stmt} {x a : Str} {g : Addr} {fd : FuncData} {Ng : List Str} {k : Nat} {c P : Addr} {nm : Nat → Nat → Str} {params : Arguments} {body : Expr} {scope : Scope} {lpos p pos : Pos} {TT : (XK → Hp → VK → Prop) → Hp → VK → Prop} {t : XK → TE}
  (F : FunD X.K x x (defArgs st) (defBody st) (defScope st) [] [] g fd) (hg : Gl X x) (hm : X.mg x = some (.ref g)) (hb : Binds X.K fd [a] []) (Sg : FnScope Ng [a] (defScope st)) (hNg : Ng[0]? = some a) (hva : Vis (defScope st) a)
  (hG : ∀ cdv, GivesTo X Ng x (defScope st) g cdv (defBody st) a (X.env.qual ++ "<lambda>") TT)
  (TB : TabB X.base X.mg c P) (hcode : X.env.code = .ref c) (hn : nm lpos.line lpos.col = X.env.qual ++ "<lambda>") (hr : Room (k + 2) X.A) (L : LamS X.env.scope scope) (hdef : defaultsOf params X.env = ([], []))
  (hbind : ∀ (q : Str) (cl : List (Str × Addr)) (pm cv ctv : Value), bindArgs (kla_fn "<lambda>" q params body scope cl pm cv ctv) ⟨[], []⟩ = pure [])
  (hbody : ∀ (A : Around) (outer : List Env) (s : Shared) (H : Hp) (E : XK) (f c' : Addr), Room k (A.deeper (lamEnv X scope s.heap.objs.size f c')) → PE (lamCx X A outer s H E scope f c') body (t E))
  (hdb : (x == ("__debug__" : Str)) = false := by decide) (hda : (a == ("__debug__" : Str)) = false := by decide) (hdc : (a == ("__classdict__" : Str)) = false := by decide) :
  PE X (.Call (.Name x p) [.Lambda params body scope lpos] [] pos) (tLamE P nm (X.env.qual ++ "<lambda>") TT t) := by
 obtain ⟨oc, od, dV, kV, doc, pm, an, cdv, ct, osl, rfl, lk, hcd, _, _⟩ := F.ex
 refine ⟨fun pins s σ H Q I h => ?_⟩
 obtain ⟨⟨ps, hP, ht, hall⟩, hit, new⟩ := h
 refine wpAny_Call_Name_kw (ld_glob I hg hm ?_ hdb)
 refine PySem.W.callWith_K (h₀ := X.base) I.ok.mod.kin F.kp (wpAny_items_cons (kla_eval hdef ?_) rfl) rfl rfl
 have bP : s.heap.BuiltinsAt X.mg P := TB.bm.keeps I.bk
 have hP' : s.heap.get? P = some { cls := .none, data := .fields ps } := I.hok P _ hP
 have hclo : closureFor scope X.env = pure (cloFrom X.env.cells scope.names []) := closure_ok (L.has I.ok)
 have fin : ∀ (c' : Addr) (ctv : Value) (h' : Heap) (tk : Nat) (H1 : Hp), Inv X pins σ H1 { s with heap := h', toks := tk } → H1 c' = some (CodeO c' (X.env.qual ++ "<lambda>")) → TT (fun E H' Q' => t E σ H' Q') H1 Q →
   wpAny (model X.prog X.w) X.A (spliced (backTo pos (starEach [] X.env))) (fun vs s2 => X.K.In s2.heap ∧ wpAny (model X.prog X.w) X.A (call (.ref g) ([] ++ (Value.ref h'.objs.size :: vs))) (EP X pins σ Q) X.xe s2) X.xe
    { s with heap := h'.push (kla_obj "<lambda>" (X.env.qual ++ "<lambda>") params body scope (cloFrom X.env.cells scope.names []) ((X.mg "__name__").getD .none) c' ctv), toks := tk } := fun c' ctv h' tk H1 I1 hc hT => by
  have I2 : Inv X pins σ H1 { s with heap := h'.push (kla_obj "<lambda>" (X.env.qual ++ "<lambda>") params body scope (cloFrom X.env.cells scope.names []) ((X.mg "__name__").getD .none) c' ctv), toks := tk } := I1.kept (t' := tk) fun b o e => Heap.get?_push_of_some _ e
  have free : H1 h'.objs.size = none := I1.hok.fresh (Nat.le_refl _)
  have nf : h'.objs.size ∉ frs X.stack := not_frs I1.env0 (Nat.le_refl _)
  refine wpAny_items_nil ⟨I2.kIn, ?_⟩
  refine wpAny_call (codeAny_mono (run_ofS (CX := CX0) (E := E0) (k := k + 1) (us := [Value.ref h'.objs.size]) (vs := [.ref h'.objs.size]) (N := Ng) (ps := [a]) (H := H1) (Q := Q) lk hcd Sg hr I2.env0 (hb _ [.ref h'.objs.size] I2.kIn rfl) (.cons rfl .nil) rfl fun hr' => ?_) fun r s' hq => ?_)
  ·obtain ⟨tt, h1, h2⟩ := hG cdv h'.objs.size c' _ H1 Q (fun E H' Q' => t E σ H' Q') (fun W pn xe E p1 p2 tk' hW => pe_act (X := X) (i := 0) I2 L (Heap.get?_push_size _ rfl) free nf (hbind _ _ _ _ _) tk' hW hr' (fun A outer s H hr2 => hbody A outer s H E _ _ hr2) hNg hva (hd := hda) (hcd := hdc)) hc hT
   exact ⟨tt, h1.nox, h2⟩
  ·cases r with
   | error e => exact hq.elim
   | ok fl =>
    cases fl with
    | ret u => exact I2.after hq
    | next => exact hq.elim
    | brk => exact hq.elim
    | cont => exact hq.elim
 cases hcd' : codeAmong lpos ps.toList with
 | some cv =>
  obtain ⟨c', e, hco⟩ := hall lpos cv hcd'
  subst e
  refine kla_makeFunctionHit (mg := X.mg) (c := c) (P := P) (ps := ps) hclo I.ok.glob (I.mod.glob.keeps I.bk) hcode (TB.code.keeps I.bk) hP' ht hcd' bP fun ctv h' tk kp _ => ?_
  rw [hn] at hco
  exact fin c' ctv h' tk H (I.kept kp) hco (hit c' ps lpos hP hcd' hn hco)
 | none =>
  refine kla_makeFunction (mg := X.mg) (c := c) (P := P) (ps := ps) hclo I.ok.glob (I.mod.glob.keeps I.bk) hcode (TB.code.keeps I.bk) hP' ht hcd' TB.gP bP fun c' ctv h' tk kp ge lt rec tb => ?_
  obtain ⟨c2, oc', vs, t', e2, hoc, hd', hv⟩ := rec
  cases e2
  have nC : H c' = none := I.hok.fresh ge
  have I1 := inv_table (t' := tk) (more := #[rawInt lpos.line, rawInt lpos.col, .ref c']) (h' := h') I hP (fun b o hb e => kp b o hb e) tb ge ⟨oc', vs, t', hoc, hd', hv⟩
  have eL : (ps ++ #[rawInt lpos.line, rawInt lpos.col, .ref c']).toList = ps.toList ++ [rawInt lpos.line, rawInt lpos.col, .ref c'] := by simp
  refine fin c' ctv h' tk _ I1 upd_same (new c' ps (ps ++ #[rawInt lpos.line, rawInt lpos.col, .ref c']) hP nC (by rw [eL]; exact PySem.TriplesOk_snoc _ _ _ _ ht) fun p' cv hcv => ?_)
  rw [eL] at hcv
  rcases among_app2 _ ht hcv with z | ⟨z, z1, z2⟩
  ·exact .inl z
  ·refine .inr ⟨z, ?_⟩
   rw [← z1, ← z2, hn]
end PD
set_option Elab.async false
set_option linter.all false
set_option maxRecDepth 100000
set_option maxHeartbeats 4000000
namespace PD
open PySem PySem.Spec PyProof.Rows L2 NdefX LamX PySem.W
variable [Tabs]
def spE (K : PySem.W.Frag) (hs : Option (Addr × Addr)) (M : List D → (D → Prop) → (Value → Prop) → Prop) : Sp := fun vs H Q E => ∃ (G : Hp) (ds : List D) (k : D → Prop) (kx : Value → Prop), Fr hs G H ∧ RelL K G vs ds ∧ M ds k kx ∧ (∀ v G' H' d, Step hs G H G' H' → Rel K G' v d → k d → Q v H') ∧ (∀ c G' H', Step hs G H G' H' → kx c → E c none H')
section
variable (K : PySem.W.Frag) (hs : Option (Addr × Addr))
end
section
variable {K : PySem.W.Frag} {hs : Option (Addr × Addr)} {ρ : List Sl} {k : D → Prop} {te : TE} {t u : TS} {tt : TT} {E : DEnds} {W : XK} {kx : Value → Prop} {tx : TA}
def tRaiseO (C : Addr) (W : XK) : TS := fun _ _ H => W (.ref C) none H
end
structure CalXF (P : Program) (w : World) (K : PySem.W.Frag) (mg : Str → Option Value) (base : Heap) (k : Nat) (x : Str) (ps : List Str) (hs : Option (Addr × Addr)) (M : List D → (D → Prop) → (Value → Prop) → Prop) (f : Addr) (fd : FuncData) : Prop where
 at_ : mg x = some (.ref f)
 keep : PySem.W.keepIn K (.ref f) = true
 binds : Binds K fd ps []
 look : ∃ (oc : Value) (od : Option Addr) (osl : Array (Option Value)), K.lookup f = some ⟨oc, od, .func fd, osl⟩
 ok : FnOk P w K mg base (L2.CX P w) k f fd ps (spE K hs M)
def CalX (P : Program) (w : World) (K : PySem.W.Frag) (mg : Str → Option Value) (base : Heap) (k : Nat) (x : Str) (ps : List Str) (hs : Option (Addr × Addr)) (M : List D → (D → Prop) → (Value → Prop) → Prop) : Prop := ∃ f fd, CalXF P w K mg base k x ps hs M f fd
section
variable {P : Program} {w : World} {K : PySem.W.Frag} {mg : Str → Option Value} {base : Heap} {hs : Option (Addr × Addr)} {x : Str} {st : Stmt} {N ps : List Str} {k j : Nat} {M : List D → (D → Prop) → (Value → Prop) → Prop} {M' : List D → (D → Prop) → Prop}
theorem CalX.mono (C : CalX P w K mg base k x ps hs M) (h : k ≤ j) : CalX P w K mg base j x ps hs M := by
 obtain ⟨f, fd, a, b, c, l, d⟩ := C
 exact ⟨f, fd, a, b, c, l, d.mono h⟩
theorem CalX.cal (C : CalX P w K mg base k x ps hs M) (h : ∀ ds kk, M' ds kk → M ds kk fun _ => False) : Cal P w K mg base k x ps hs M' := by
 obtain ⟨f, fd, a, b, c, l, d⟩ := C
 have up : ∀ vs H Q E, spD K hs M' vs H Q E → spE K hs M vs H Q E0 := fun vs H Q E ⟨G, ds, kk, f1, r1, m1, z⟩ => ⟨G, ds, kk, fun _ => False, f1, r1, h _ _ m1, z, fun _ _ _ _ q => q.elim⟩
 refine ⟨f, fd, a, b, c, l, ⟨fun vs H Q E q => d.len vs H Q E0 (up vs H Q E q), fun A outer s H args us vs Q E hr e0 bt rv q => ?_⟩⟩
 refine codeAny_mono (d.run A outer s H args us vs Q E0 hr e0 bt rv (up vs H Q E q)) fun r s' hq => ?_
 cases r with
 | ok fl => cases fl <;> exact hq
 | error e =>
  obtain ⟨_, _, _, _, _, _, _, _, _, _, _, _, z⟩ := hq
  exact z.elim
end
end PD
set_option Elab.async false
set_option linter.all false
set_option maxRecDepth 100000
set_option maxHeartbeats 4000000
namespace PD
open PySem PySem.Spec PyProof.Rows L2 NdefX LamX PySem.W
variable [Tabs]
def rCountV : V → List V → Hp → VK → Prop := fun x xs H Q => ∃ (a : Addr) (ys : List V) (y : V), x = .ref a ∧ xs = [y] ∧ H a = some (.lst ys) ∧ flatV y = true ∧ ys.all flatV = true ∧ Q (.int ((ys.countP fun z => eqV z y : Nat) : Int)) H
theorem countP_eqU {x : V} : ∀ {xs : List V} {us : List Value}, Vals xs us → xs.all flatV = true → us.countP (eqU x) = xs.countP fun y => eqV y x
 | [], [], .nil, _ => rfl
 | y :: xs, u :: us, .cons r t, h => by
  rw [List.all_cons, Bool.and_eq_true] at h
  rw [List.countP_cons, List.countP_cons, countP_eqU t h.2, eqU_of r h.1]
theorem mt_countV {X : Cx} : MtR X "list.count" rCountV := by
 intro pins s σ H x xs v us Q I r rs h
 obtain ⟨a, ys, y, rfl, rfl, ha, fy, fys, q⟩ := h
 obtain rfl : v = Value.ref a := r
 obtain ⟨u, rfl, ry⟩ := vals1 rs
 obtain ⟨hz, its, n0, rv, hob⟩ := I.hok a _ ha
 refine call_meets (B := Builtin.«list.count») PySem.F.slot_list_count ⟨_, hob, rfl⟩ PySem.F.entry_list_count rfl (PySem.SeqAt.list_countAt a its.toArray n0 none #[] u (eqU y)) ?_
 refine ⟨hob, fun z hz => mem_eqAt ry fy rv fys z (by simpa using hz), ?_⟩
 refine ⟨.int _, H, I.tok _, ⟨_, rfl⟩, ?_⟩
 rw [show its.toArray.toList = its from rfl, countP_eqU rv fys]
 exact q
section
variable {K : PySem.W.Frag} {hs : Option (Addr × Addr)} {ρ : List Sl} {k : D → Prop} {te : TE} {tx : TA}
theorem flat_bls : ∀ bs : List Bool, (bs.map V.bl).all flatV = true
 | [] => rfl
 | _ :: bs => by rw [List.map_cons, List.all_cons, flat_bls]; rfl
theorem d_countB (h : dE K hs te ρ fun x => ∃ bs : List Bool, x = .lst (bs.map D.bl) ∧ dA K hs tx ρ fun xs => ∃ b, xs = [.bl b] ∧ k (.int ((bs.count b : Nat) : Int))) : dE K hs (tBM K "list" rCountV te tx) ρ k := fun H0 σ G H Q f R z =>
 h H0 σ G H _ f R fun v G1 H1 x s1 r1 ⟨bs, ex, q1⟩ => by
  subst ex
  obtain ⟨a, vs, rfl, ga, rl⟩ := rel_lst r1
  have e := rel_bls rl
  subst e
  refine ⟨.inl ⟨rfl, _, SqL.of (s1.sub _ _ ga)⟩, q1 H0 σ G1 H1 _ s1.fr (R.step s1) fun us G2 H2 xs s2 r2 ⟨b, exs, q⟩ => ?_⟩
  subst exs
  cases r2 with
  | cons r2 rn =>
   cases rn
   rw [rel_bl r2]
   refine ⟨a, bs.map V.bl, .bl b, rfl, rfl, s2.sub _ _ (s2.exg _ _ ga), rfl, flat_bls bs, ?_⟩
   have e : (bs.map V.bl).countP (fun z => eqV z (.bl b)) = bs.count b := by
    rw [List.countP_map]
    rfl
   rw [e]
   exact z _ G2 H2 _ (s1.trans s2) .int q
theorem d_indexB (h : dE K hs te ρ fun x => ∃ bs : List Bool, x = .lst (bs.map D.bl) ∧ dA K hs tx ρ fun xs => ∃ (b : Bool) (j : Nat), xs = [.bl b] ∧ bs[j]? = some b ∧ (∀ m, m < j → bs[m]? ≠ some b) ∧ k (.int (j : Int))) : dE K hs (tBM K "list" (rIndex K) te tx) ρ k := fun H0 σ G H Q f R z =>
 h H0 σ G H _ f R fun v G1 H1 x s1 r1 ⟨bs, ex, q1⟩ => by
  subst ex
  obtain ⟨a, vs, rfl, ga, rl⟩ := rel_lst r1
  have e := rel_bls rl
  subst e
  refine ⟨.inl ⟨rfl, _, SqL.of (s1.sub _ _ ga)⟩, q1 H0 σ G1 H1 _ s1.fr (R.step s1) fun us G2 H2 xs s2 r2 ⟨b, j, exs, e1, e2, q⟩ => ?_⟩
  subst exs
  cases r2 with
  | cons r2 rn =>
   cases rn
   rw [rel_bl r2]
   refine ⟨a, bs.map V.bl, .bl b, j, .bl b, rfl, rfl, SqL.of (s2.sub _ _ (s2.exg _ _ ga)), rfl, flat_bls bs, ?_, ?_, fun m z' hm e3 => ?_, z _ G2 H2 _ (s1.trans s2) .int q⟩
   ·rw [List.getElem?_map, e1]
    rfl
   ·simp [eqV]
   ·rw [List.getElem?_map] at e3
    have n := e2 m hm
    cases c : bs[m]? with
    | none => rw [c] at e3; cases e3
    | some b' =>
     rw [c] at e3 n
     cases e3
     have : b' ≠ b := fun z => n (by rw [z])
     simpa [eqV] using this
end
theorem pe_bmK {X : Cx} {K : PySem.W.Frag} {o e : Expr} {es : List Expr} {to : TE} {t : TA} {name : Str} {apos cpos : Pos} {T id : String} {r : V → List V → Hp → VK → Prop} (hK : X.K = K) (h1 : PlainAttrs T) (h2 : Slot T name id) (h3 : typeOf (.builtin id) = pure (.type "method_descriptor")) (h4 : MtR X id r) (ho : PE X o to) (ha : PA X (e :: es) t)
  (hb : attributeBase o name X.env (eval o X.env) = eval o X.env := by rfl) (w : (((backTo cpos (starEach (e :: es) X.env)).all fun x => !x.1) && ((backToKw cpos (keywordEach [] X.env)).all fun x => x.1.isSome) && decide ((e :: es).length + ([] : List Keyword).length + (if ([] : List Keyword).isEmpty = true then 0 else 1) < 30)) = true := by rfl)
  (hl : (apos.endLine == cpos.line) = true := by rfl) (he : starEach (e :: es) X.env = (false, eval e X.env) :: starEach es X.env := by rfl) (hpl : (backTo cpos (starEach es X.env)).any (·.1) = false := by rfl) : PE X (.Call (.Attribute o name apos) (e :: es) [] cpos) (tBM K T r to t) := by
 subst hK
 exact pe_bm h1 h2 h3 h4 ho ha hb w hl he hpl
theorem takes_len {X : Cx} {W : WX} (tk : L2.Takes X W) : L2.Takes X fun cls d σ H => σ.length = X.N.length → W cls d σ H := fun u s' ⟨a, B, sI, pins, σ, H, cls, d, e1, I, e3, e4, e5, e6, e7, e8, w⟩ => tk u s' ⟨a, B, sI, pins, σ, H, cls, d, e1, I, e3, e4, e5, e6, e7, e8, w I.len⟩
theorem env_un {K : PySem.W.Frag} {hs : Option (Addr × Addr)} {H0 G H : Hp} {σ : L2.St} {n : Nat} (h : σ.length = n) : EnvR K hs H0 G H σ (List.replicate n .un) := by
 subst h
 refine ⟨by rw [List.length_replicate], fun i s e => ?_, fun i j ds es p q1 => ?_⟩
 ·rw [List.getElem?_replicate] at e
  split at e
  ·rename_i hi
   cases e
   exact ⟨σ[i], List.getElem?_eq_getElem hi, trivial⟩
  ·cases e
 ·rw [List.getElem?_replicate] at q1
  split at q1 <;> cases q1
section
variable {K : PySem.W.Frag} {hs : Option (Addr × Addr)} {ρ : List Sl} {k : D → Prop} {P : Addr} {nm : Nat → Nat → Str} {q : Str} {kx : Value → Str → Prop} {w0 : Str} {t : XK → TE}
end
end PD
set_option Elab.async false
set_option linter.all false
set_option maxRecDepth 100000
set_option maxHeartbeats 4000000
namespace PD
open PySem PySem.Spec PyProof.Rows L2 NdefX LamX PySem.W
variable [Tabs]
end PD
set_option Elab.async false
set_option linter.all false
set_option maxRecDepth 100000
set_option maxHeartbeats 4000000
namespace PD
open PySem PySem.Spec PyProof.Rows L2 NdefX LamX PySem.W
variable [Tabs]
section
variable {prog : Program} {w : World} {A : Around} {E : Value → Shared → Prop} {s : Shared}
theorem adjust_rev (n : Nat) : Builtin.Slice.sliceAdjust none none (-1) (n : Int) = ((n : Int) - 1, -1) := by
 unfold Builtin.Slice.sliceAdjust
 simp
theorem places_rev (n : Nat) : Builtin.Slice.slicePlaces ((n : Int) - 1) (-1) (-1) = n := by
 unfold Builtin.Slice.slicePlaces
 have h1 : ¬ ((-1 : Int) > 0) := by omega
 have e : ((n : Int) - 1 - -1 - 1) / - -1 = (n : Int) - 1 := by rw [show (- -1 : Int) = 1 by decide, Int.ediv_one]; omega
 simp only [h1, if_false, e]
 split <;> omega
theorem pick_rev (xs : Array Value) : ((List.range xs.size).filterMap fun (m : Nat) => xs[(((xs.size : Int) - 1) + (m : Int) * (-1)).toNat]?).toArray = xs.toList.reverse.toArray := by
 have e : (List.range xs.size).filterMap (fun (m : Nat) => xs[(((xs.size : Int) - 1) + (m : Int) * (-1)).toNat]?) = ((List.range xs.size).map fun k => xs.size - 1 - k).filterMap (xs[·]?) := by
  rw [List.filterMap_map]
  congr 1
  funext m
  show xs[(((xs.size : Int) - 1) + (m : Int) * (-1)).toNat]? = xs[xs.size - 1 - m]?
  congr 1
  omega
 rw [e, krv_range, List.filterMap_reverse, krv_all]
theorem sliceApplied_rev {sl : Addr} {vl vu vs : Value} {n : Nat} {Q : Int × Int × Nat → Shared → Prop} (hs : s.heap.IsSliceOf sl vl vu vs) (pl : IsPart vl none) (pu : IsPart vu none) (ps : IsPart vs (some (-1)))
  (h : Q ((n : Int) - 1, -1, n) s) : wpAny (model prog w) A (Builtin.Slice.sliceApplied (.ref sl) (pure (n : Int))) Q E s := by
 obtain ⟨os, hos, hcs, hds⟩ := id hs
 unfold Builtin.Slice.sliceApplied Builtin.Slice.sliceFields
 refine wpAny_bind (wpAny_bind (wpAny_field hos hds (x := vl) rfl (wpAny_bind (wpAny_field hos hds (x := vu) rfl (wpAny_bind (wpAny_field hos hds (x := vs) rfl (wpAny_pure ?_)))))))
 refine wpAny_bind (HT.slicePart_ ps ?_)
 show wpAny _ _ (if ((-1 : Int) == 0) = true then _ else _) _ _ s
 rw [if_neg (by decide)]
 refine wpAny_bind (HT.slicePart_ pl (wpAny_bind (HT.slicePart_ pu (wpAny_bind (wpAny_pure ?_)))))
 show wpAny _ _ (match Builtin.Slice.sliceAdjust none none (-1) (n : Int) with | (lo, hi) => pure (lo, (-1 : Int), Builtin.Slice.slicePlaces lo hi (-1))) _ _ s
 rw [adjust_rev n]
 show wpAny _ _ (pure ((n : Int) - 1, (-1 : Int), Builtin.Slice.slicePlaces ((n : Int) - 1) (-1) (-1))) _ _ s
 rw [places_rev]
 exact wpAny_pure h
theorem getItem_tuple_rev {t sl : Addr} {items : Array Value} {vl vu vs : Value} {Q : Value → Shared → Prop} (ht : IsTup s.heap t items) (hs : s.heap.IsSliceOf sl vl vu vs) (pl : IsPart vl none) (pu : IsPart vu none) (ps : IsPart vs (some (-1)))
  (h : Q (.ref s.heap.objs.size) { s with heap := s.heap.push { cls := .type "tuple", data := .seq items.toList.reverse.toArray } })
  (hsz : items.size ≤ sizeLine) : wpAny (model prog w) A (getItem (.ref t) (.ref sl)) Q E s := by
 have htake : sizeOk (.seq items.toList.reverse.toArray) := by
  show items.toList.reverse.toArray.size ≤ sizeLine
  rw [List.size_toArray, List.length_reverse, Array.length_toList]
  exact hsz
 obtain ⟨os, hos, hcs, hds⟩ := id hs
 have hTs : s.TypeIs (.ref sl) "slice" := ⟨os, hos, hcs⟩
 unfold getItem
 try with_reducible refine wpAny_holding ?_
 first | refine wpAny_bind (wpAny_pure ?_) | skip
 refine wpAny_bind (wpAny_sequenceKey ht.typeIs (by decide) ?_)
 refine wpAny_bind (wpAny_callSpecial?_slot (name := Str.ofString "__getitem__") ht.typeIs PyProof.Rows.slot_tuple_getitem
  (wpAny_call_entry PyProof.Rows.slot_tuple_getitem ht.typeIs PyProof.Rows.entry_tuple_getitem ?_ (PyProof.Rows.args_tuple_getitem _ _)))
 show wpAny _ _ (Builtin.Tuple.tupleItemsOf (.ref t) >>= _) _ _ s
 refine wpAny_bind (tupleItemsOf_ ht ?_)
 refine wpAny_bind (wpAny_typeOf hTs ?_)
 rw [if_pos (by decide)]
 refine wpAny_bind (sliceApplied_rev hs pl pu ps ?_)
 have hno : ¬ ((((items.size : Int) - 1) == 0 && (-1 : Int) == 1 && items.size == items.size) = true) := by
  intro q
  rw [Bool.and_eq_true, Bool.and_eq_true] at q
  exact absurd q.1.2 (by decide)
 show wpAny _ _ (if (((items.size : Int) - 1) == 0 && (-1 : Int) == 1 && items.size == items.size) = true then _ else _) _ _ s
 rw [if_neg hno, pick_rev]
 first
  | exact wpAny_bind (m := Builtin.Tuple.tupleExact _) (wpAny_newObj_type (wpAny_pure ⟨_, rfl, wpAny_pure h⟩) htake)
  | exact wpAny_bind (m := Builtin.Tuple.tupleExact _) (wpAny_newObj_type (wpAny_bind (wpAny_pure (wpAny_pure ⟨_, rfl, wpAny_pure h⟩))) htake)
  | exact wpAny_bind (wpAny_bind (m := Builtin.Tuple.tupleExact _) (wpAny_newObj_type (wpAny_pure (wpAny_pure ⟨_, rfl, wpAny_pure h⟩)) htake))
  | exact wpAny_bind (wpAny_bind (m := Builtin.Tuple.tupleExact _) (wpAny_newObj_type (wpAny_pure ⟨_, rfl, wpAny_pure h⟩) htake))
end
def tRevT (K : PySem.W.Frag) (te : TE) : TE := fun σ H Q => te σ H fun x H1 => ∃ a xs, x = .ref a ∧ SqT K H1 a xs ∧ ∀ p, H1 p = none → Q (.ref p) (upd H1 p (.tup xs.reverse))
theorem pe_revT {X : Cx} {e : Expr} {te : TE} {k : Nat} {p1 p2 p3 pos : Pos} (he : PE X e te) : PE X (.Subscript e (.Slice none none (some (.UnaryOp .USub (.Constant (.int 1) k p1) p2)) p3) pos) (tRevT X.K te) := by
 refine ⟨fun pins s σ H Q I h => ?_⟩
 refine Subscript_ (thn (he.run pins s σ H _ I h) fun v s1 ⟨x, H1, I1, r1, q1⟩ => ?_)
 obtain ⟨a, xs, ex, hx, q⟩ := q1
 subst ex
 cases r1
 have hst : PO X (some (.UnaryOp .USub (.Constant (.int 1) k p1) p2)) (tPart (tUn (rU fun i => .int (-i)) (tC (.int 1)))) := po_some (pe_un un_neg pe_int)
 refine wpAny_Slice (thn (po_none.run pins s1 σ H1 (fun o H2 => o = none ∧ H2 = H1) I1 ⟨rfl, rfl⟩) fun vl s2 ⟨l, H2, I2, pl, el, e2⟩ => ?_)
 subst el e2
 refine thn (po_none.run pins s2 σ H2 (fun o H3 => o = none ∧ H3 = H2) I2 ⟨rfl, rfl⟩) fun vu s3 ⟨u, H3, I3, pu, eu, e3⟩ => ?_
 subst eu e3
 refine thn (hst.run pins s3 σ H3 (fun o H4 => o = some (-1) ∧ H4 = H3) I3 ⟨1, rfl, -1, rfl, rfl, rfl⟩) fun vs s4 ⟨o, H4, I4, ps, eo, e4⟩ => ?_
 subst eo e4
 have I5 : Inv X pins σ H4 { s4 with heap := s4.heap.push { cls := .type "slice", data := .fields #[vl, vu, vs] } } := I4.kept (t' := s4.toks) fun b ob q => Heap.get?_push_of_some _ q
 obtain ⟨its, r, ht, hz⟩ := I5.tuple hx
 show wpAny (model X.prog X.w) X.A (subscriptTail e (.Slice none none (some (.UnaryOp .USub (.Constant (.int 1) k p1) p2)) p3) (.ref a) (.ref s4.heap.objs.size)) (EP X pins σ Q) X.xe { s4 with heap := s4.heap.push { cls := .type "slice", data := .fields #[vl, vu, vs] } }
 have hlen : its.toArray.size = xs.length := by rw [List.size_toArray]; exact r.length.symm
 refine tail_any (ops := [.ref a, .ref s4.heap.objs.size]) ht.typeIs PyProof.Rows.slot_tuple_getitem.lookup ?_ (by with_unfolding_all rfl)
 refine getItem_tuple_rev ht (Heap.IsSliceOf.new _ vl vu vs) pl pu ps ?_ (by rw [hlen]; exact hz)
 refine ⟨.ref _, _, I5.laid (t' := s4.toks) (o := .tup xs.reverse) (fun b ob q => Heap.get?_push_of_some _ q) (Nat.le_refl _) ?_, rfl, q _ (I5.hok.fresh (Nat.le_refl _))⟩
 exact ⟨by rw [List.length_reverse]; exact hz, _, r.reverse, IsTup.new _ _⟩
def rExtT (K : PySem.W.Frag) : V → List V → Hp → VK → Prop := fun x vs H Q => ∃ l b xs zs, x = .ref l ∧ vs = [.ref b] ∧ H l = some (.lst xs) ∧ SqT K H b zs ∧ xs.length + zs.length ≤ sizeLine ∧ Q .non (upd H l (.lst (xs ++ zs)))
theorem list_extend_tup (l : Addr) (items : Array Value) (n : Nat) (b : Addr) (items2 : Array Value) (n2 : Nat) (dd : Option Addr) (sl : Array (Option Value)) (hs0 : ¬(!items.isEmpty && Builtin.List.listTooLong (items.size + items2.size)) = true) (hs1 : items.size ≤ sizeLine) (hs2 : items.size + items2.size ≤ sizeLine + 1) :
  Meets (Builtin.«list.extend» ⟨[.ref l, .ref b], []⟩) (fun _ R s => s.heap.get? l = some { cls := .type "list", dict := none, data := .seq items n, slots := #[] } ∧ s.heap.get? b = some { cls := .type "tuple", dict := dd, data := .seq items2 n2, slots := sl } ∧ R (.ok (.ret Value.none)) { s with heap := s.heap.update l (Obj.mapSeq fun x => x ++ items2), toks := s.toks }) :=
 .of_wp fun prog w A R s h => by
  obtain ⟨hp, g, d, tk, os⟩ := s; obtain ⟨hl, hb, h⟩ := h; have f1 := AutoSeq1.idx_int; have f2 := AutoSeq1.sub_tuple_tuple; have f3 := AutoSeq1.sub_list_list; have f4 := AutoSeq1.sub_tuple_list; have f5 := AutoSeq1.sub_list_tuple;
  have hz' : (items ++ items2).size ≤ sizeLine + 1 := by rw [Array.size_append]; exact hs2
  wp_walk using (wpAny_updateSeq hl rfl (hz := hs1) (_hz' := hz')), AutoSeq1.wpAny_loadPart' hl, AutoSeq1.wpAny_loadPart' hb; exact ⟨_, rfl, h⟩
theorem mt_extendT {X : Cx} : MtM X "list.extend" (rExtT X.K) := by
 intro pins s σ H x vs v us Q I rx rv h
 obtain ⟨l, b, xs, zs, rfl, rfl, hH, hB, hz, q⟩ := h
 cases rx
 obtain ⟨u, rfl, ru⟩ := rv.one
 cases ru
 obtain ⟨z, its, n, r, hl, e⟩ := I.lstM hH
 obtain ⟨its2, r2, pl, hl2⟩ := I.tuple hB
 obtain ⟨⟨cls, dd, dt, sl⟩, ho, hc, n2, hd⟩ := pl
 simp only at hc hd
 subst hc
 subst hd
 have hsz : its.toArray.size + its2.toArray.size ≤ sizeLine := by rw [List.size_toArray, List.size_toArray, ← r2.length]; omega
 have hlong : ¬ (!its.toArray.isEmpty && Builtin.List.listTooLong (its.toArray.size + its2.toArray.size)) = true := by
  rw [notLongL hsz, Bool.and_false]
  exact Bool.false_ne_true
 refine call_meets PySem.F.slot_list_extend ⟨_, e, rfl⟩ PySem.F.entry_list_extend (PySem.F.args_list_extend_2 _ _)
  (list_extend_tup l its.toArray n b its2.toArray n2 dd sl hlong (by rw [List.size_toArray]; omega) (by omega)) ⟨e, ho, ?_⟩
 refine ⟨.non, _, I.lset (its' := its ++ its2) hH e (by simp) (r.append r2) ?_, rfl, q⟩
 rw [List.length_append]
 omega
section
variable {K : PySem.W.Frag} {hs : Option (Addr × Addr)} {ρ : List Sl} {te tb ta : TE} {k : D → Prop} {G : Hp} {E : DEnds} {tx : TA} {kl : List D → Prop}
theorem d_revT (h : dE K hs te ρ fun x => ∃ ds, x = .tup ds ∧ k (.tup ds.reverse)) : dE K hs (tRevT K te) ρ k := fun H0 σ G H Q f R z =>
 h H0 σ G H _ f R fun v G1 H1 x s1 r1 ⟨ds, e, q⟩ => by
  subst e
  obtain ⟨a, vs, rfl, hh, r⟩ := rel_tup r1
  refine ⟨a, vs, rfl, Same.tseq s1.sub hh, fun p hp => ?_⟩
  have s4 := Step.alloc (o := .tup vs.reverse) s1.sub s1.st hp
  exact z _ _ _ _ (s1.trans s4) (.tup (.inl (.inl upd_same)) (r.rev.mono s4.exg)) q
theorem s_extT {i : Nat} {ds : List D} (e : ρ[i]? = some (.own ds)) (h : dE K hs te ρ fun d => ∃ es, d = .tup es ∧ ds.length + es.length ≤ 100000 ∧ E.nx (ρ.set i (.own (ds ++ es)))) : dS K hs (tDrop (tBM K "list" (rExtT K) (tVar i) (tCons te tNil))) ρ E := fun G0 H0 Gb σ G H D s b R z => by
 obtain ⟨v, e1, p, vs, rfl, h0, ho, hg, hp, r⟩ := R.ownL e
 refine ⟨_, e1, .inl ⟨rfl, _, SqL.of hp⟩, h H0 σ G H _ s.fr R fun w G1 H1 d s1 r1 ⟨es, ed, hl, q⟩ => ?_⟩
 subst ed
 obtain ⟨l, ws, rfl, hb, r1⟩ := rel_tup r1
 obtain ⟨v', e1', p', vs', ep, h0', ho', hg', hp', r'⟩ := (R.step s1).ownL e
 rw [e1] at e1'
 cases e1'
 cases ep
 refine ⟨p, l, vs', ws, rfl, rfl, hp', Same.tseq s1.sub hb, sz (by rw [r'.length, r1.length]; exact hl), ?_⟩
 exact z.nx _ _ _ _ ((s.trans s1).mut h0 ho hg') (b.trans s1.exg) ((R.step s1).change e e1 h0' ho' hg' (.L <| r'.append r1)) q
theorem s_pop {i j : Nat} {ds : List D} {d : D} (e : ρ[i]? = some (.own (ds ++ [d]))) (h : E.nx ((ρ.set i (.own ds)).set j (.d d))) : dS K hs (tAsg (tBM0 K "list" rPop (tVar i)) (gName j)) ρ E := fun G0 H0 Gb σ G H D s b R z => by
 obtain ⟨v, e1, p, vs, rfl, h0, ho, hg, hp, r⟩ := R.ownL e
 refine ⟨_, e1, .inl ⟨rfl, _, SqL.of hp⟩, ?_⟩
 have hl : vs.length = ds.length + 1 := by rw [r.length]; simp
 obtain ⟨y, ey, ry⟩ := r.getD (i := ds.length) (d := d) (by simp)
 refine ⟨p, vs, y, rfl, rfl, hp, by rw [hl, Nat.add_sub_cancel]; exact ey, ?_⟩
 have rd : RelL K G vs.dropLast ds := by
  have := RelL.erase ds.length r
  rw [show vs.dropLast = vs.eraseIdx ds.length from by rw [List.eraseIdx_eq_dropLast]; omega]
  rw [show (ds ++ [d]).eraseIdx ds.length = ds from by simp [List.eraseIdx_append_of_length_le]] at this
  exact this
 have R2 := R.change e e1 h0 ho hg (.L rd)
 exact z.nx _ _ _ _ (s.mut h0 ho hg) b (R2.set (s := .d d) ⟨y, rfl, ry⟩ fun _ e => by cases e) h
end
end PD
set_option Elab.async false
set_option linter.all false
set_option maxRecDepth 100000
set_option maxHeartbeats 4000000
namespace PD
open PySem PySem.Spec PyProof.Rows L2 NdefX LamX PySem.W
variable [Tabs]
section
variable {K : PySem.W.Frag} {hs : Option (Addr × Addr)} {ρ : List Sl} {te tb ta : TE} {k : D → Prop} {G : Hp} {E : DEnds} {tx : TA} {kl : List D → Prop}
def rSplit : V → List V → Hp → VK → Prop := fun x xs H Q => ∃ a b, x = .str a ∧ xs = [.str b] ∧ (b.length == 0) = false ∧ a.length + 2 ≤ sizeLine ∧ rNewStrs (Txt.split a b) H Q
theorem l_split (h : dE K hs ta ρ fun x => ∃ a : Str, x = .str a ∧ dE K hs tb ρ fun y => ∃ b : Str, y = .str b ∧ (b.length == 0) = false ∧ a.length + 2 ≤ sizeLine ∧ kl (strsOf (Txt.split a b))) : dL K hs (tM1 rSplit ta tb) ρ kl := fun H0 σ G H Q f R z =>
 h H0 σ G H _ f R fun v G1 H1 x s1 r1 ⟨a, e1, h1⟩ => by
  subst e1
  refine ⟨⟨a, rel_str r1⟩, h1 H0 σ G1 H1 _ s1.fr (R.step s1) fun w G2 H2 y s2 r2 ⟨b, e2, hb, hl, q⟩ => ?_⟩
  subst e2
  refine ⟨a, b, rel_str r1, by rw [rel_str r2], hb, hl, fun p hp => ?_⟩
  have s := s1.trans s2
  have rr : ∀ l : List Str, RelL K G2 (l.map V.str) (strsOf l) := fun l => by
   induction l with
   | nil => exact .nil
   | cons x r ih => exact .cons .str ih
  exact z p _ G2 _ _ (s.trans (Step.fresh s.sub s.st hp)) (s.back hp) (Same.free s.sub hp) upd_same (rr _) q
theorem d_split (h : dE K hs ta ρ fun x => ∃ a : Str, x = .str a ∧ dE K hs tb ρ fun y => ∃ b : Str, y = .str b ∧ (b.length == 0) = false ∧ a.length + 2 ≤ sizeLine ∧ k (.lst (strsOf (Txt.split a b)))) : dE K hs (tM1 rSplit ta tb) ρ k := d_ofL (l_split h)
theorem d_isB {g : Str → Bool} (h : dE K hs ta ρ fun x => ∃ a : Str, x = .str a ∧ k (.bl (g a))) : dE K hs (tM0 (fun x xs H Q => ∃ a, x = .str a ∧ xs = [] ∧ True ∧ Q (.bl (g a)) H) ta) ρ k := fun H0 σ G H Q f R z =>
 h H0 σ G H _ f R fun v G1 H1 x s1 r1 ⟨a, e1, q⟩ => by
  subst e1
  exact ⟨⟨a, rel_str r1⟩, a, rel_str r1, rfl, trivial, z _ G1 H1 _ s1 .bl q⟩
theorem d_remP (h : dE K hs ta ρ fun x => ∃ a : Str, x = .str a ∧ dE K hs tb ρ fun y => ∃ b : Str, y = .str b ∧ a.length ≤ sizeLine ∧ k (.str (Txt.removeprefix a b))) :
  dE K hs (tM1 (fun x xs H Q => ∃ a b, x = .str a ∧ xs = [.str b] ∧ a.length ≤ sizeLine ∧ Q (.str (Txt.removeprefix a b)) H) ta tb) ρ k := fun H0 σ G H Q f R z =>
 h H0 σ G H _ f R fun v G1 H1 x s1 r1 ⟨a, e1, h1⟩ => by
  subst e1
  refine ⟨⟨a, rel_str r1⟩, h1 H0 σ G1 H1 _ s1.fr (R.step s1) fun w G2 H2 y s2 r2 ⟨b, e2, hl, q⟩ => ?_⟩
  subst e2
  exact ⟨a, b, rel_str r1, by rw [rel_str r2], hl, z _ G2 H2 _ (s1.trans s2) .str q⟩
theorem c_intT {a : Str} {n : Int} (h1 : PySem.intText? a = some n) (h2 : a.length ≤ 640) (q : k (.int n)) : dC K hs (fun xs H Q => ∃ a n, xs = [.str a] ∧ PySem.intText? a = some n ∧ a.length ≤ 640 ∧ Q (.int n) H) [.str a] k := fun G H vs Q f r z => by
 cases r with
 | cons r1 r2 =>
  cases r2
  rw [rel_str r1]
  exact ⟨a, n, rfl, h1, h2, z _ G H _ f.refl .int q⟩
theorem c_lenT {a : Str} (h : a.length ≤ 100000) (q : k (.int (a.length : Nat))) : dC K hs (fun xs H Q => ∃ z, xs = [.str z] ∧ z.length ≤ sizeLine ∧ Q (.int (z.length : Nat)) H) [.str a] k := fun G H vs Q f r z => by
 cases r with
 | cons r1 r2 =>
  cases r2
  rw [rel_str r1]
  exact ⟨a, rfl, sz h, z _ G H _ f.refl .int q⟩
theorem d_truO {kb : Bool → Prop} {i : Nat} {ds : List D} (e : ρ[i]? = some (.own ds)) (q : kb (!ds.isEmpty)) : dT K hs (fun σ H Q => tVar i σ H fun x H' => ∃ k, TruV K x H' k ∧ Q k H') ρ kb := fun H0 σ G H Q f R z => by
 obtain ⟨v, e1, p, vs, rfl, h0, ho, hg, hp, r⟩ := R.ownL e
 refine ⟨_, e1, !vs.isEmpty, .inl ⟨vs, SqL.of hp, rfl⟩, z _ G H f.refl ?_⟩
 have : vs.isEmpty = ds.isEmpty := by
  have := r.length
  cases vs <;> cases ds <;> first | rfl | (simp at this; done)
 rw [this]
 exact q
theorem r_addT {x y : Str} (h : x.length + y.length ≤ 100000) (q : k (.str (x ++ y))) : dR K hs (fun x y H Q => ∃ i j, x = .str i ∧ y = .str j ∧ i.length + j.length ≤ sizeLine ∧ Q (.str (i ++ j)) H) (.str x) (.str y) k := fun G H a b Q f r1 r2 z => by
 rw [rel_str r1, rel_str r2]
 exact ⟨x, y, rfl, rfl, sz h, z _ G H _ f.refl .str q⟩
theorem s_par {i j : Nat} (h : dA K hs tx ρ fun xs => ∃ x y, xs = [x, y] ∧ E.nx ((ρ.set i (.d x)).set j (.d y))) : dS K hs (tPar i j tx) ρ E := fun G0 H0 Gb σ G H D s b R z =>
 h H0 σ G H _ s.fr R fun vs G1 H1 xs s1 r ⟨x, y, e, q⟩ => by
  subst e
  cases r with
  | cons r1 r2 =>
   cases r2 with
   | cons r2 r3 =>
    cases r3
    refine ⟨_, _, rfl, ?_⟩
    exact z.nx _ _ _ _ (s.trans s1) (b.trans s1.exg) ((((R.step s1).set (s := .d x) ⟨_, rfl, r1⟩ fun _ e => by cases e)).set (s := .d y) ⟨_, rfl, r2⟩ fun _ e => by cases e) q
end
abbrev rAddT : R2 := fun x y H Q => ∃ i j, x = .str i ∧ y = .str j ∧ i.length + j.length ≤ sizeLine ∧ Q (.str (i ++ j)) H
end PD
set_option Elab.async false
set_option linter.all false
set_option maxRecDepth 100000
set_option maxHeartbeats 4000000
namespace PD
open PySem PySem.Spec PyProof.Rows L2 NdefX LamX PySem.W
variable [Tabs]
abbrev Fx := Option (Str × D)
def ExAt (K : PySem.W.Frag) (G : Hp) : Fx → Option Addr → Prop
 | none, d => d = none
 | some p, d => ∃ (dd : Addr) (v : V), d = some dd ∧ G dd = some (.xd [(p.1, v)]) ∧ Rel K G v p.2
theorem ExAt.mono {K : PySem.W.Frag} {G G' : Hp} {x : Fx} {d : Option Addr} (h : ExAt K G x d) (e : Same G G') : ExAt K G' x d := by
 cases x with
 | none => exact h
 | some p =>
  obtain ⟨dd, v, e1, e2, r⟩ := h
  exact ⟨dd, v, e1, e _ _ e2, r.mono e⟩
def spF (K : PySem.W.Frag) (hs : Option (Addr × Addr)) (M : List D → (D → Prop) → (Value → Fx → Prop) → Prop) : Sp := fun vs H Q E => ∃ (G : Hp) (ds : List D) (k : D → Prop) (kx : Value → Fx → Prop), Fr hs G H ∧ RelL K G vs ds ∧ M ds k kx ∧ (∀ v G' H' d, Step hs G H G' H' → Rel K G' v d → k d → Q v H') ∧
 (∀ c x d G' H', Step hs G H G' H' → ExAt K G' x d → kx c x → E c d H')
section
variable (K : PySem.W.Frag) (hs : Option (Addr × Addr))
def dFx (W : L2.St → XK) (kx : Value → Fx → Prop) (t : TE) (ρ : List Sl) (k : D → Prop) : Prop := ∀ (H0 : Hp) (σ : L2.St) (G H : Hp) (Q : VK), Fr hs G H → EnvR K hs H0 G H σ ρ → (∀ v G' H' d, Step hs G H G' H' → Rel K G' v d → k d → Q v H') →
 (∀ c x d G' H', Step hs G H G' H' → ExAt K G' x d → kx c x → W σ c d H') → t σ H Q
def dSf (W : XK) (kx : Value → Fx → Prop) (t : TS) (ρ : List Sl) (E : DEnds) : Prop := ∀ (G0 H0 Gb : Hp) (σ : L2.St) (G H : Hp) (D : Ends), Step hs G0 H0 G H → Same Gb G → EnvR K hs H0 G H σ ρ → Ends' K hs G0 H0 Gb E D →
 (∀ c x d G' H', Step hs G0 H0 G' H' → ExAt K G' x d → kx c x → W c d H') → t D σ H
end
section
variable {K : PySem.W.Frag} {hs : Option (Addr × Addr)} {ρ : List Sl} {k : D → Prop} {te : TE} {t u : TS} {tt : TT} {E : DEnds} {W : XK} {kx : Value → Fx → Prop} {tx : TA}
theorem fx_of {W : L2.St → XK} (h : dE K hs te ρ k) : dFx K hs W kx te ρ k := fun H0 σ G H Q f R z _ => h H0 σ G H Q f R z
theorem f_call {W : L2.St → XK} {M : List D → (D → Prop) → (Value → Fx → Prop) → Prop} (h : dA K hs tx ρ fun ds => M ds k kx) : dFx K hs W kx (tCallS (spF K hs M) W tx) ρ k := fun H0 σ G H Q f R z y =>
 h H0 σ G H _ f R fun vs G1 H1 ds s1 r q => ⟨G1, ds, k, kx, s1.fr, r, q, fun v G2 H2 d s2 r2 q2 => z v G2 H2 d (s1.trans s2) r2 q2, fun c x d G2 H2 s2 a q2 => y c x d G2 H2 (s1.trans s2) a q2⟩
theorem f_callP {W : L2.St → XK} {M : List D → (D → Prop) → (Value → Fx → Prop) → Prop} (h : dA K hs tx ρ fun ds => M ds k kx) : dFx K hs W kx (tCallS (spF K none M) W tx) ρ k := fun H0 σ G H Q f R z y =>
 h H0 σ G H _ f R fun vs G1 H1 ds s1 r q => ⟨G1, ds, k, kx, s1.fr.none, r, q, fun v G2 H2 d s2 r2 q2 => z v G2 H2 d (s1.trans (s2.lift s1.fr)) r2 q2, fun c x d G2 H2 s2 a q2 => y c x d G2 H2 (s1.trans (s2.lift s1.fr)) a q2⟩
theorem sf_of (h : dS K hs t ρ E) : dSf K hs W kx t ρ E := fun G0 H0 Gb σ G H D s b R z _ => h G0 H0 Gb σ G H D s b R z
theorem sf_seq (h : dSf K hs W kx t ρ { E with nx := fun ρ' => dSf K hs W kx u ρ' E }) : dSf K hs W kx (tSeq t u) ρ E := fun G0 H0 Gb σ G H D s b R z y =>
 h G0 H0 Gb σ G H _ s b R ⟨fun σ1 G1 H1 ρ1 s1 b1 R1 q => q G0 H0 Gb σ1 G1 H1 D s1 b1 R1 z y, z.rt, z.bk, z.ct⟩ y
theorem sf_if (h : dT K hs tt ρ fun b => (b = true → dSf K hs W kx t ρ E) ∧ (b = false → dSf K hs W kx u ρ E)) : dSf K hs W kx (tIfS tt t u) ρ E := fun G0 H0 Gb σ G H D s b R z y =>
 h H0 σ G H _ s.fr R fun c G1 H1 s1 ⟨q1, q2⟩ => by
  cases c with
  | true => rw [if_pos rfl]; exact q1 rfl G0 H0 Gb σ G1 H1 D (s.trans s1) (b.trans s1.exg) (R.step s1) z y
  | false => rw [if_neg Bool.false_ne_true]; exact q2 rfl G0 H0 Gb σ G1 H1 D (s.trans s1) (b.trans s1.exg) (R.step s1) z y
theorem sf_drop (h : dFx K hs (fun _ => W) kx te ρ fun _ => E.nx ρ) : dSf K hs W kx (tDrop te) ρ E := fun G0 H0 Gb σ G H D s b R z y =>
 h H0 σ G H _ s.fr R (fun v G1 H1 d s1 r q => z.nx σ G1 H1 ρ (s.trans s1) (b.trans s1.exg) (R.step s1) q) fun c x d G1 H1 s1 a q => y c x d G1 H1 (s.trans s1) a q
theorem sf_ret (h : dFx K hs (fun _ => W) kx te ρ E.rt) : dSf K hs W kx (tRet te) ρ E := fun G0 H0 Gb σ G H D s b R z y =>
 h H0 σ G H _ s.fr R (fun v G1 H1 d s1 r q => z.rt v G1 H1 d (s.trans s1) r q) fun c x d G1 H1 s1 a q => y c x d G1 H1 (s.trans s1) a q
theorem sf_raise {C : Addr} (h : kx (.ref C) none) : dSf K hs W kx (tRaiseO C W) ρ E := fun G0 H0 Gb σ G H D s b R z y => y _ none _ G H s rfl h
def spXI (fld : Str) (C : Addr) : Sp := fun vs H Q _ => ∃ (a : Addr) (y : V), vs = [.ref a, y] ∧ H a = some (exo a C none) ∧ ∀ dx, H dx = none → dx ≠ a → Q .non (upd (upd H dx (exd dx [(fld, y)])) a (exo a C (some dx)))
def tRaiseF (C : Addr) (fld : Str) (ta : TA) (W : XK) : TS := fun _ σ H => tMkO C (spXI fld C) [] ta σ H fun cls d H' => W cls d H'
theorem sf_raiseF {C : Addr} {fld : Str} {ta : TA} (h : dA K hs ta ρ fun xs => ∃ x, xs = [x] ∧ kx (.ref C) (some (fld, x))) : dSf K hs W kx (tRaiseF C fld ta W) ρ E := fun G0 H0 Gb σ G H D s b R z y =>
 h H0 σ G H _ s.fr R fun vs G1 H1 xs s1 r ⟨x, e, q⟩ => by
  subst e
  cases r with
  | @cons v _ _ _ r1 r2 =>
   cases r2
   refine ⟨by simp, fun a ha => ⟨a, v, rfl, upd_same, fun dx hdx nea => ⟨rfl, dx, [(fld, v)], upd_same, ?_, ?_, ?_⟩⟩⟩
   ·rw [upd_ne nea]
    exact upd_same
   ·rw [upd_ne nea] at hdx
    exact hdx
   ·have hd : H1 dx = none := by
     rw [upd_ne nea] at hdx
     exact hdx
    have e : upd (L2.del (upd (upd (upd H1 a (exo a C none)) dx (exd dx [(fld, v)])) a (exo a C (some dx))) a) dx (.xd [(fld, v)]) = upd H1 dx (.xd [(fld, v)]) := by
     funext b
     by_cases h1 : b = dx
     ·rw [h1, upd_same, upd_same]
     ·rw [upd_ne h1, upd_ne h1]
      by_cases h2 : b = a
      ·rw [h2, del_same, ha]
      ·rw [del_ne h2, upd_ne h2, upd_ne h1, upd_ne h2]
    rw [e]
    have s2 : Step hs G1 H1 (upd G1 dx (.xd [(fld, v)])) (upd H1 dx (.xd [(fld, v)])) := Step.alloc s1.sub s1.st hd
    exact y _ (some (fld, x)) _ _ _ ((s.trans s1).trans s2) ⟨dx, v, rfl, upd_same, r1.mono s2.exg⟩ q
theorem d_xfRaw {σ : L2.St} {G H : Hp} {Q : VK} {a C : Addr} {d : Option Addr} {f : Str} {x : D} {i : Nat} (fr : Fr hs G H) (e : σ[i]? = some (some (.ref a))) (h : ExAt K G (some (f, x)) d) (q : ∀ v, Rel K G v x → Q v H) : tXf a (.ref C) d C f (tVar i) σ H Q := by
 obtain ⟨dd, v, e1, e2, r⟩ := h
 exact ⟨_, e, rfl, rfl, dd, _, v, e1, fr.sub _ _ e2, by simp [List.lookup], q v r⟩
theorem sf_names {i j : Nat} {P : Addr} {nm : Nat → Nat → Str} {mk : Addr → NF} (hm : (P, nm) ∈ Tabs.T) (hu : ∀ p ∈ Tabs.T, p.1 = P → p.2 = nm) (hk : ∀ c, (mk c).c = c)
  (h : dE K hs te ρ fun x => ∃ ss : List Str, x = .lst (strsOf ss) ∧ ∀ c f l, dSf K hs W kx u ((ρ.set j (.d (.adr l))).set i (.d (.clo f (mk c) l ss))) E) : dSf K hs W kx (tSeq (tAsg te (gName j)) (tSeq (tNd P nm i mk) u)) ρ E := fun G0 H0 Gb σ G H D s b R z y =>
 h H0 σ G H _ s.fr R fun v G1 H1 x s1 r1 ⟨ss, e, q⟩ => by
  subst e
  obtain ⟨l, vs, rfl, hl, r⟩ := rel_lst r1
  have e := rel_strs r
  subst e
  have st := s.trans s1
  have b1 := b.trans s1.exg
  have R1 := (R.step s1).set (i := j) (v := some (.ref l)) (s := .d (.adr l)) ⟨_, rfl, .adr⟩ fun _ e => by cases e
  refine ⟨s1.st.1.tabs s1.sub _ hm, fun c f ps pos hP hc hn hf => ?_, fun c f ps qs hP hc nf hf tr all => ?_⟩
  ·obtain ⟨_, ps', e1, e2, e3⟩ := s1.st.1 _ hm
   have e1' : H1 P = some (.tbl ps') := e1
   rw [hP] at e1'
   cases e1'
   obtain ⟨c0, a1, a2⟩ := e3 pos _ hc
   cases a1
   have s2 := Step.alloc (o := FnO f (mk c)) s1.sub s1.st hf
   refine q c f l G0 H0 Gb _ _ _ D (st.trans s2) (b1.trans s2.exg) ((R1.step s2).set (s := .d (.clo f (mk c) l ss)) ⟨_, rfl, .clo upd_same ?_ (s2.exg _ _ hl)⟩ fun _ e => by cases e) z y
   rw [hk, ← hn]
   exact s2.exg _ _ a2
  ·have s2 := Step.grow (q := (mk c).qual) s1.sub s1.st hm hu hP hc tr all
   have hf2 : upd (upd H1 P (.tbl qs)) c (CodeO c (mk c).qual) f = none := by
    rw [upd_ne nf, upd_ne (fun z => by rw [z, hP] at hf; cases hf)]; exact hf
   have s3 := Step.alloc (o := FnO f (mk c)) s2.sub s2.st hf2
   have s4 := s2.trans s3
   refine q c f l G0 H0 Gb _ _ _ D (st.trans s4) (b1.trans s4.exg) ((R1.step s4).set (s := .d (.clo f (mk c) l ss)) ⟨_, rfl, .clo upd_same ?_ (s4.exg _ _ hl)⟩ fun _ e => by cases e) z y
   rw [hk]
   refine s3.exg _ _ ?_
   rw [upd_same]
end
structure CalYF (P : Program) (w : World) (K : PySem.W.Frag) (mg : Str → Option Value) (base : Heap) (k : Nat) (x : Str) (ps : List Str) (hs : Option (Addr × Addr)) (M : List D → (D → Prop) → (Value → Fx → Prop) → Prop) (f : Addr) (fd : FuncData) : Prop where
 at_ : mg x = some (.ref f)
 keep : PySem.W.keepIn K (.ref f) = true
 binds : Binds K fd ps []
 look : ∃ (oc : Value) (od : Option Addr) (osl : Array (Option Value)), K.lookup f = some ⟨oc, od, .func fd, osl⟩
 ok : FnOk P w K mg base (L2.CX P w) k f fd ps (spF K hs M)
def CalY (P : Program) (w : World) (K : PySem.W.Frag) (mg : Str → Option Value) (base : Heap) (k : Nat) (x : Str) (ps : List Str) (hs : Option (Addr × Addr)) (M : List D → (D → Prop) → (Value → Fx → Prop) → Prop) : Prop := ∃ f fd, CalYF P w K mg base k x ps hs M f fd
section
variable {P : Program} {w : World} {K : PySem.W.Frag} {mg : Str → Option Value} {base : Heap} {hs : Option (Addr × Addr)} {x : Str} {st : Stmt} {N ps : List Str} {k j : Nat} {M : List D → (D → Prop) → (Value → Fx → Prop) → Prop} {M' : List D → (D → Prop) → Prop}
theorem CalY.mono (C : CalY P w K mg base k x ps hs M) (h : k ≤ j) : CalY P w K mg base j x ps hs M := by
 obtain ⟨f, fd, a, b, c, l, d⟩ := C
 exact ⟨f, fd, a, b, c, l, d.mono h⟩
theorem CalY.cal (C : CalY P w K mg base k x ps hs M) (h : ∀ ds kk, M' ds kk → M ds kk fun _ _ => False) : Cal P w K mg base k x ps hs M' := by
 obtain ⟨f, fd, a, b, c, l, d⟩ := C
 have up : ∀ vs H Q E, spD K hs M' vs H Q E → spF K hs M vs H Q E0 := fun vs H Q E ⟨G, ds, kk, f1, r1, m1, z⟩ => ⟨G, ds, kk, fun _ _ => False, f1, r1, h _ _ m1, z, fun _ _ _ _ _ _ _ q => q.elim⟩
 refine ⟨f, fd, a, b, c, l, ⟨fun vs H Q E q => d.len vs H Q E0 (up vs H Q E q), fun A outer s H args us vs Q E hr e0 bt rv q => ?_⟩⟩
 refine codeAny_mono (d.run A outer s H args us vs Q E0 hr e0 bt rv (up vs H Q E q)) fun r s' hq => ?_
 cases r with
 | ok fl => cases fl <;> exact hq
 | error e =>
  obtain ⟨_, _, _, _, _, _, _, _, _, _, _, _, z⟩ := hq
  exact z.elim
theorem okY (F : DefT K mg x st) (S : FnScope N ps (defScope st))
  (hb : ∀ (kV doc pm : Value) (an : Option Addr) (cdv ct : Value) (us : List Value), us.length = ps.length → bindArgs (PySem.W.fnOf x x (defArgs st) (defBody st) (defScope st) .none kV doc pm an cdv ct) ⟨us, []⟩ = pure (ps.zip us))
  (len : ∀ ds k kx, M ds k kx → ds.length = ps.length)
  (hbody : ∀ (f : Addr) (cdv : Value) (A : Around) (outer : List Env) (s : Shared) (H : Hp) (E : XK) (ds : List D) (kk : D → Prop) (kx : Value → Fx → Prop), Room k (A.deeper (PyProof.Rows.envOfC x (defScope st) s.heap.objs.size f cdv)) → M ds kk kx →
   ∃ t, PSs (cxOf (L2.CX P w) P w K mg base N x (defScope st) f cdv A outer s H E) (defBody st) t ∧ dSf K hs E kx t (startD N ds) { nx := fun _ => kk .non, rt := kk }) : CalY P w K mg base (k + 1) x ps hs M := by
 obtain ⟨f, fd, h1, h2⟩ := F
 refine ⟨f, fd, h1, h2.kp, h2.bindsN hb, fd_look h2, ?_⟩
 refine h2.ok S (fun vs H Q E h => ?_) (fun cdv A outer s H vs Q E hr h => ?_)
 ·obtain ⟨G, ds, kk, kx, _, r, m, _⟩ := h
  rw [r.length]
  exact len ds kk kx m
 ·obtain ⟨G, ds, kk, kx, fr, r, m, z, y⟩ := h
  obtain ⟨t, ht, hd⟩ := hbody f cdv A outer s H E ds kk kx hr m
  exact ⟨t, ht, hd G H G _ G H _ fr.refl (Same.refl G) (env_start r) ⟨fun σ G' H' ρ s' _ _ q => z _ G' H' _ s' .non q, fun v G' H' d s' r' q => z v G' H' d s' r' q, fun _ _ _ _ _ _ _ q => q.elim, fun _ _ _ _ _ _ _ q => q.elim⟩ y⟩
theorem okYC {c : Addr} (F : DefT K mg x st) (hc : ∀ (f : Addr) (oc : Value) (od : Option Addr) (fd : FuncData) (osl : Array (Option Value)), mg x = some (.ref f) → K.lookup f = some ⟨oc, od, .func fd, osl⟩ → fd.code = .ref c) (S : FnScope N ps (defScope st))
  (hb : ∀ (kV doc pm : Value) (an : Option Addr) (cdv ct : Value) (us : List Value), us.length = ps.length → bindArgs (PySem.W.fnOf x x (defArgs st) (defBody st) (defScope st) .none kV doc pm an cdv ct) ⟨us, []⟩ = pure (ps.zip us))
  (len : ∀ ds k kx, M ds k kx → ds.length = ps.length)
  (hbody : ∀ (f : Addr) (A : Around) (outer : List Env) (s : Shared) (H : Hp) (E : XK) (ds : List D) (kk : D → Prop) (kx : Value → Fx → Prop), Room k (A.deeper (PyProof.Rows.envOfC x (defScope st) s.heap.objs.size f (.ref c))) → M ds kk kx →
   ∃ t, PSs (cxOf (L2.CX P w) P w K mg base N x (defScope st) f (.ref c) A outer s H E) (defBody st) t ∧ dSf K hs E kx t (startD N ds) { nx := fun _ => kk .non, rt := kk }) : CalY P w K mg base (k + 1) x ps hs M := by
 obtain ⟨f, fd, h1, h2⟩ := F
 refine ⟨f, fd, h1, h2.kp, h2.bindsN hb, fd_look h2, ?_⟩
 obtain ⟨oc, od, dV, kV, doc, pm, an, cdv, ct, osl, rfl, lk, hcd, _, _⟩ := h2.ex
 have e : cdv = .ref c := hc f oc od _ osl h1 lk
 subst e
 refine fn_of lk hcd S (fun vs H Q E h => ?_) fun A outer s H vs Q E hr h => ?_
 ·obtain ⟨G, ds, kk, kx, _, r, m, _⟩ := h
  rw [r.length]
  exact len ds kk kx m
 ·obtain ⟨G, ds, kk, kx, fr, r, m, z, y⟩ := h
  obtain ⟨t, ht, hd⟩ := hbody f A outer s H E ds kk kx hr m
  exact ⟨t, ht, hd G H G _ G H _ fr.refl (Same.refl G) (env_start r) ⟨fun σ G' H' ρ s' _ _ q => z _ G' H' _ s' .non q, fun v G' H' d s' r' q => z v G' H' d s' r' q, fun _ _ _ _ _ _ _ q => q.elim, fun _ _ _ _ _ _ _ q => q.elim⟩ y⟩
theorem pe_calY {X : Cx} {E : XK} {e : Expr} {es : List Expr} {t : TA} {p pos : Pos} (C : CalY X.prog X.w X.K X.mg X.base k x ps hs M) (tk : L2.Takes X fun cls d _ H => E cls d H) (hr : Room k X.A) (hg : Gl X x) (ha : PA X (e :: es) t) (hdb : (x == ("__debug__" : Str)) = false := by decide)
  (he : starEach (e :: es) X.env = (false, eval e X.env) :: starEach es X.env := by rfl) (hpl : (backTo pos (starEach es X.env)).any (·.1) = false := by rfl) : PE X (.Call (.Name x p) (e :: es) [] pos) (tCallS (spF X.K hs M) (fun _ => E) t) := by
 obtain ⟨f, fd, a, b, c, _, d⟩ := C
 exact pe_callS d hr hg a b c (fun σ pins H s e s' => passes_call tk (fun _ _ _ _ z => z) pins σ H s e s') ha hdb he hpl
end
def TWorkF (K : PySem.W.Frag) (kx : Value → Fx → D → Prop) (w0 : Str) (tl : XK → Hp → VK → Prop) (H : Hp) (Q : VK) : Prop := ∀ (E' : XK) (Q' : VK), (∀ c x d H' G' wd, Fr none G' H' → ExAt K G' x d → kx c x wd → (∀ v G'' H'', Step none G' H' G'' H'' → Rel K G'' v wd → Q v H'') → E' c d H') → (∀ v H', Q (.str w0) H' → Q' v H') → tl E' H Q'
section
variable {K : PySem.W.Frag} {hs : Option (Addr × Addr)} {ρ : List Sl} {k : D → Prop} {P : Addr} {nm : Nat → Nat → Str} {q : Str} {kx : Value → Fx → D → Prop} {w0 : Str} {t : XK → TE}
theorem d_lamF (hm : (P, nm) ∈ Tabs.T) (hu : ∀ p ∈ Tabs.T, p.1 = P → p.2 = nm) (h : ∀ (E : XK) (kb : D → Prop) (kr : Value → Fx → Prop), (∀ d, k (.str w0) → kb d) → (∀ c x wd, kx c x wd → k wd → kr c x) → dFx K hs (fun _ => E) kr (t E) ρ kb) : dE K hs (tLamE P nm q (TWorkF K kx w0) t) ρ k := fun H0 σ G H Q f R z => by
 have key : ∀ (G1 H1 : Hp), Step hs G H G1 H1 → TWorkF K kx w0 (fun E H' Q' => t E σ H' Q') H1 Q := fun G1 H1 s1 E' Q' he hq =>
  h E' (fun _ => k (.str w0)) (fun c x => ∃ wd, kx c x wd ∧ k wd) (fun _ q => q) (fun c x wd a b => ⟨wd, a, b⟩) H0 σ G1 H1 Q' s1.fr (R.step s1) (fun v G2 H2 d s2 r2 q2 => hq v H2 (z _ G2 H2 _ (s1.trans s2) .str q2))
   (fun c x d G2 H2 s2 a ⟨wd, q2, q3⟩ => he c x d H2 G2 wd s2.fr.none a q2 fun v G3 H3 s3 r3 => z _ G3 H3 _ ((s1.trans s2).trans (s3.lift s2.fr)) r3 q3)
 refine ⟨f.st.1.tabs f.sub _ hm, fun c ps pos hP hc hn hco => key G H f.refl, fun c ps qs hP hc tr all => ?_⟩
 exact key _ _ (Step.grow (q := q) f.sub f.st hm hu hP hc tr all)
end
def XdAt (d : Option Addr) (H : Hp) : Prop := d = none ∨ ∃ dd fs, d = some dd ∧ H dd = some (.xd fs)
theorem XdAt.new {d : Option Addr} {H : Hp} {p : Addr} {o : HO} (h : XdAt d H) (hp : H p = none) : XdAt d (upd H p o) := by
 rcases h with h | ⟨dd, fs, e1, e2⟩
 ·exact .inl h
 ·exact .inr ⟨dd, fs, e1, by rw [upd_ne (ne_of_none e2 hp)]; exact e2⟩
theorem XdAt.set {d : Option Addr} {H : Hp} {p : Addr} {o : HO} {xs : List V} (h : XdAt d H) (hp : H p = some (.lst xs)) : XdAt d (upd H p o) := by
 rcases h with h | ⟨dd, fs, e1, e2⟩
 ·exact .inl h
 ·exact .inr ⟨dd, fs, e1, by rw [upd_ne (fun z => by rw [z, hp] at e2; cases e2)]; exact e2⟩
theorem ExAt.xd {K : PySem.W.Frag} {hs : Option (Addr × Addr)} {G H : Hp} {x : Fx} {d : Option Addr} (h : ExAt K G x d) (f : Fr hs G H) : XdAt d H := by
 cases x with
 | none => exact .inl h
 | some p =>
  obtain ⟨dd, v, e1, e2, _⟩ := h
  exact .inr ⟨dd, _, e1, f.sub _ _ e2⟩
def rIsEx2 (K : PySem.W.Frag) (a : Addr) (cls : Value) (d : Option Addr) : List V → Hp → VK → Prop := fun xs H Q => ∃ (D : Addr) (c : V) (cv : Value) (b : Bool), cls = .ref D ∧ XdAt d H ∧ ExcC K D ∧ xs = [.ref a, c] ∧ (∀ u, RelV c u → u = cv) ∧ PySem.W.kitOne K (.ref D) cv = some b ∧ Q (.bl b) H
theorem call_isEx2 {X : Cx} {a : Addr} {cls : Value} {d : Option Addr} {oe : Obj} {pn : List (Addr × Obj)} (hz : Zc cls d oe) (hf : ∃ vs, oe.data = .fields vs) : CallR (X.suite a ((a, oe) :: pn)) (.builtin "isinstance") (rIsEx2 X.K a cls d) := by
 intro pins s σ H xs us Q I r h
 obtain ⟨D, c, cv, b, rfl, hx, C, rfl, hcv, e, q⟩ := h
 cases r with
 | cons rx rr =>
  cases rr with
  | cons rt rr =>
   cases rr
   cases rx
   have ec := hcv _ rt
   subst ec
   obtain ⟨hget, _⟩ := I.pin (a, oe) (List.mem_append.mpr (.inl List.mem_cons_self))
   obtain ⟨vs, hv⟩ := hf
   have hcl : (PySem.W.clsIn X.K D).isSome = true := by
    obtain ⟨cd, hc, _⟩ := PySem.W.any_some C.hd
    rw [hc]
    rfl
   have J : ∃ od, PySem.W.InstAt s.heap a oe D od := by
    rcases hx with rfl | ⟨dd, fs, rfl, hdd⟩
    ·refine ⟨none, ?_⟩
     obtain ⟨oc, od, oda, osl⟩ := oe
     obtain ⟨h1, h2⟩ := hz
     dsimp only at h1 h2 hv
     subst h1 h2 hv
     exact ⟨hget, rfl, rfl, trivial⟩
    ·have hxo : ObjOk X.prog X.w H s.heap dd (.xd fs) := I.hok dd _ hdd
     obtain ⟨mA, hns, hr⟩ := hxo
     obtain ⟨od, ho, hl⟩ := lookIn_ns hns
     exact ⟨some od, hget, hz.1, by unfold PySem.W.notCls; rw [hv] <;> rfl, by rw [hz.2]; exact ho⟩
   obtain ⟨od, J⟩ := J
   exact PySem.W.kia_one (PySem.W.kitx_exc hcl C.hg C.hk C.hs C.ha C.hn C.ht C.hm) I.kIn J e (fun z => nomatch z) fun tk => ⟨.bl b, H, I.kept (t' := tk) fun _ _ z => z, rfl, q⟩
theorem isE_raw {K : PySem.W.Frag} {a C : Addr} {d : Option Addr} {σ : L2.St} {H : Hp} {Q : VK} {T : V} {cv : Value} {b : Bool} {i : Nat} (E : ExcC K C) (e : σ[i]? = some (some (.ref a))) (x : XdAt d H) (ht : ∀ u, RelV T u → u = cv) (h : PySem.W.kitOne K (.ref C) cv = some b) (q : Q (.bl b) H) :
  (tCB (rIsEx2 K a (.ref C) d) (tCons (tVar i) (tCons (tC T) tNil))) σ H Q := ⟨_, e, C, T, cv, b, rfl, x, E, rfl, ht, h, q⟩
end PD
set_option Elab.async false
set_option linter.all false
set_option maxRecDepth 100000
set_option maxHeartbeats 4000000
namespace PD
open PySem PySem.Spec PyProof.Rows L2 NdefX LamX PySem.W
variable [Tabs]
abbrev rMulS : R2 := fun x y H Q => ∃ (z : Str) (n : Int), x = .str z ∧ y = .int n ∧ MulOk z n ∧ Q (.str (PySem.Txt.mul z n)) H
theorem op_mulS {X : Cx} : OpR X (binaryOp .Mult) rMulS := by
 intro pins s σ H x y v u Q I rx ry h
 obtain ⟨z, n, rfl, rfl, hz, q⟩ := h
 obtain ⟨t, rfl⟩ := rx
 obtain ⟨t', rfl⟩ := ry
 exact PySem.SB.mul hz (fun t' tk => ⟨.str _, H, I.tok _, ⟨_, rfl⟩, q⟩)
section
variable {K : PySem.W.Frag} {hs : Option (Addr × Addr)} {ρ : List Sl} {k : D → Prop} {te : TE} {E : DEnds}
theorem r_mulS {z : Str} {n : Int} (h : MulOk z n) (q : k (.str (PySem.Txt.mul z n))) : dR K hs rMulS (.str z) (.int n) k := fun G H v u Q f r1 r2 zz => by
 obtain rfl := rel_str r1
 obtain rfl := rel_int r2
 exact ⟨z, n, rfl, rfl, h, zz _ G H _ f.refl .str q⟩
theorem s_swap {i a b : Nat} {ds : List D} {n m : Nat} {x y : D} (e : ρ[i]? = some (.own ds)) (ea : ρ[a]? = some (.d (.int (n : Int)))) (eb : ρ[b]? = some (.d (.int (m : Int)))) (hx : ds[n]? = some x) (hy : ds[m]? = some y)
  (h : E.nx (ρ.set i (.own ((ds.set n y).set m x)))) :
  dS K hs (tAsg (tTup (tCons (tOp (rIx K) (tVar i) (tVar b)) (tCons (tOp (rIx K) (tVar i) (tVar a)) tNil))) (gTup K 2 (gCons (gSub (tVar i) (tVar a) rSetL) (gCons (gSub (tVar i) (tVar b) rSetL) gNil)))) ρ E := fun G0 H0 Gb σ G H D s b0 R z => by
 obtain ⟨v, e1, p, vs, rfl, h0, ho, hg, hp, r⟩ := R.ownL e
 obtain ⟨va, a1, ra⟩ := R.var ea
 obtain ⟨vb, b1, rb⟩ := R.var eb
 obtain rfl := rel_int ra
 obtain rfl := rel_int rb
 have hn : n < ds.length := (List.getElem?_eq_some_iff.mp hx).1
 have hm : m < ds.length := (List.getElem?_eq_some_iff.mp hy).1
 obtain ⟨x', ex, rx⟩ := r.getD hx
 obtain ⟨y', ey, ry⟩ := r.getD hy
 refine ⟨_, e1, _, b1, .inl ⟨p, vs, _, y', rfl, rfl, SqL.of hp, atI_nat ey, ?_⟩⟩
 refine ⟨_, e1, _, a1, .inl ⟨p, vs, _, x', rfl, rfl, SqL.of hp, atI_nat ex, ?_⟩⟩
 refine ⟨(show (2 : Nat) ≤ sizeLine by decide), fun t ht => ?_⟩
 have s1 : Step hs G H (upd G t (.tup [y', x'])) (upd H t (.tup [y', x'])) := Step.alloc s.sub s.st ht
 have R1 := R.step s1
 have st1 := s.trans s1
 obtain ⟨v', e1', p', vs', ep, h0', ho', hg', hp', r'⟩ := R1.ownL e
 rw [e1] at e1'
 cases e1'
 cases ep
 have hp2 := hp'
 rw [upd_ne (ne_of_none hp ht)] at hp2
 rw [hp] at hp2
 cases hp2
 refine ⟨t, [y', x'], rfl, .inl (.inl upd_same), rfl, ?_⟩
 refine ⟨_, _, rfl, _, e1, _, a1, ?_⟩
 refine ⟨p, vs, _, n, rfl, rfl, hp', ixN_nat (by rw [r.length]; exact hn), ?_⟩
 refine ⟨_, _, rfl, _, e1, _, b1, ?_⟩
 refine ⟨p, vs.set n y', _, m, rfl, rfl, upd_same, ixN_nat (by rw [List.length_set, r.length]; exact hm), ?_⟩
 have eu : ∀ o1 o2 : HO, upd (upd (upd H t (.tup [y', x'])) p o1) p o2 = upd (upd H t (.tup [y', x'])) p o2 := fun o1 o2 => by
  funext c
  by_cases hc : c = p
  ·rw [hc, upd_same, upd_same]
  ·rw [upd_ne hc, upd_ne hc, upd_ne hc]
 rw [eu]
 exact ⟨rfl, z.nx _ _ _ _ (st1.mut h0' ho' hg') (b0.trans s1.exg) (R1.change e e1 h0' ho' hg' (.L <| RelL.put (rx.mono s1.exg) m (RelL.put (ry.mono s1.exg) n r'))) h⟩
theorem d_lenO2 {i : Nat} {es : List D} (e : ρ[i]? = some (.own es)) (q : k (.int (es.length : Nat))) : dE K hs (tCB (rLenQ K) (tCons (tVar i) tNil)) ρ k := fun H0 σ G H Q f R z => by
 obtain ⟨v, e1, p, vs, rfl, h0, ho, hg, hp, r⟩ := R.ownL e
 refine ⟨_, e1, p, vs, rfl, .inl (SqL.of hp), ?_⟩
 rw [r.length]
 exact z _ G H _ f.refl .int q
end
end PD
set_option Elab.async false
set_option linter.all false
set_option maxRecDepth 100000
set_option maxHeartbeats 1000000
namespace Pr
open PySem L2 PD
variable [Tabs]
section
variable {P : Program} {w : World} {K : PySem.W.Frag} {mg : Str → Option Value} {base : Heap}
def M_size (n : Nat) (fa ff : Addr) : List D → (D → Prop) → Prop := fun ds k => ∃ (b : B) (a : Int), ds = [b.toD, .adr fa, .adr ff, .int a] ∧ b.ok ∧ 0 ≤ a ∧ a + b.depth ≤ 10 ∧ b.depth ≤ n ∧ k (.int (b.size : Nat))
theorem depth_pos (b : B) : 1 ≤ b.depth := by cases b <;> simp [B.depth]
theorem size_pos (b : B) : 1 ≤ b.size := by cases b <;> simp [B.size]
theorem ok_size {fa ff : Addr} {fda fdf : FuncData} (T : Txt w K mg) (Ca : CalF P w K mg base 1 "body_arms" ["word"] none M_body_arms fa fda) (Cf : CalF P w K mg base 2 "fits_body" ["sort", "arm"] none M_fits ff fdf) :
  ∀ n : Nat, CalV P w K mg base (n + 3) "size_of" ["nest", "arms_of", "fits", "around"] none (M_size n fa ff) [.int 0] := by
 intro n
 induction n with
 | zero =>
  refine okV T.f_size_of sc_size_of 3 (by decide) rfl (fun _ _ _ _ _ _ _ us its hl hi => match us, hl, its, hi with | [_, _, _], _, [_], _ => ⟨_, rfl, rfl⟩) (fun _ _ _ _ _ _ _ us its hl hi => match us, hl, its, hi with | [_, _, _, _], _, [_], _ => ⟨_, rfl, rfl⟩) (fun ds k h => ?_) (fun f cdv A outer s H E ds kk hr h => ?_)
  ·obtain ⟨_, _, rfl, _⟩ := h
   rfl
  ·obtain ⟨b, _, _, _, _, _, h, _⟩ := h
   have := depth_pos b
   omega
 | succ n ih =>
  have C_size_of := ih.cal
  refine okV T.f_size_of sc_size_of 3 (by decide) rfl (fun _ _ _ _ _ _ _ us its hl hi => match us, hl, its, hi with | [_, _, _], _, [_], _ => ⟨_, rfl, rfl⟩) (fun _ _ _ _ _ _ _ us its hl hi => match us, hl, its, hi with | [_, _, _, _], _, [_], _ => ⟨_, rfl, rfl⟩) (fun ds k h => ?_) (fun f cdv A outer s H E ds kk hr h => ?_)
  ·obtain ⟨_, _, rfl, _⟩ := h
   rfl
  obtain ⟨b, a, rfl, hb, h0, h1, h2, q⟩ := h
  obtain ⟨tm, gM⟩ := T.AROUND
  refine ⟨_, (pss_cons (ps_if (PW.pt (pw_or (pt_cmpR op_gt (pv 3) (pe_gint rfl gM) (nomark _)) (pw_or (pt_not (pt_val (pe_callB (r := rIsi K) (id := "isinstance")  call_isi (by rfl) T.z_isinstance (by decide +kernel) (pa_cons (pv 0) (pa_cons (pe_bty (n := "tuple") rfl T.z_tuple (by decide +kernel)) pa_nil))))) (pw_or1 (pt_not (pt_truth (pv 0) (by intro _; rfl))))))) (pss_one (ps_ret pe_int)) pss_nil)
   (pss_cons (ps_set (i := 4) sc_size_of.nd rfl (by first | exact Or.inl rfl | exact Or.inr rfl) (pe_callL (i := 1) Ca.ok (hr.mono (by omega)) rfl (by first | exact Or.inl rfl | exact Or.inr (Or.inl rfl)) Ca.keep Ca.binds .nil pass0 (pa_cons (pe_ix (r := rIx K) ix_seq (pv 0) pe_int (fun _ _ => rfl)) pa_nil)))
   (pss_cons (ps_if (PW.pt (pw_or (pt_cmpR op_isN (pv 4) pe_non (nomark _)) (pw_or1 (pt_cmpR op_ne (pe_callB (r := rLenQ K) (id := "len")  call_len_seq (by rfl) T.z_len PySem.boot_len (pa_cons (pv 4) pa_nil)) (pe_op op_sub (pe_callB (r := rLenQ K) (id := "len")  call_len_seq (by rfl) T.z_len PySem.boot_len (pa_cons (pv 0) pa_nil)) pe_int) (nomark _))))) (pss_one (ps_ret pe_int)) pss_nil)
   (pss_cons (ps_set (i := 5) sc_size_of.nd rfl (by first | exact Or.inl rfl | exact Or.inr rfl) pe_int)
   (pss_cons (ps_for PassesOwn.never rfl (RZ.pi_zipA (by rfl) T.z_zip (pa_cons (pv 4) (pa_cons (pe_slice (r := rSlA K) sl_tupA (pv 0) (po_some pe_int) po_none) pa_nil))) (pg_tupK (K := K) (n := 2) rfl rfl (pgs_cons (pg_name (i := 6) sc_size_of.nd rfl (by first | exact Or.inl rfl | exact Or.inr rfl)) (pgs_cons (pg_name (i := 7) sc_size_of.nd rfl (by first | exact Or.inl rfl | exact Or.inr rfl)) pgs_nil))) (pss_one (ps_if (pt_cmpR op_eq (pv 6) pe_str (nomark _)) (pss_cons (ps_set (i := 8) sc_size_of.nd rfl (by first | exact Or.inl rfl | exact Or.inr rfl) (pe_calK (K := K) rfl C_size_of (hr.mono (by first | decide | omega)) rfl (pa_cons (pv 7) (pa_cons (pv 1) (pa_cons (pv 2) (pa_cons (pe_op op_add (pv 3) pe_int) pa_nil))))))
   (pss_cons (ps_if (pt_cmpR op_eq (pv 8) pe_int (nomark _)) (pss_one (ps_ret pe_int)) pss_nil)
   (pss_one (ps_aug (i := 5) sc_size_of.nd rfl (by first | exact Or.inl rfl | exact Or.inr rfl) (pv 8) ip_add)))) (pss_one (ps_if (pt_not (pt_val (pe_callL (i := 2) Cf.ok (hr.mono (by omega)) rfl (by first | exact Or.inl rfl | exact Or.inr (Or.inl rfl)) Cf.keep Cf.binds .nil pass0 (pa_cons (pv 6) (pa_cons (pv 7) pa_nil))))) (pss_one (ps_ret pe_int)) pss_nil)))))
   (pss_one (ps_ret (pv 5)))))))), ?_⟩
  try dsimp only [cxOf]
  change dS _ _ _ [Sl.d _, Sl.d _, Sl.d _, Sl.d _, Sl.un, Sl.un, Sl.un, Sl.un, Sl.un] _
  have hd := depth_pos b
  have hna : decide ((9 : Int) < a) = false := decide_eq_false (by omega)
  have sz0 : ∀ x : B, decide ((x.size : Int) = 0) = false := fun x => decide_eq_false (by have := size_pos x; omega)
  have fin : ∀ {i j : Int}, kk (.int i) → i = j → kk (.int j) := fun h e => e ▸ h
  cases b <;> dsimp only [B.toD] <;> simp only [B.ok] at hb <;> simp only [B.depth] at h1 h2
  case num m =>
   have ha : (("number" : Str), (["number"] : List Str)) ∈ armsTab := by decide
   have hf : (!(decide (-99 ≤ m) && decide (m ≤ 99))) = false := by simp [hb.1, hb.2]
   refine s_seq (s_if (d_or (d_test (d_op (d_var rfl ?_)))))
   refine d_c rfl ?_
   refine r_I0 rfl ?_
   refine ⟨_, rfl, (br_f (by assumption) ?_)⟩
   refine d_or (d_not (d_tB (d_cb (d_cons (d_var rfl ?_)))))
   refine d_cons (d_c rfl ?_)
   refine d_nil (c_tup (by with_unfolding_all rfl) ?_)
   refine ⟨_, rfl, (br_f (by with_unfolding_all rfl) ?_)⟩
   refine d_not (d_truth (d_var rfl ?_))
   refine truOk_tup (br_f (by with_unfolding_all rfl) ?_)
   refine s_next (s_seq (s_set (d_callLP rfl ?_)))
   refine d_cons (d_op (d_var rfl ?_))
   refine d_c rfl ?_
   refine r_ix (.inr (r_ixT rfl ?_))
   refine d_nil ?_
   dsimp only
   refine ⟨_, _, rfl, ha, (s_seq (s_if (d_or (d_test (d_op (d_var rfl ?_))))))⟩
   refine d_c rfl ?_
   refine r_isN ⟨_, rfl, (br_f (by with_unfolding_all rfl) ?_)⟩
   refine d_test (d_op (d_cb (d_cons (d_var rfl ?_))))
   refine d_nil (c_lenS (.inr rfl) (d_op (d_cb (d_cons (d_var rfl ?_)))))
   refine d_nil (c_lenS (.inr rfl) (d_c rfl ?_))
   refine r_I0 rfl ?_
   refine r_neI ⟨_, rfl, (br_f (by with_unfolding_all rfl) ?_)⟩
   refine s_next (s_seq (s_set (d_c rfl ?_)))
   refine s_seq (s_for (i_zipT (d_cons (d_var rfl ?_))))
   refine d_cons (d_slT1 (d_var rfl ?_))
   refine ⟨_, _, rfl, (d_nil ⟨_, _, rfl, ?_⟩)⟩
   ((with_reducible refine forW_id ?_); refine forW_pair ?_)
   ((with_reducible refine g_tid ?_); refine g_tup rfl ?_)
   refine gs_cons (g_name (gs_cons (g_name (gs_nil (s_if (d_test (d_op (d_var rfl ?_))))))))
   refine d_c rfl ?_
   refine r_eqS ⟨_, rfl, (br_f (by with_unfolding_all rfl) ?_)⟩
   refine s_if (d_not (d_tB (d_callLP rfl ?_)))
   refine d_cons (d_var rfl ?_)
   refine d_cons (d_var rfl ?_)
   refine d_nil ?_
   dsimp only
   refine Or.inl ⟨_, rfl, ⟨_, rfl, (br_f (by assumption) ?_)⟩⟩
   refine s_next ?_
   ((with_reducible refine forW_id ?_); refine forW_pnil ?_)
   refine s_ret (d_var rfl ?_)
   dsimp only
   rotate_left
   exact q
  case tru m =>
   have ha : (("truth" : Str), (["truth"] : List Str)) ∈ armsTab := by decide
   refine s_seq (s_if (d_or (d_test (d_op (d_var rfl ?_)))))
   refine d_c rfl ?_
   refine r_I0 rfl ?_
   refine ⟨_, rfl, (br_f (by assumption) ?_)⟩
   refine d_or (d_not (d_tB (d_cb (d_cons (d_var rfl ?_)))))
   refine d_cons (d_c rfl ?_)
   refine d_nil (c_tup (by with_unfolding_all rfl) ?_)
   refine ⟨_, rfl, (br_f (by with_unfolding_all rfl) ?_)⟩
   refine d_not (d_truth (d_var rfl ?_))
   refine truOk_tup (br_f (by with_unfolding_all rfl) ?_)
   refine s_next (s_seq (s_set (d_callLP rfl ?_)))
   refine d_cons (d_op (d_var rfl ?_))
   refine d_c rfl ?_
   refine r_ix (.inr (r_ixT rfl ?_))
   refine d_nil ?_
   dsimp only
   refine ⟨_, _, rfl, ha, (s_seq (s_if (d_or (d_test (d_op (d_var rfl ?_))))))⟩
   refine d_c rfl ?_
   refine r_isN ⟨_, rfl, (br_f (by with_unfolding_all rfl) ?_)⟩
   refine d_test (d_op (d_cb (d_cons (d_var rfl ?_))))
   refine d_nil (c_lenS (.inr rfl) (d_op (d_cb (d_cons (d_var rfl ?_)))))
   refine d_nil (c_lenS (.inr rfl) (d_c rfl ?_))
   refine r_I0 rfl ?_
   refine r_neI ⟨_, rfl, (br_f (by with_unfolding_all rfl) ?_)⟩
   refine s_next (s_seq (s_set (d_c rfl ?_)))
   refine s_seq (s_for (i_zipT (d_cons (d_var rfl ?_))))
   refine d_cons (d_slT1 (d_var rfl ?_))
   refine ⟨_, _, rfl, (d_nil ⟨_, _, rfl, ?_⟩)⟩
   ((with_reducible refine forW_id ?_); refine forW_pair ?_)
   ((with_reducible refine g_tid ?_); refine g_tup rfl ?_)
   refine gs_cons (g_name (gs_cons (g_name (gs_nil (s_if (d_test (d_op (d_var rfl ?_))))))))
   refine d_c rfl ?_
   refine r_eqS ⟨_, rfl, (br_f (by with_unfolding_all rfl) ?_)⟩
   refine s_if (d_not (d_tB (d_callLP rfl ?_)))
   refine d_cons (d_var rfl ?_)
   refine d_cons (d_var rfl ?_)
   refine d_nil ?_
   dsimp only
   refine Or.inr (Or.inl ⟨_, rfl, ⟨_, rfl, (br_f (by with_unfolding_all rfl) ?_)⟩⟩)
   refine s_next ?_
   ((with_reducible refine forW_id ?_); refine forW_pnil ?_)
   refine s_ret (d_var rfl ?_)
   dsimp only
   rotate_left
   exact q
  case emp =>
   have ha : (("empty" : Str), ([] : List Str)) ∈ armsTab := by decide
   refine s_seq (s_if (d_or (d_test (d_op (d_var rfl ?_)))))
   refine d_c rfl ?_
   refine r_I0 rfl ?_
   refine ⟨_, rfl, (br_f (by assumption) ?_)⟩
   refine d_or (d_not (d_tB (d_cb (d_cons (d_var rfl ?_)))))
   refine d_cons (d_c rfl ?_)
   refine d_nil (c_tup (by with_unfolding_all rfl) ?_)
   refine ⟨_, rfl, (br_f (by with_unfolding_all rfl) ?_)⟩
   refine d_not (d_truth (d_var rfl ?_))
   refine truOk_tup (br_f (by with_unfolding_all rfl) ?_)
   refine s_next (s_seq (s_set (d_callLP rfl ?_)))
   refine d_cons (d_op (d_var rfl ?_))
   refine d_c rfl ?_
   refine r_ix (.inr (r_ixT rfl ?_))
   refine d_nil ?_
   dsimp only
   refine ⟨_, _, rfl, ha, (s_seq (s_if (d_or (d_test (d_op (d_var rfl ?_))))))⟩
   refine d_c rfl ?_
   refine r_isN ⟨_, rfl, (br_f (by with_unfolding_all rfl) ?_)⟩
   refine d_test (d_op (d_cb (d_cons (d_var rfl ?_))))
   refine d_nil (c_lenS (.inr rfl) (d_op (d_cb (d_cons (d_var rfl ?_)))))
   refine d_nil (c_lenS (.inr rfl) (d_c rfl ?_))
   refine r_I0 rfl ?_
   refine r_neI ⟨_, rfl, (br_f (by with_unfolding_all rfl) ?_)⟩
   refine s_next (s_seq (s_set (d_c rfl ?_)))
   refine s_seq (s_for (i_zipT (d_cons (d_var rfl ?_))))
   refine d_cons (d_slT1 (d_var rfl ?_))
   refine ⟨_, _, rfl, (d_nil ⟨_, _, rfl, ?_⟩)⟩
   ((with_reducible refine forW_id ?_); refine forW_pnil ?_)
   refine s_ret (d_var rfl ?_)
   dsimp only
   rotate_left
   exact q
  case arg =>
   have ha : (("argument" : Str), ([] : List Str)) ∈ armsTab := by decide
   refine s_seq (s_if (d_or (d_test (d_op (d_var rfl ?_)))))
   refine d_c rfl ?_
   refine r_I0 rfl ?_
   refine ⟨_, rfl, (br_f (by assumption) ?_)⟩
   refine d_or (d_not (d_tB (d_cb (d_cons (d_var rfl ?_)))))
   refine d_cons (d_c rfl ?_)
   refine d_nil (c_tup (by with_unfolding_all rfl) ?_)
   refine ⟨_, rfl, (br_f (by with_unfolding_all rfl) ?_)⟩
   refine d_not (d_truth (d_var rfl ?_))
   refine truOk_tup (br_f (by with_unfolding_all rfl) ?_)
   refine s_next (s_seq (s_set (d_callLP rfl ?_)))
   refine d_cons (d_op (d_var rfl ?_))
   refine d_c rfl ?_
   refine r_ix (.inr (r_ixT rfl ?_))
   refine d_nil ?_
   dsimp only
   refine ⟨_, _, rfl, ha, (s_seq (s_if (d_or (d_test (d_op (d_var rfl ?_))))))⟩
   refine d_c rfl ?_
   refine r_isN ⟨_, rfl, (br_f (by with_unfolding_all rfl) ?_)⟩
   refine d_test (d_op (d_cb (d_cons (d_var rfl ?_))))
   refine d_nil (c_lenS (.inr rfl) (d_op (d_cb (d_cons (d_var rfl ?_)))))
   refine d_nil (c_lenS (.inr rfl) (d_c rfl ?_))
   refine r_I0 rfl ?_
   refine r_neI ⟨_, rfl, (br_f (by with_unfolding_all rfl) ?_)⟩
   refine s_next (s_seq (s_set (d_c rfl ?_)))
   refine s_seq (s_for (i_zipT (d_cons (d_var rfl ?_))))
   refine d_cons (d_slT1 (d_var rfl ?_))
   refine ⟨_, _, rfl, (d_nil ⟨_, _, rfl, ?_⟩)⟩
   ((with_reducible refine forW_id ?_); refine forW_pnil ?_)
   refine s_ret (d_var rfl ?_)
   dsimp only
   rotate_left
   exact q
  case cel c =>
   have ha : (("cell" : Str), (["cell"] : List Str)) ∈ armsTab := by decide
   have hf : (!decide (c ∈ cellsS)) = false := by simp [hb]
   refine s_seq (s_if (d_or (d_test (d_op (d_var rfl ?_)))))
   refine d_c rfl ?_
   refine r_I0 rfl ?_
   refine ⟨_, rfl, (br_f (by assumption) ?_)⟩
   refine d_or (d_not (d_tB (d_cb (d_cons (d_var rfl ?_)))))
   refine d_cons (d_c rfl ?_)
   refine d_nil (c_tup (by with_unfolding_all rfl) ?_)
   refine ⟨_, rfl, (br_f (by with_unfolding_all rfl) ?_)⟩
   refine d_not (d_truth (d_var rfl ?_))
   refine truOk_tup (br_f (by with_unfolding_all rfl) ?_)
   refine s_next (s_seq (s_set (d_callLP rfl ?_)))
   refine d_cons (d_op (d_var rfl ?_))
   refine d_c rfl ?_
   refine r_ix (.inr (r_ixT rfl ?_))
   refine d_nil ?_
   dsimp only
   refine ⟨_, _, rfl, ha, (s_seq (s_if (d_or (d_test (d_op (d_var rfl ?_))))))⟩
   refine d_c rfl ?_
   refine r_isN ⟨_, rfl, (br_f (by with_unfolding_all rfl) ?_)⟩
   refine d_test (d_op (d_cb (d_cons (d_var rfl ?_))))
   refine d_nil (c_lenS (.inr rfl) (d_op (d_cb (d_cons (d_var rfl ?_)))))
   refine d_nil (c_lenS (.inr rfl) (d_c rfl ?_))
   refine r_I0 rfl ?_
   refine r_neI ⟨_, rfl, (br_f (by with_unfolding_all rfl) ?_)⟩
   refine s_next (s_seq (s_set (d_c rfl ?_)))
   refine s_seq (s_for (i_zipT (d_cons (d_var rfl ?_))))
   refine d_cons (d_slT1 (d_var rfl ?_))
   refine ⟨_, _, rfl, (d_nil ⟨_, _, rfl, ?_⟩)⟩
   ((with_reducible refine forW_id ?_); refine forW_pair ?_)
   ((with_reducible refine g_tid ?_); refine g_tup rfl ?_)
   refine gs_cons (g_name (gs_cons (g_name (gs_nil (s_if (d_test (d_op (d_var rfl ?_))))))))
   refine d_c rfl ?_
   refine r_eqS ⟨_, rfl, (br_f (by with_unfolding_all rfl) ?_)⟩
   refine s_if (d_not (d_tB (d_callLP rfl ?_)))
   refine d_cons (d_var rfl ?_)
   refine d_cons (d_var rfl ?_)
   refine d_nil ?_
   dsimp only
   refine Or.inr (Or.inr (Or.inl ⟨_, rfl, ⟨_, rfl, (br_f (by assumption) ?_)⟩⟩))
   refine s_next ?_
   ((with_reducible refine forW_id ?_); refine forW_pnil ?_)
   refine s_ret (d_var rfl ?_)
   dsimp only
   rotate_left
   exact q
  case set c x =>
   have ha : (("set" : Str), (["cell", "nest"] : List Str)) ∈ armsTab := by decide
   have hf : (!decide (c ∈ cellsS)) = false := by simp [hb.1]
   have ox := hb.2
   have zx := sz0 x
   refine s_seq (s_if (d_or (d_test (d_op (d_var rfl ?_)))))
   refine d_c rfl ?_
   refine r_I0 rfl ?_
   refine ⟨_, rfl, (br_f (by assumption) ?_)⟩
   refine d_or (d_not (d_tB (d_cb (d_cons (d_var rfl ?_)))))
   refine d_cons (d_c rfl ?_)
   refine d_nil (c_tup (by with_unfolding_all rfl) ?_)
   refine ⟨_, rfl, (br_f (by with_unfolding_all rfl) ?_)⟩
   refine d_not (d_truth (d_var rfl ?_))
   refine truOk_tup (br_f (by with_unfolding_all rfl) ?_)
   refine s_next (s_seq (s_set (d_callLP rfl ?_)))
   refine d_cons (d_op (d_var rfl ?_))
   refine d_c rfl ?_
   refine r_ix (.inr (r_ixT rfl ?_))
   refine d_nil ?_
   dsimp only
   refine ⟨_, _, rfl, ha, (s_seq (s_if (d_or (d_test (d_op (d_var rfl ?_))))))⟩
   refine d_c rfl ?_
   refine r_isN ⟨_, rfl, (br_f (by with_unfolding_all rfl) ?_)⟩
   refine d_test (d_op (d_cb (d_cons (d_var rfl ?_))))
   refine d_nil (c_lenS (.inr rfl) (d_op (d_cb (d_cons (d_var rfl ?_)))))
   refine d_nil (c_lenS (.inr rfl) (d_c rfl ?_))
   refine r_I0 rfl ?_
   refine r_neI ⟨_, rfl, (br_f (by with_unfolding_all rfl) ?_)⟩
   refine s_next (s_seq (s_set (d_c rfl ?_)))
   refine s_seq (s_for (i_zipT (d_cons (d_var rfl ?_))))
   refine d_cons (d_slT1 (d_var rfl ?_))
   refine ⟨_, _, rfl, (d_nil ⟨_, _, rfl, ?_⟩)⟩
   ((with_reducible refine forW_id ?_); refine forW_pair ?_)
   ((with_reducible refine g_tid ?_); refine g_tup rfl ?_)
   refine gs_cons (g_name (gs_cons (g_name (gs_nil (s_if (d_test (d_op (d_var rfl ?_))))))))
   refine d_c rfl ?_
   refine r_eqS ⟨_, rfl, (br_f (by with_unfolding_all rfl) ?_)⟩
   refine s_if (d_not (d_tB (d_callLP rfl ?_)))
   refine d_cons (d_var rfl ?_)
   refine d_cons (d_var rfl ?_)
   refine d_nil ?_
   dsimp only
   refine Or.inr (Or.inr (Or.inl ⟨_, rfl, ⟨_, rfl, (br_f (by assumption) ?_)⟩⟩))
   refine s_next ?_
   ((with_reducible refine forW_id ?_); refine forW_pair ?_)
   ((with_reducible refine g_tid ?_); refine g_tup rfl ?_)
   refine gs_cons (g_name (gs_cons (g_name (gs_nil (s_if (d_test (d_op (d_var rfl ?_))))))))
   refine d_c rfl ?_
   refine r_eqS ⟨_, rfl, (br_t (by with_unfolding_all rfl) ?_)⟩
   refine s_seq (s_set (d_call (d_cons (d_var rfl ?_))))
   refine d_cons (d_var rfl ?_)
   refine d_cons (d_var rfl ?_)
   refine d_cons (d_op (d_var rfl ?_))
   refine d_c rfl ?_
   refine r_I0 rfl ?_
   refine d_nil ?_
   dsimp only
   refine ⟨_, _, rfl, ox, (by omega), (by omega), (by omega), ?_⟩
   refine s_seq (s_if (d_test (d_op (d_var rfl ?_))))
   refine d_c rfl ?_
   refine r_eqI ⟨_, rfl, (br_f (by assumption) ?_)⟩
   refine s_next (s_aug rfl ?_)
   refine d_var rfl ?_
   refine ⟨_, rfl, ?_⟩
   ((with_reducible refine forW_id ?_); refine forW_pnil ?_)
   refine s_ret (d_var rfl ?_)
   dsimp only
   rotate_left
   refine fin q ?_
   simp only [B.size]
   omega
  case call c x =>
   have ha : (("call" : Str), (["deed", "nest"] : List Str)) ∈ armsTab := by decide
   have hf : (!decide (c ∈ deedsS)) = false := by simp [hb.1]
   have ox := hb.2
   have zx := sz0 x
   refine s_seq (s_if (d_or (d_test (d_op (d_var rfl ?_)))))
   refine d_c rfl ?_
   refine r_I0 rfl ?_
   refine ⟨_, rfl, (br_f (by assumption) ?_)⟩
   refine d_or (d_not (d_tB (d_cb (d_cons (d_var rfl ?_)))))
   refine d_cons (d_c rfl ?_)
   refine d_nil (c_tup (by with_unfolding_all rfl) ?_)
   refine ⟨_, rfl, (br_f (by with_unfolding_all rfl) ?_)⟩
   refine d_not (d_truth (d_var rfl ?_))
   refine truOk_tup (br_f (by with_unfolding_all rfl) ?_)
   refine s_next (s_seq (s_set (d_callLP rfl ?_)))
   refine d_cons (d_op (d_var rfl ?_))
   refine d_c rfl ?_
   refine r_ix (.inr (r_ixT rfl ?_))
   refine d_nil ?_
   dsimp only
   refine ⟨_, _, rfl, ha, (s_seq (s_if (d_or (d_test (d_op (d_var rfl ?_))))))⟩
   refine d_c rfl ?_
   refine r_isN ⟨_, rfl, (br_f (by with_unfolding_all rfl) ?_)⟩
   refine d_test (d_op (d_cb (d_cons (d_var rfl ?_))))
   refine d_nil (c_lenS (.inr rfl) (d_op (d_cb (d_cons (d_var rfl ?_)))))
   refine d_nil (c_lenS (.inr rfl) (d_c rfl ?_))
   refine r_I0 rfl ?_
   refine r_neI ⟨_, rfl, (br_f (by with_unfolding_all rfl) ?_)⟩
   refine s_next (s_seq (s_set (d_c rfl ?_)))
   refine s_seq (s_for (i_zipT (d_cons (d_var rfl ?_))))
   refine d_cons (d_slT1 (d_var rfl ?_))
   refine ⟨_, _, rfl, (d_nil ⟨_, _, rfl, ?_⟩)⟩
   ((with_reducible refine forW_id ?_); refine forW_pair ?_)
   ((with_reducible refine g_tid ?_); refine g_tup rfl ?_)
   refine gs_cons (g_name (gs_cons (g_name (gs_nil (s_if (d_test (d_op (d_var rfl ?_))))))))
   refine d_c rfl ?_
   refine r_eqS ⟨_, rfl, (br_f (by with_unfolding_all rfl) ?_)⟩
   refine s_if (d_not (d_tB (d_callLP rfl ?_)))
   refine d_cons (d_var rfl ?_)
   refine d_cons (d_var rfl ?_)
   refine d_nil ?_
   dsimp only
   refine Or.inr (Or.inr (Or.inr ⟨_, rfl, ⟨_, rfl, (br_f (by assumption) ?_)⟩⟩))
   refine s_next ?_
   ((with_reducible refine forW_id ?_); refine forW_pair ?_)
   ((with_reducible refine g_tid ?_); refine g_tup rfl ?_)
   refine gs_cons (g_name (gs_cons (g_name (gs_nil (s_if (d_test (d_op (d_var rfl ?_))))))))
   refine d_c rfl ?_
   refine r_eqS ⟨_, rfl, (br_t (by with_unfolding_all rfl) ?_)⟩
   refine s_seq (s_set (d_call (d_cons (d_var rfl ?_))))
   refine d_cons (d_var rfl ?_)
   refine d_cons (d_var rfl ?_)
   refine d_cons (d_op (d_var rfl ?_))
   refine d_c rfl ?_
   refine r_I0 rfl ?_
   refine d_nil ?_
   dsimp only
   refine ⟨_, _, rfl, ox, (by omega), (by omega), (by omega), ?_⟩
   refine s_seq (s_if (d_test (d_op (d_var rfl ?_))))
   refine d_c rfl ?_
   refine r_eqI ⟨_, rfl, (br_f (by assumption) ?_)⟩
   refine s_next (s_aug rfl ?_)
   refine d_var rfl ?_
   refine ⟨_, rfl, ?_⟩
   ((with_reducible refine forW_id ?_); refine forW_pnil ?_)
   refine s_ret (d_var rfl ?_)
   dsimp only
   rotate_left
   refine fin q ?_
   simp only [B.size]
   omega
  case op1 v x =>
   have ha : ∀ v ∈ w1S, (v, (["nest"] : List Str)) ∈ armsTab := by decide
   have ha := ha v hb.1
   have ox := hb.2
   have zx := sz0 x
   refine s_seq (s_if (d_or (d_test (d_op (d_var rfl ?_)))))
   refine d_c rfl ?_
   refine r_I0 rfl ?_
   refine ⟨_, rfl, (br_f (by assumption) ?_)⟩
   refine d_or (d_not (d_tB (d_cb (d_cons (d_var rfl ?_)))))
   refine d_cons (d_c rfl ?_)
   refine d_nil (c_tup (by with_unfolding_all rfl) ?_)
   refine ⟨_, rfl, (br_f (by with_unfolding_all rfl) ?_)⟩
   refine d_not (d_truth (d_var rfl ?_))
   refine truOk_tup (br_f (by with_unfolding_all rfl) ?_)
   refine s_next (s_seq (s_set (d_callLP rfl ?_)))
   refine d_cons (d_op (d_var rfl ?_))
   refine d_c rfl ?_
   refine r_ix (.inr (r_ixT rfl ?_))
   refine d_nil ?_
   dsimp only
   refine ⟨_, _, rfl, ha, (s_seq (s_if (d_or (d_test (d_op (d_var rfl ?_))))))⟩
   refine d_c rfl ?_
   refine r_isN ⟨_, rfl, (br_f (by with_unfolding_all rfl) ?_)⟩
   refine d_test (d_op (d_cb (d_cons (d_var rfl ?_))))
   refine d_nil (c_lenS (.inr rfl) (d_op (d_cb (d_cons (d_var rfl ?_)))))
   refine d_nil (c_lenS (.inr rfl) (d_c rfl ?_))
   refine r_I0 rfl ?_
   refine r_neI ⟨_, rfl, (br_f (by with_unfolding_all rfl) ?_)⟩
   refine s_next (s_seq (s_set (d_c rfl ?_)))
   refine s_seq (s_for (i_zipT (d_cons (d_var rfl ?_))))
   refine d_cons (d_slT1 (d_var rfl ?_))
   refine ⟨_, _, rfl, (d_nil ⟨_, _, rfl, ?_⟩)⟩
   ((with_reducible refine forW_id ?_); refine forW_pair ?_)
   ((with_reducible refine g_tid ?_); refine g_tup rfl ?_)
   refine gs_cons (g_name (gs_cons (g_name (gs_nil (s_if (d_test (d_op (d_var rfl ?_))))))))
   refine d_c rfl ?_
   refine r_eqS ⟨_, rfl, (br_t (by with_unfolding_all rfl) ?_)⟩
   refine s_seq (s_set (d_call (d_cons (d_var rfl ?_))))
   refine d_cons (d_var rfl ?_)
   refine d_cons (d_var rfl ?_)
   refine d_cons (d_op (d_var rfl ?_))
   refine d_c rfl ?_
   refine r_I0 rfl ?_
   refine d_nil ?_
   dsimp only
   refine ⟨_, _, rfl, ox, (by omega), (by omega), (by omega), ?_⟩
   refine s_seq (s_if (d_test (d_op (d_var rfl ?_))))
   refine d_c rfl ?_
   refine r_eqI ⟨_, rfl, (br_f (by assumption) ?_)⟩
   refine s_next (s_aug rfl ?_)
   refine d_var rfl ?_
   refine ⟨_, rfl, ?_⟩
   ((with_reducible refine forW_id ?_); refine forW_pnil ?_)
   refine s_ret (d_var rfl ?_)
   dsimp only
   rotate_left
   refine fin q ?_
   simp only [B.size]
   omega
  case op2 v x y =>
   have ha : ∀ v ∈ w2S, (v, (["nest", "nest"] : List Str)) ∈ armsTab := by decide
   have ha := ha v hb.1
   have ox := hb.2.1
   have oy := hb.2.2
   have zx := sz0 x
   have zy := sz0 y
   refine s_seq (s_if (d_or (d_test (d_op (d_var rfl ?_)))))
   refine d_c rfl ?_
   refine r_I0 rfl ?_
   refine ⟨_, rfl, (br_f (by assumption) ?_)⟩
   refine d_or (d_not (d_tB (d_cb (d_cons (d_var rfl ?_)))))
   refine d_cons (d_c rfl ?_)
   refine d_nil (c_tup (by with_unfolding_all rfl) ?_)
   refine ⟨_, rfl, (br_f (by with_unfolding_all rfl) ?_)⟩
   refine d_not (d_truth (d_var rfl ?_))
   refine truOk_tup (br_f (by with_unfolding_all rfl) ?_)
   refine s_next (s_seq (s_set (d_callLP rfl ?_)))
   refine d_cons (d_op (d_var rfl ?_))
   refine d_c rfl ?_
   refine r_ix (.inr (r_ixT rfl ?_))
   refine d_nil ?_
   dsimp only
   refine ⟨_, _, rfl, ha, (s_seq (s_if (d_or (d_test (d_op (d_var rfl ?_))))))⟩
   refine d_c rfl ?_
   refine r_isN ⟨_, rfl, (br_f (by with_unfolding_all rfl) ?_)⟩
   refine d_test (d_op (d_cb (d_cons (d_var rfl ?_))))
   refine d_nil (c_lenS (.inr rfl) (d_op (d_cb (d_cons (d_var rfl ?_)))))
   refine d_nil (c_lenS (.inr rfl) (d_c rfl ?_))
   refine r_I0 rfl ?_
   refine r_neI ⟨_, rfl, (br_f (by with_unfolding_all rfl) ?_)⟩
   refine s_next (s_seq (s_set (d_c rfl ?_)))
   refine s_seq (s_for (i_zipT (d_cons (d_var rfl ?_))))
   refine d_cons (d_slT1 (d_var rfl ?_))
   refine ⟨_, _, rfl, (d_nil ⟨_, _, rfl, ?_⟩)⟩
   ((with_reducible refine forW_id ?_); refine forW_pair ?_)
   ((with_reducible refine g_tid ?_); refine g_tup rfl ?_)
   refine gs_cons (g_name (gs_cons (g_name (gs_nil (s_if (d_test (d_op (d_var rfl ?_))))))))
   refine d_c rfl ?_
   refine r_eqS ⟨_, rfl, (br_t (by with_unfolding_all rfl) ?_)⟩
   refine s_seq (s_set (d_call (d_cons (d_var rfl ?_))))
   refine d_cons (d_var rfl ?_)
   refine d_cons (d_var rfl ?_)
   refine d_cons (d_op (d_var rfl ?_))
   refine d_c rfl ?_
   refine r_I0 rfl ?_
   refine d_nil ?_
   dsimp only
   refine ⟨_, _, rfl, ox, (by omega), (by omega), (by omega), ?_⟩
   refine s_seq (s_if (d_test (d_op (d_var rfl ?_))))
   refine d_c rfl ?_
   refine r_eqI ⟨_, rfl, (br_f (by assumption) ?_)⟩
   refine s_next (s_aug rfl ?_)
   refine d_var rfl ?_
   refine ⟨_, rfl, ?_⟩
   ((with_reducible refine forW_id ?_); refine forW_pair ?_)
   ((with_reducible refine g_tid ?_); refine g_tup rfl ?_)
   refine gs_cons (g_name (gs_cons (g_name (gs_nil (s_if (d_test (d_op (d_var rfl ?_))))))))
   refine d_c rfl ?_
   refine r_eqS ⟨_, rfl, (br_t (by with_unfolding_all rfl) ?_)⟩
   refine s_seq (s_set (d_call (d_cons (d_var rfl ?_))))
   refine d_cons (d_var rfl ?_)
   refine d_cons (d_var rfl ?_)
   refine d_cons (d_op (d_var rfl ?_))
   refine d_c rfl ?_
   refine r_I0 rfl ?_
   refine d_nil ?_
   dsimp only
   refine ⟨_, _, rfl, oy, (by omega), (by omega), (by omega), ?_⟩
   refine s_seq (s_if (d_test (d_op (d_var rfl ?_))))
   refine d_c rfl ?_
   refine r_eqI ⟨_, rfl, (br_f (by assumption) ?_)⟩
   refine s_next (s_aug rfl ?_)
   refine d_var rfl ?_
   refine ⟨_, rfl, ?_⟩
   ((with_reducible refine forW_id ?_); refine forW_pnil ?_)
   refine s_ret (d_var rfl ?_)
   dsimp only
   rotate_left
   refine fin q ?_
   simp only [B.size]
   omega
  case ite x y z =>
   have ha : (("if" : Str), (["nest", "nest", "nest"] : List Str)) ∈ armsTab := by decide
   have ox := hb.1
   have oy := hb.2.1
   have oz := hb.2.2
   have zx := sz0 x
   have zy := sz0 y
   have zz := sz0 z
   refine s_seq (s_if (d_or (d_test (d_op (d_var rfl ?_)))))
   refine d_c rfl ?_
   refine r_I0 rfl ?_
   refine ⟨_, rfl, (br_f (by assumption) ?_)⟩
   refine d_or (d_not (d_tB (d_cb (d_cons (d_var rfl ?_)))))
   refine d_cons (d_c rfl ?_)
   refine d_nil (c_tup (by with_unfolding_all rfl) ?_)
   refine ⟨_, rfl, (br_f (by with_unfolding_all rfl) ?_)⟩
   refine d_not (d_truth (d_var rfl ?_))
   refine truOk_tup (br_f (by with_unfolding_all rfl) ?_)
   refine s_next (s_seq (s_set (d_callLP rfl ?_)))
   refine d_cons (d_op (d_var rfl ?_))
   refine d_c rfl ?_
   refine r_ix (.inr (r_ixT rfl ?_))
   refine d_nil ?_
   dsimp only
   refine ⟨_, _, rfl, ha, (s_seq (s_if (d_or (d_test (d_op (d_var rfl ?_))))))⟩
   refine d_c rfl ?_
   refine r_isN ⟨_, rfl, (br_f (by with_unfolding_all rfl) ?_)⟩
   refine d_test (d_op (d_cb (d_cons (d_var rfl ?_))))
   refine d_nil (c_lenS (.inr rfl) (d_op (d_cb (d_cons (d_var rfl ?_)))))
   refine d_nil (c_lenS (.inr rfl) (d_c rfl ?_))
   refine r_I0 rfl ?_
   refine r_neI ⟨_, rfl, (br_f (by with_unfolding_all rfl) ?_)⟩
   refine s_next (s_seq (s_set (d_c rfl ?_)))
   refine s_seq (s_for (i_zipT (d_cons (d_var rfl ?_))))
   refine d_cons (d_slT1 (d_var rfl ?_))
   refine ⟨_, _, rfl, (d_nil ⟨_, _, rfl, ?_⟩)⟩
   ((with_reducible refine forW_id ?_); refine forW_pair ?_)
   ((with_reducible refine g_tid ?_); refine g_tup rfl ?_)
   refine gs_cons (g_name (gs_cons (g_name (gs_nil (s_if (d_test (d_op (d_var rfl ?_))))))))
   refine d_c rfl ?_
   refine r_eqS ⟨_, rfl, (br_t (by with_unfolding_all rfl) ?_)⟩
   refine s_seq (s_set (d_call (d_cons (d_var rfl ?_))))
   refine d_cons (d_var rfl ?_)
   refine d_cons (d_var rfl ?_)
   refine d_cons (d_op (d_var rfl ?_))
   refine d_c rfl ?_
   refine r_I0 rfl ?_
   refine d_nil ?_
   dsimp only
   refine ⟨_, _, rfl, ox, (by omega), (by omega), (by omega), ?_⟩
   refine s_seq (s_if (d_test (d_op (d_var rfl ?_))))
   refine d_c rfl ?_
   refine r_eqI ⟨_, rfl, (br_f (by assumption) ?_)⟩
   refine s_next (s_aug rfl ?_)
   refine d_var rfl ?_
   refine ⟨_, rfl, ?_⟩
   ((with_reducible refine forW_id ?_); refine forW_pair ?_)
   ((with_reducible refine g_tid ?_); refine g_tup rfl ?_)
   refine gs_cons (g_name (gs_cons (g_name (gs_nil (s_if (d_test (d_op (d_var rfl ?_))))))))
   refine d_c rfl ?_
   refine r_eqS ⟨_, rfl, (br_t (by with_unfolding_all rfl) ?_)⟩
   refine s_seq (s_set (d_call (d_cons (d_var rfl ?_))))
   refine d_cons (d_var rfl ?_)
   refine d_cons (d_var rfl ?_)
   refine d_cons (d_op (d_var rfl ?_))
   refine d_c rfl ?_
   refine r_I0 rfl ?_
   refine d_nil ?_
   dsimp only
   refine ⟨_, _, rfl, oy, (by omega), (by omega), (by omega), ?_⟩
   refine s_seq (s_if (d_test (d_op (d_var rfl ?_))))
   refine d_c rfl ?_
   refine r_eqI ⟨_, rfl, (br_f (by assumption) ?_)⟩
   refine s_next (s_aug rfl ?_)
   refine d_var rfl ?_
   refine ⟨_, rfl, ?_⟩
   ((with_reducible refine forW_id ?_); refine forW_pair ?_)
   ((with_reducible refine g_tid ?_); refine g_tup rfl ?_)
   refine gs_cons (g_name (gs_cons (g_name (gs_nil (s_if (d_test (d_op (d_var rfl ?_))))))))
   refine d_c rfl ?_
   refine r_eqS ⟨_, rfl, (br_t (by with_unfolding_all rfl) ?_)⟩
   refine s_seq (s_set (d_call (d_cons (d_var rfl ?_))))
   refine d_cons (d_var rfl ?_)
   refine d_cons (d_var rfl ?_)
   refine d_cons (d_op (d_var rfl ?_))
   refine d_c rfl ?_
   refine r_I0 rfl ?_
   refine d_nil ?_
   dsimp only
   refine ⟨_, _, rfl, oz, (by omega), (by omega), (by omega), ?_⟩
   refine s_seq (s_if (d_test (d_op (d_var rfl ?_))))
   refine d_c rfl ?_
   refine r_eqI ⟨_, rfl, (br_f (by assumption) ?_)⟩
   refine s_next (s_aug rfl ?_)
   refine d_var rfl ?_
   refine ⟨_, rfl, ?_⟩
   ((with_reducible refine forW_id ?_); refine forW_pnil ?_)
   refine s_ret (d_var rfl ?_)
   dsimp only
   rotate_left
   refine fin q ?_
   simp only [B.size]
   omega
end
end Pr
set_option Elab.async false
set_option linter.all false
set_option maxRecDepth 100000
set_option maxHeartbeats 1000000
namespace Pr
open PySem L2 PD
variable [Tabs]
section
variable {P : Program} {w : World} {K : PySem.W.Frag} {mg : Str → Option Value} {base : Heap}
def M_is_body : List D → (D → Prop) → Prop := fun ds k => ∃ b : B, ds = [b.toD] ∧ b.ok ∧ b.depth ≤ 10 ∧ b.size ≤ 60 ∧ k (.bl true)
theorem ok_is_body (T : Txt w K mg) : Cal P w K mg base 14 "is_body" ["body"] none M_is_body := by
 obtain ⟨fa, fda, Ca⟩ := ok_body_arms (P := P) (base := base) T
 obtain ⟨ff, fdf, Cf⟩ := ok_fits_body (P := P) (base := base) T
 have C_size_of := ok_size (P := P) (base := base) T Ca Cf 10
 refine okF T.f_is_body sc_is_body (fun _ _ _ _ _ _ us hl => match us, hl with | [_], _ => rfl) (fun ds k h => ?_) (fun f cdv A outer s H E ds kk hr h => ?_)
 ·obtain ⟨_, rfl, _⟩ := h
  rfl
 obtain ⟨b, rfl, hb, hd, hz, q⟩ := h
 obtain ⟨tw, gW⟩ := T.WORDS
 have ga := Ca.at_
 have gf := Cf.at_
 refine ⟨_, (pss_one (ps_ret (pe_chain op_le op_le pe_int (pe_calD C_size_of (hr.mono (by first | decide | omega)) rfl (pa_cons (pv 0) (pa_cons (pe_gref rfl ga) (pa_cons (pe_gref rfl gf) pa_nil)))) (pe_gint rfl gW)))), ?_⟩
 try dsimp only [cxOf]
 change dS _ _ _ [Sl.d _] _
 have h1 : decide ((1 : Int) ≤ (b.size : Int)) = true := decide_eq_true (by have := size_pos b; omega)
 have h2 : decide ((b.size : Int) ≤ (60 : Int)) = true := decide_eq_true (by omega)
 refine s_ret (d_chain (d_c rfl ?_))
 refine d_callV (fun _ => RelL.cons Rel.int RelL.nil) (d_cons (d_var rfl ?_))
 refine d_cons (d_c rfl ?_)
 refine d_cons (d_c rfl ?_)
 refine d_nil ?_
 dsimp only
 refine ⟨_, _, rfl, hb, (by omega), (by omega), (by omega), ?_⟩
 refine r_I0 rfl ?_
 refine ⟨_, rfl, (br_t (by assumption) ?_)⟩
 refine d_c rfl ?_
 refine r_I0 rfl ?_
 rotate_left
 rw [h2]
 exact q
end
end Pr
set_option Elab.async false
set_option linter.all false
set_option maxRecDepth 100000
set_option maxHeartbeats 1000000
namespace Pr
open PySem L2 PD
variable [Tabs]
def lookS {α : Type} (l : List (Str × α)) (s : Str) : Option α := (l.find? fun p => decide (p.1 = s)).map (·.2)
def byArms (v : Str) (ks : List Str) : Option Str := match lookS fixTab v with
 | some (as, t) => if ks = as then some t else none
 | none => if v = "same" then (if ks[0]? = ks[1]? then some ("truth" : Str) else none) else if v = "if" then (if ks[0]? = some ("truth" : Str) ∧ ks[1]? = ks[2]? then ks[1]? else none) else ks[1]?
section
variable {P : Program} {w : World} {K : PySem.W.Frag} {mg : Str → Option Value} {base : Heap}
abbrev CT := List (Str × Str × Str)
abbrev ET := List (Str × Str)
def ctD (c : CT) : D := .dct (c.map fun p => (p.1, .tup [.str p.2.1, .str p.2.2]))
def etD (c : ET) : D := .dct (c.map fun p => (p.1, .str p.2))
def B.kind (takes : Str) (calls : CT) (cells : ET) : B → Option Str
 | .num _ => some ("number" : Str)
 | .tru _ => some ("truth" : Str)
 | .emp => some ("list" : Str)
 | .arg => some takes
 | .cel c => lookS cells c
 | .set c x => match x.kind takes calls cells with
  | none => none
  | some k => if lookS cells c = some k then some k else none
 | .call d x => match x.kind takes calls cells with
  | none => none
  | some k => match lookS calls d with
   | none => none
   | some (a, t) => if a = k then some t else none
 | .op1 v x => match x.kind takes calls cells with
  | none => none
  | some k => byArms v [k]
 | .op2 v x y => match x.kind takes calls cells, y.kind takes calls cells with
  | some k, some l => byArms v [k, l]
  | _, _ => none
 | .ite x y z => match x.kind takes calls cells, y.kind takes calls cells, z.kind takes calls cells with
  | some k, some l, some m => byArms "if" [k, l, m]
  | _, _, _ => none
theorem look_map {α : Type} (f : α → D) (l : List (Str × α)) (s : Str) : lookD (l.map fun p => (p.1, f p.2)) s = (lookS l s).map f := by
 unfold lookD lookS
 induction l with
 | nil => rfl
 | cons p r ih =>
  rw [List.map_cons, List.find?_cons, List.find?_cons]
  by_cases e : p.1 = s
  ·simp [e]
  ·simp only [e, decide_false]
   exact ih
end
end Pr
set_option Elab.async false
set_option linter.all false
set_option maxRecDepth 100000
set_option maxHeartbeats 2000000
namespace Pr
open PySem L2 PD
variable [Tabs]
structure EnvOk (takes : Str) (calls : CT) (cells : ET) : Prop where
 t : takes ∈ kindsS
 c : ∀ p ∈ calls, p.2.1 ∈ kindsS ∧ p.2.2 ∈ kindsS
 e : ∀ p ∈ cells, p.2 ∈ kindsS
theorem look_mem {α : Type} {l : List (Str × α)} {s : Str} {x : α} (h : lookS l s = some x) : (s, x) ∈ l := by
 unfold lookS at h
 cases e : l.find? fun p => decide (p.1 = s) with
 | none => rw [e] at h; cases h
 | some p =>
  rw [e] at h
  cases h
  have h1 := List.mem_of_find?_eq_some e
  have h2 := List.find?_some e
  have : p.1 = s := of_decide_eq_true h2
  rw [← this]
  exact h1
section
variable {P : Program} {w : World} {K : PySem.W.Frag} {mg : Str → Option Value} {base : Heap}
end
end Pr
set_option Elab.async false
set_option linter.all false
set_option maxRecDepth 100000
set_option maxHeartbeats 2000000
namespace Pr
open PySem L2 PD
variable [Tabs]
section
variable {P : Program} {w : World} {K : PySem.W.Frag} {mg : Str → Option Value} {base : Heap}
structure RowK (ok : D → Prop) (nm : D → Str) (M : List D → (D → Prop) → Prop) : Prop where
 tup : ∀ r, ok r → ∃ rest, r = .tup (.str (nm r) :: rest)
 yes : ∀ r, ok r → ∀ kk : D → Prop, kk (.bl true) → M [r] kk
 txt : ∀ r, ok r → PyData.strOk (nm r) = true
def M_rows (ok : D → Prop) (nm : D → Str) (fr : Addr) : List D → (D → Prop) → Prop := fun ds k => ∃ (rows : List D) (most : Int), ds = [.tup rows, .int most, .adr fr] ∧ (rows.length : Int) ≤ most ∧ rows.length ≤ 60 ∧ (∀ r ∈ rows, ok r) ∧ (rows.map nm).Pairwise up ∧ k (.bl true)
theorem ok_rows {ok : D → Prop} {nm : D → Str} {M : List D → (D → Prop) → Prop} (rk : RowK ok nm M) {j : Nat} {xr : Str} {fr : Addr} {fdr : FuncData} (T : Txt w K mg) (Cr : CalF P w K mg base j xr ["row"] none M fr fdr) :
  Cal P w K mg base (j + 1) "are_rows" ["rows", "most", "is_row"] none (M_rows ok nm fr) := by
 refine okF T.f_are_rows sc_are_rows (fun _ _ _ _ _ _ us hl => match us, hl with | [_, _, _], _ => rfl) (fun ds k h => ?_) (fun f cdv A outer s H E ds kk hr h => ?_)
 ·obtain ⟨_, _, rfl, _⟩ := h
  rfl
 obtain ⟨rows, most, rfl, hm, h60, hok, hup, q⟩ := h
 refine ⟨_, (pss_cons (ps_if (PW.pt (pw_or (pt_not (pt_val (pe_callB (r := rIsi K) (id := "isinstance")  call_isi (by rfl) T.z_isinstance (by decide +kernel) (pa_cons (pv 0) (pa_cons (pe_bty (n := "tuple") rfl T.z_tuple (by decide +kernel)) pa_nil))))) (pw_or1 (pt_cmpR op_gt (pe_callB (r := rLenQ K) (id := "len")  call_len_seq (by rfl) T.z_len PySem.boot_len (pa_cons (pv 0) pa_nil)) (pv 1) (nomark _))))) (pss_one (ps_ret pe_bl)) pss_nil)
   (pss_cons (ps_for PassesOwn.never rfl (pi_tup (pv 0)) (pg_name (i := 3) sc_are_rows.nd rfl (by first | exact Or.inl rfl | exact Or.inr rfl)) (pss_one (ps_if (PW.pt (pw_or (pt_not (pt_val (pe_callB (r := rIsi K) (id := "isinstance")  call_isi (by rfl) T.z_isinstance (by decide +kernel) (pa_cons (pv 3) (pa_cons (pe_bty (n := "tuple") rfl T.z_tuple (by decide +kernel)) pa_nil))))) (pw_or1 (pt_not (pt_val (pe_callL (i := 2) Cr.ok hr rfl (by first | exact Or.inl rfl | exact Or.inr (Or.inl rfl)) Cr.keep Cr.binds .nil pass0 (pa_cons (pv 3) pa_nil))))))) (pss_one (ps_ret pe_bl)) pss_nil)))
   (pss_cons (ps_setLc (i := 4) (own := [("row", 3)]) (g := gName 3) (tt := tYes) rfl sc_are_rows.nd rfl rfl (sw_true rfl rfl rfl (by decide +kernel)) (pi_tup (pv 0)) (blkOk_by (own := [("row", 3)]) (N := N_are_rows) (sc := defScope s_are_rows) (by decide +kernel)) (fun _ _ _ _ _ => (pg_name (i := 3) sc_are_rows.nd rfl (by first | exact Or.inl rfl | exact Or.inr rfl))) (fun _ _ _ _ _ => pts_nil) (fun _ _ _ _ _ => (pe_ix (r := rIx K) ix_seq (pv 3) pe_int (fun _ _ => rfl))))
   (pss_one (ps_ret (pe_cmpR (r := rEqD K) (op_eqD hr.units) (pv 4) (pe_callB (r := PT.rSortedTx w) (id := "sorted")  (PT.cr_sortedTx rfl) (by rfl) T.z_sorted (by decide +kernel) (pa_cons (pe_callTy (r := PT.rSetTx K w) (T := "set")  (PT.cr_setTx rfl) (by rfl) T.z_set (by decide +kernel) (pa_cons (pv 4) pa_nil)) pa_nil)) (nomark _))))))), ?_⟩
 try dsimp only [cxOf]
 change dS _ _ _ [Sl.d _, Sl.d _, Sl.d _, Sl.un, Sl.un] _
 have hlen : decide (most < (rows.length : Int)) = false := decide_eq_false (by omega)
 have tg : ∀ d, ok d → tgD d = some .tup := fun d h => by
  obtain ⟨_, e⟩ := rk.tup d h
  rw [e]; rfl
 refine s_seq (s_if (d_or (d_not (d_tB (d_cb (d_cons (d_var rfl ?_)))))))
 refine d_cons (d_c rfl ?_)
 refine d_nil (c_tup (by with_unfolding_all rfl) ?_)
 refine ⟨_, rfl, (br_f (by with_unfolding_all rfl) ?_)⟩
 refine d_test (d_op (d_cb (d_cons (d_var rfl ?_))))
 refine d_nil (c_lenS (.inr rfl) (d_var rfl ?_))
 refine r_I0 rfl ?_
 refine ⟨_, rfl, (br_f (by assumption) ?_)⟩
 refine s_next (s_seq (s_for (i_tup (d_var rfl ?_))))
 refine ⟨_, rfl, ?_⟩
 dsimp only
 rotate_left
 refine forW_inv (fun r ρ => (∀ x ∈ r, ok x) ∧ ∃ s3, ρ = [Sl.d (D.tup rows), Sl.d (D.int most), Sl.d (D.adr fr), s3, Sl.un]) ?_ ?_ rows _ ⟨hok, _, rfl⟩
 ·rintro ρ ⟨_, s3, rfl⟩
  have fin : decide (rows.map nm = rows.map nm) = true := decide_eq_true rfl
  have ot : ∀ s ∈ rows.map nm, PyData.strOk s = true := fun s h => by
   obtain ⟨r, hr, rfl⟩ := List.mem_map.mp h
   exact rk.txt r (hok r hr)
  dsimp only
  refine s_seq (s_setL (i_tup (d_var rfl ⟨_, rfl, by omega, ?_⟩)))
  refine lcW_fun (P := ok) (p := fun _ => true) (f := fun d => .str (nm d)) (fun d hd kx hx => g_nameV (by decide) (hx _ (fun kb q => d_yes q) fun _ k q => ?_)) rows [] hok ?_
  ·obtain ⟨rest, e⟩ := rk.tup d hd
   refine d_op (d_var (x := d) rfl (d_c rfl ?_))
   rw [e]
   exact r_ix (.inr (r_ixT (show atI _ ((0 : Nat) : Int) = _ from atI_nat rfl) q))
  ·have ef : rows.filter (fun _ => true) = rows := List.filter_eq_self.mpr fun _ _ => rfl
   rw [List.nil_append, ef]
   have es : rows.map (fun d => D.str (nm d)) = strsOf (rows.map nm) := by unfold strsOf; rw [List.map_map]; rfl
   rw [es]
   dsimp only
   refine s_ret (d_op (d_var rfl (d_sortedSet (d_var rfl ⟨rows.map nm, rfl, by rw [List.length_map]; exact h60, fun ys y1 y2 y3 => ?_⟩))))
   have ey := sorted_is y1 y2 hup y3
   subst ey
   refine r_eqL ot ot ?_
   rw [fin]
   exact q
 ·rintro d r ρ ⟨ho, s3, rfl⟩
  have hd := ho d List.mem_cons_self
  refine g_name (s_if (d_or (d_not (d_tB (d_cb (d_cons (d_var rfl ?_)))))))
  refine d_cons (d_c rfl ?_)
  refine d_nil ?_
  dsimp only
  refine c_tup (tg d hd) ⟨_, rfl, (br_f (by with_unfolding_all rfl) ?_)⟩
  refine d_not (d_tB (d_callLP rfl ?_))
  refine d_cons (d_var rfl ?_)
  refine d_nil ?_
  refine rk.yes d hd _ ⟨_, rfl, (br_f (by with_unfolding_all rfl) ?_)⟩
  refine s_next ?_
  dsimp only
  rotate_left
  exact ⟨fun x hx => ho x (List.mem_cons_of_mem _ hx), _, rfl⟩
structure Dd where
 name : Str
 takes : Str
 tells : Str
 body : B
def Dd.toD (d : Dd) : D := .tup [.str d.name, .str d.takes, .str d.tells, d.body.toD]
structure Dd.ok (d : Dd) : Prop where
 n : d.name ∈ deedsS
 t : d.takes ∈ kindsS
 u : d.tells ∈ kindsS
 b : d.body.ok
 depth : d.body.depth ≤ 10
 size : d.body.size ≤ 60
def askD (a : Str × Str × Str) : D := .tup [.str a.1, .str a.2.1, .str a.2.2]
def celD (a : Str × Str) : D := .tup [.str a.1, .str a.2]
structure Pt where
 name : Str
 deeds : List Dd
 asks : CT
 cells : ET
def Pt.toD (p : Pt) : D := .tup [.str p.name, .tup (p.deeds.map Dd.toD), .tup (p.asks.map askD), .tup (p.cells.map celD)]
structure Pt.ok (p : Pt) : Prop where
 n : p.name ∈ partsS
 d8 : p.deeds.length ≤ 8
 d : ∀ d ∈ p.deeds, d.ok
 dup : (p.deeds.map Dd.name).Pairwise up
 a8 : p.asks.length ≤ 8
 a : ∀ a ∈ p.asks, a.1 ∈ deedsS ∧ a.2.1 ∈ kindsS ∧ a.2.2 ∈ kindsS
 aup : (p.asks.map (·.1)).Pairwise up
 apart : ∀ a ∈ p.asks, a.1 ∉ p.deeds.map Dd.name
 c4 : p.cells.length ≤ 4
 c : ∀ c ∈ p.cells, c.1 ∈ cellsS ∧ c.2 ∈ kindsS
 cup : (p.cells.map (·.1)).Pairwise up
theorem m_ask {x t u : Str} {k : D → Prop} (h : k (.bl (decide (x ∈ deedsS) && (decide (t ∈ kindsS) && decide (u ∈ kindsS))))) : M_is_ask [.tup [.str x, .str t, .str u]] k := ⟨x, t, u, rfl, h⟩
theorem m_body {b : B} {k : D → Prop} (h1 : b.ok) (h2 : b.depth ≤ 10) (h3 : b.size ≤ 60) (h : k (.bl true)) : M_is_body [b.toD] k := ⟨b, rfl, h1, h2, h3, h⟩
def M_is_deed : List D → (D → Prop) → Prop := fun ds k => ∃ d : Dd, ds = [d.toD] ∧ d.ok ∧ k (.bl true)
theorem ok_is_deed (T : Txt w K mg) : Cal P w K mg base 15 "is_deed" ["row"] none M_is_deed := by
 have C_is_ask := ok_is_ask (P := P) (base := base) T
 have C_is_body := ok_is_body (P := P) (base := base) T
 refine okF T.f_is_deed sc_is_deed (fun _ _ _ _ _ _ us hl => match us, hl with | [_], _ => rfl) (fun ds k h => ?_) (fun f cdv A outer s H E ds kk hr h => ?_)
 ·obtain ⟨_, rfl, _⟩ := h
  rfl
 obtain ⟨d, rfl, hd, q⟩ := h
 refine ⟨_, (pss_one (ps_ret (pe_and (pe_cmpR op_eq (pe_callB (r := rLenQ K) (id := "len")  call_len_seq (by rfl) T.z_len PySem.boot_len (pa_cons (pv 0) pa_nil)) pe_int (nomark _)) (pe_and (pe_calK (K := K) rfl C_is_ask (hr.mono (by first | decide | omega)) rfl (pa_cons (pe_slice (r := rSlA K) sl_tupA (pv 0) po_none (po_some pe_int)) pa_nil)) (pe_one (pe_calK (K := K) rfl C_is_body (hr.mono (by first | decide | omega)) rfl (pa_cons (pe_ix (r := rIx K) ix_seq (pv 0) pe_int (fun _ _ => rfl)) pa_nil))))))), ?_⟩
 try dsimp only [cxOf]
 change dS _ _ _ [Sl.d _] _
 have h1 : (decide (d.name ∈ deedsS) && (decide (d.takes ∈ kindsS) && decide (d.tells ∈ kindsS))) = true := by simp [hd.n, hd.t, hd.u]
 dsimp only [Dd.toD]
 refine s_ret (d_andV (d_op (d_cb (d_cons (d_var rfl ?_)))))
 refine d_nil (c_lenS (.inr rfl) (d_c rfl ?_))
 refine r_eqI ⟨_, rfl, (br_t (by with_unfolding_all rfl) ?_)⟩
 refine d_andV (d_call (d_cons (d_slT3 (d_var rfl ?_))))
 refine ⟨_, _, _, _, rfl, (d_nil ?_)⟩
 dsimp only
 refine m_ask ⟨_, rfl, (br_t (by assumption) ?_)⟩
 refine d_call (d_cons (d_op (d_var rfl ?_)))
 refine d_c rfl ?_
 refine r_ix (.inr (r_ixT rfl ?_))
 refine d_nil (m_body hd.b hd.depth hd.size ?_)
 with_reducible assumption
 all_goals exact q
theorem look_kinds : ∀ s ∈ deedsS, PyData.strOk s = true := by decide +kernel
theorem look_cells : ∀ s ∈ cellsS, PyData.strOk s = true := by decide +kernel
def nm0 : D → Str
 | .tup (.str x :: _) => x
 | _ => Str.empty
theorem rk_deed : RowK (fun r => ∃ d : Dd, r = d.toD ∧ d.ok) nm0 M_is_deed where
 tup := fun r ⟨d, e, _⟩ => by subst e; exact ⟨_, rfl⟩
 yes := fun r ⟨d, e, h⟩ kk q => by subst e; exact ⟨d, rfl, h, q⟩
 txt := fun r ⟨d, e, h⟩ => by subst e; exact look_kinds _ h.n
theorem rk_ask : RowK (fun r => ∃ a : Str × Str × Str, r = askD a ∧ a.1 ∈ deedsS ∧ a.2.1 ∈ kindsS ∧ a.2.2 ∈ kindsS) nm0 M_is_ask where
 tup := fun r ⟨d, e, _⟩ => by subst e; exact ⟨_, rfl⟩
 yes := fun r ⟨d, e, h1, h2, h3⟩ kk q => by
  subst e
  refine ⟨d.1, d.2.1, d.2.2, rfl, ?_⟩
  rw [decide_eq_true h1, decide_eq_true h2, decide_eq_true h3]
  exact q
 txt := fun r ⟨d, e, h⟩ => by subst e; exact look_kinds _ h.1
theorem rk_cell : RowK (fun r => ∃ a : Str × Str, r = celD a ∧ a.1 ∈ cellsS ∧ a.2 ∈ kindsS) nm0 M_is_cell where
 tup := fun r ⟨d, e, _⟩ => by subst e; exact ⟨_, rfl⟩
 yes := fun r ⟨d, e, h1, h2⟩ kk q => by
  subst e
  refine ⟨d.1, d.2, rfl, ?_⟩
  rw [decide_eq_true h1, decide_eq_true h2]
  exact q
 txt := fun r ⟨d, e, h⟩ => by subst e; exact look_cells _ h.1
end
end Pr
set_option Elab.async false
set_option linter.all false
set_option maxRecDepth 100000
set_option maxHeartbeats 2000000
namespace Pr
open PySem L2 PD
variable [Tabs]
section
variable {P : Program} {w : World} {K : PySem.W.Frag} {mg : Str → Option Value} {base : Heap}
abbrev okDeed : D → Prop := fun r => ∃ d : Dd, r = d.toD ∧ d.ok
abbrev okAsk : D → Prop := fun r => ∃ a : Str × Str × Str, r = askD a ∧ a.1 ∈ deedsS ∧ a.2.1 ∈ kindsS ∧ a.2.2 ∈ kindsS
abbrev okCell : D → Prop := fun r => ∃ a : Str × Str, r = celD a ∧ a.1 ∈ cellsS ∧ a.2 ∈ kindsS
theorem nm_deeds (l : List Dd) : (l.map Dd.toD).map nm0 = l.map Dd.name := by rw [List.map_map]; rfl
theorem nm_asks (l : CT) : (l.map askD).map nm0 = l.map (·.1) := by rw [List.map_map]; rfl
theorem nm_cells (l : ET) : (l.map celD).map nm0 = l.map (·.1) := by rw [List.map_map]; rfl
theorem m_rows {ok : D → Prop} {nm : D → Str} {fr : Addr} {rows : List D} {most : Int} {k : D → Prop} (h1 : (rows.length : Int) ≤ most) (h2 : rows.length ≤ 60) (h3 : ∀ r ∈ rows, ok r) (h4 : (rows.map nm).Pairwise up) (h : k (.bl true)) : M_rows ok nm fr [.tup rows, .int most, .adr fr] k := ⟨rows, most, rfl, h1, h2, h3, h4, h⟩
def M_asks : List D → (D → Prop) → Prop := fun ds k => ∃ p : Pt, ds = [.tup (p.asks.map askD), .tup (p.deeds.map Dd.toD)] ∧ p.ok ∧ k (.bl true)
theorem ok_asks (T : Txt w K mg) : Cal P w K mg base 3 "are_asks" ["rows", "deeds"] none M_asks := by
 obtain ⟨fa, fda, Ca⟩ := ok_is_ask (P := P) (base := base) T
 have C_are_rows := ok_rows rk_ask T Ca
 refine okF T.f_are_asks sc_are_asks (fun _ _ _ _ _ _ us hl => match us, hl with | [_, _], _ => rfl) (fun ds k h => ?_) (fun f cdv A outer s H E ds kk hr h => ?_)
 ·obtain ⟨_, rfl, _⟩ := h
  rfl
 obtain ⟨p, rfl, hp, q⟩ := h
 obtain ⟨tm, gM⟩ := T.MDEEDS
 have ga := Ca.at_
 refine ⟨_, (pss_cons (ps_if (pt_not (pt_val (pe_calK (K := K) rfl C_are_rows (hr.mono (by first | decide | omega)) rfl (pa_cons (pv 0) (pa_cons (pe_gint rfl gM) (pa_cons (pe_gref rfl ga) pa_nil)))))) (pss_one (ps_ret pe_bl)) pss_nil)
   (pss_cons (ps_set (i := 2) sc_are_asks.nd rfl (by first | exact Or.inl rfl | exact Or.inr rfl) (pe_lc (own := [("deed", 3)]) (g := gName 3) (tt := tYes) rfl sc_are_asks.nd (pi_tup (pv 1)) (blkOk_by (own := [("deed", 3)]) (N := N_are_asks) (sc := defScope s_are_asks) (by decide +kernel)) (fun _ _ _ _ _ => (pg_name (i := 3) sc_are_asks.nd rfl (by first | exact Or.inl rfl | exact Or.inr rfl))) (fun _ _ _ _ _ => pts_nil) (fun _ _ _ _ _ => (pe_ix (r := rIx K) ix_seq (pv 3) pe_int (fun _ _ => rfl)))))
   (pss_one (ps_ret (pe_not (pe_callB (r := rAny K) (id := "any")  (cr_any rfl) (by rfl) T.z_any (by decide +kernel) (pa_cons (pe_lc (own := [("row", 4)]) (g := gName 4) (tt := tYes) rfl sc_are_asks.nd (pi_tup (pv 0)) (blkOk_by (own := [("row", 4)]) (N := N_are_asks) (sc := defScope s_are_asks) (by decide +kernel)) (fun _ _ _ _ _ => (pg_name (i := 4) sc_are_asks.nd rfl (by first | exact Or.inl rfl | exact Or.inr rfl))) (fun _ _ _ _ _ => pts_nil) (fun _ _ _ _ _ => (pe_cmpR (r := rIn K false) op_in_seq (pe_ix (r := rIx K) ix_seq (pv 4) pe_int (fun _ _ => rfl)) (pv 2) rfl))) pa_nil))))))), ?_⟩
 try dsimp only [cxOf]
 change dS _ _ _ [Sl.d _, Sl.d _, Sl.un, Sl.un, Sl.un] _
 have ok3 : ∀ r ∈ p.asks.map askD, okAsk r := fun r h => by
  obtain ⟨a, ha, rfl⟩ := List.mem_map.mp h
  exact ⟨a, rfl, hp.a a ha⟩
 refine s_seq (s_if (d_not (d_tB (d_call (d_cons (d_var rfl (d_cons (d_c rfl (d_cons (d_c rfl (d_nil (m_rows (by rw [List.length_map]; have := hp.a8; omega) (by rw [List.length_map]; have := hp.a8; omega) ok3 (by rw [nm_asks]; exact hp.aup) ⟨true, rfl, br_f rfl ?_⟩))))))))))))
 refine s_next (s_seq (s_setL (i_tup (d_var rfl ⟨_, rfl, (by rw [List.length_map]; have := hp.d8; omega), ?_⟩))))
 refine lcW_fun (P := fun d => ∃ x rest, d = .tup (.str x :: rest)) (p := fun _ => true) (f := fun d => .str (nm0 d)) (fun d hd kx hx => g_nameV (by decide) (hx _ (fun kb q => d_yes q) fun _ k q => ?_)) _ [] ?_ ?_
 ·obtain ⟨x, rest, rfl⟩ := hd
  exact d_op (d_var rfl (d_c rfl (r_ix (.inr (r_ixT (show atI _ ((0 : Nat) : Int) = _ from atI_nat rfl) q)))))
 ·intro d hd
  obtain ⟨a, ha, rfl⟩ := List.mem_map.mp hd
  exact ⟨_, _, rfl⟩
 ·have ef : (p.deeds.map Dd.toD).filter (fun _ => true) = p.deeds.map Dd.toD := List.filter_eq_self.mpr fun _ _ => rfl
  have es : (p.deeds.map Dd.toD).map (fun d => D.str (nm0 d)) = strsOf (p.deeds.map Dd.name) := by unfold strsOf; rw [List.map_map, List.map_map]; rfl
  rw [List.nil_append, ef, es]
  dsimp only
  refine s_ret (d_notV (d_cb (d_cons (d_lc (i_tup (d_var rfl ⟨_, rfl, (by rw [List.length_map]; have := hp.a8; omega), ?_⟩))))))
  refine lcW_fun (P := fun d => ∃ x rest, d = .tup (.str x :: rest)) (p := fun _ => true) (f := fun d => .bl (decide (nm0 d ∈ p.deeds.map Dd.name))) (fun d hd kx hx => g_nameV (by decide) (hx _ (fun kb q => d_yes q) fun _ k q => ?_)) _ [] ?_ ?_
  ·obtain ⟨x, rest, rfl⟩ := hd
   exact d_op (d_op (d_var rfl (d_c rfl (r_ix (.inr (r_ixT (show atI _ ((0 : Nat) : Int) = _ from atI_nat rfl) (d_var rfl (r_in2 q))))))))
  ·intro d hd
   obtain ⟨a, ha, rfl⟩ := List.mem_map.mp hd
   exact ⟨_, _, rfl⟩
  ·have ef2 : (p.asks.map askD).filter (fun _ => true) = p.asks.map askD := List.filter_eq_self.mpr fun _ _ => rfl
   have es2 : (p.asks.map askD).map (fun d => D.bl (decide (nm0 d ∈ p.deeds.map Dd.name))) = (p.asks.map fun a => decide (a.1 ∈ p.deeds.map Dd.name)).map D.bl := by rw [List.map_map, List.map_map]; rfl
   have none : (p.asks.map fun a => decide (a.1 ∈ p.deeds.map Dd.name)).any id = false := by
    rw [List.any_eq_false]
    intro x hx
    obtain ⟨a, ha, rfl⟩ := List.mem_map.mp hx
    simp [hp.apart a ha]
   rw [List.nil_append, ef2, es2]
   refine d_nil (c_any ⟨_, rfl, ?_⟩)
   rw [none]
   exact q
def M_part (o : Pt → D) : List D → (D → Prop) → Prop := fun ds k => ∃ p : Pt, ds = [p.toD] ∧ p.ok ∧ k (o p)
theorem ok_fault (T : Txt w K mg) : Cal P w K mg base 17 "fault_of" ["part"] none (M_part fun _ => .non) := by
 obtain ⟨fd1, fdd1, Cd⟩ := ok_is_deed (P := P) (base := base) T
 obtain ⟨fc1, fdc1, Cc⟩ := ok_is_cell (P := P) (base := base) T
 have C_deeds := ok_rows rk_deed T Cd
 have C_cells := ok_rows rk_cell T Cc
 have C_are_asks := ok_asks (P := P) (base := base) T
 refine okF T.f_fault_of sc_fault_of (fun _ _ _ _ _ _ us hl => match us, hl with | [_], _ => rfl) (fun ds k h => ?_) (fun f cdv A outer s H E ds kk hr h => ?_)
 ·obtain ⟨_, rfl, _⟩ := h
  rfl
 obtain ⟨p, rfl, hp, q⟩ := h
 obtain ⟨tm, gM⟩ := T.MDEEDS
 obtain ⟨tc, gC⟩ := T.MCELLS
 obtain ⟨aP, gP, rP⟩ := T.PARTS.ex
 have gd := Cd.at_
 have gc := Cc.at_
 refine ⟨_, (pss_cons (ps_if (PW.pt (pw_or (pt_not (pt_val (pe_callB (r := rIsi K) (id := "isinstance")  call_isi (by rfl) T.z_isinstance (by decide +kernel) (pa_cons (pv 0) (pa_cons (pe_bty (n := "tuple") rfl T.z_tuple (by decide +kernel)) pa_nil))))) (pw_or (pt_cmpR op_lt (pe_callB (r := rLenQ K) (id := "len")  call_len_seq (by rfl) T.z_len PySem.boot_len (pa_cons (pv 0) pa_nil)) pe_int (nomark _)) (pw_or1 (pt_cmpR (r := rIn K true) op_notIn_seq (pe_ix (r := rIx K) ix_seq (pv 0) pe_int (fun _ _ => rfl)) (pe_gref rfl gP) rfl))))) (pss_one (ps_ret pe_str)) pss_nil)
   (pss_cons (ps_if (PW.pt (pw_or (pt_cmpR op_lt (pe_callB (r := rLenQ K) (id := "len")  call_len_seq (by rfl) T.z_len PySem.boot_len (pa_cons (pv 0) pa_nil)) pe_int (nomark _)) (pw_or1 (pt_not (pt_val (pe_calK (K := K) rfl C_deeds (hr.mono (by first | decide | omega)) rfl (pa_cons (pe_ix (r := rIx K) ix_seq (pv 0) pe_int (fun _ _ => rfl)) (pa_cons (pe_gint rfl gM) (pa_cons (pe_gref rfl gd) pa_nil))))))))) (pss_one (ps_ret pe_str)) pss_nil)
   (pss_cons (ps_if (PW.pt (pw_or (pt_cmpR op_lt (pe_callB (r := rLenQ K) (id := "len")  call_len_seq (by rfl) T.z_len PySem.boot_len (pa_cons (pv 0) pa_nil)) pe_int (nomark _)) (pw_or1 (pt_not (pt_val (pe_calK (K := K) rfl C_are_asks (hr.mono (by first | decide | omega)) rfl (pa_cons (pe_ix (r := rIx K) ix_seq (pv 0) pe_int (fun _ _ => rfl)) (pa_cons (pe_ix (r := rIx K) ix_seq (pv 0) pe_int (fun _ _ => rfl)) pa_nil)))))))) (pss_one (ps_ret pe_str)) pss_nil)
   (pss_cons (ps_if (PW.pt (pw_or (pt_cmpR op_ne (pe_callB (r := rLenQ K) (id := "len")  call_len_seq (by rfl) T.z_len PySem.boot_len (pa_cons (pv 0) pa_nil)) pe_int (nomark _)) (pw_or1 (pt_not (pt_val (pe_calK (K := K) rfl C_cells (hr.mono (by first | decide | omega)) rfl (pa_cons (pe_ix (r := rIx K) ix_seq (pv 0) pe_int (fun _ _ => rfl)) (pa_cons (pe_gint rfl gC) (pa_cons (pe_gref rfl gc) pa_nil))))))))) (pss_one (ps_ret pe_str)) pss_nil)
   (pss_one (ps_ret pe_non)))))), ?_⟩
 try dsimp only [cxOf]
 change dS _ _ _ [Sl.d _] _
 have n1 : (!decide (p.name ∈ partsS)) = false := by simp [hp.n]
 have okd : ∀ r ∈ p.deeds.map Dd.toD, okDeed r := fun r h => by
  obtain ⟨a, ha, rfl⟩ := List.mem_map.mp h
  exact ⟨a, rfl, hp.d a ha⟩
 have okc : ∀ r ∈ p.cells.map celD, okCell r := fun r h => by
  obtain ⟨a, ha, rfl⟩ := List.mem_map.mp h
  exact ⟨a, rfl, hp.c a ha⟩
 have ld := hp.d8
 have lc := hp.c4
 dsimp only [Pt.toD]
 refine s_seq (s_if (d_or (d_not (d_tB (d_cb (d_cons (d_var rfl ?_)))))))
 refine d_cons (d_c rfl ?_)
 refine d_nil (c_tup (by with_unfolding_all rfl) ?_)
 refine ⟨_, rfl, (br_f (by with_unfolding_all rfl) ?_)⟩
 refine d_or (d_test (d_op (d_cb (d_cons (d_var rfl ?_)))))
 refine d_nil (c_lenS (.inr rfl) (d_c rfl ?_))
 refine r_I0 rfl ?_
 refine ⟨_, rfl, (br_f (by with_unfolding_all rfl) ?_)⟩
 refine d_test (d_op (d_op (d_var rfl ?_)))
 refine d_c rfl ?_
 refine r_ix (.inr (r_ixT rfl ?_))
 refine d_cK (by assumption) ?_
 refine r_in1 ⟨_, rfl, (br_f (by assumption) ?_)⟩
 refine s_next (s_seq (s_if (d_or (d_test (d_op (d_cb (d_cons (d_var rfl ?_))))))))
 refine d_nil (c_lenS (.inr rfl) (d_c rfl ?_))
 refine r_I0 rfl ?_
 refine ⟨_, rfl, (br_f (by with_unfolding_all rfl) ?_)⟩
 refine d_not (d_tB (d_call (d_cons (d_op (d_var rfl ?_)))))
 refine d_c rfl ?_
 refine r_ix (.inr (r_ixT rfl ?_))
 refine d_cons (d_c rfl ?_)
 refine d_cons (d_c rfl ?_)
 refine d_nil ?_
 dsimp only
 refine m_rows (by rw [List.length_map]; omega) (by rw [List.length_map]; omega) okd (by rw [nm_deeds]; exact hp.dup) ?_
 refine ⟨_, rfl, (br_f (by with_unfolding_all rfl) ?_)⟩
 refine s_next (s_seq (s_if (d_or (d_test (d_op (d_cb (d_cons (d_var rfl ?_))))))))
 refine d_nil (c_lenS (.inr rfl) (d_c rfl ?_))
 refine r_I0 rfl ?_
 refine ⟨_, rfl, (br_f (by with_unfolding_all rfl) ?_)⟩
 refine d_not (d_tB (d_call (d_cons (d_op (d_var rfl ?_)))))
 refine d_c rfl ?_
 refine r_ix (.inr (r_ixT rfl ?_))
 refine d_cons (d_op (d_var rfl ?_))
 refine d_c rfl ?_
 refine r_ix (.inr (r_ixT rfl ?_))
 refine d_nil ?_
 dsimp only
 refine (show M_asks _ _ from ⟨p, rfl, hp, ⟨_, rfl, (br_f (by with_unfolding_all rfl) ?_)⟩⟩)
 refine s_next (s_seq (s_if (d_or (d_test (d_op (d_cb (d_cons (d_var rfl ?_))))))))
 refine d_nil (c_lenS (.inr rfl) (d_c rfl ?_))
 refine r_neI ⟨_, rfl, (br_f (by with_unfolding_all rfl) ?_)⟩
 refine d_not (d_tB (d_call (d_cons (d_op (d_var rfl ?_)))))
 refine d_c rfl ?_
 refine r_ix (.inr (r_ixT rfl ?_))
 refine d_cons (d_c rfl ?_)
 refine d_cons (d_c rfl ?_)
 refine d_nil ?_
 dsimp only
 refine m_rows (by rw [List.length_map]; omega) (by rw [List.length_map]; omega) okc (by rw [nm_cells]; exact hp.cup) ?_
 refine ⟨_, rfl, (br_f (by with_unfolding_all rfl) ?_)⟩
 refine s_next (s_ret (d_c rfl ?_))
 with_reducible assumption
 all_goals exact q
theorem m_part {o : Pt → D} {p : Pt} {k : D → Prop} (h1 : p.ok) (h : k (o p)) : M_part o [p.toD] k := ⟨p, rfl, h1, h⟩
theorem ok_check (T : Txt w K mg) : Cal P w K mg base 18 "check_part" ["part"] none (M_part fun _ => .non) := by
 have C_fault_of := ok_fault (P := P) (base := base) T
 refine okF T.f_check_part sc_check_part (fun _ _ _ _ _ _ us hl => match us, hl with | [_], _ => rfl) (fun ds k h => ?_) (fun f cdv A outer s H E ds kk hr h => ?_)
 ·obtain ⟨_, rfl, _⟩ := h
  rfl
 obtain ⟨p, rfl, hp, q⟩ := h
 refine ⟨_, (pss_cons (ps_set (i := 1) sc_check_part.nd rfl (by first | exact Or.inl rfl | exact Or.inr rfl) (pe_calK (K := K) rfl C_fault_of (hr.mono (by first | decide | omega)) rfl (pa_cons (pv 0) pa_nil)))
   (pss_one (ps_if (pt_cmpR op_notN (pv 1) pe_non (nomark _)) (pss_one ps_never) pss_nil))), ?_⟩
 try dsimp only [cxOf]
 change dS _ _ _ [Sl.d _, Sl.un] _
 refine s_seq (s_set (d_call (d_cons (d_var rfl ?_))))
 refine d_nil ?_
 dsimp only
 refine m_part hp (s_if (d_test (d_op (d_var rfl ?_))))
 refine d_c rfl ?_
 refine r_notN ⟨_, rfl, (br_f (by with_unfolding_all rfl) ?_)⟩
 refine s_next ?_
 with_reducible assumption
 all_goals exact q
end
end Pr
set_option Elab.async false
set_option linter.all false
set_option maxRecDepth 100000
set_option maxHeartbeats 2000000
namespace Pr
open PySem L2 PD
variable [Tabs]
section
variable {P : Program} {w : World} {K : PySem.W.Frag} {mg : Str → Option Value} {base : Heap}
def Pt.calls (p : Pt) : CT := p.deeds.map (fun d => (d.name, d.takes, d.tells)) ++ p.asks
theorem calls_nodup {p : Pt} (hp : p.ok) : (p.deeds.map Dd.name ++ p.asks.map (·.1)).Nodup := by
 have nd : ∀ {l : List Str}, l.Pairwise up → l.Nodup := fun {l} h => List.Pairwise.imp (fun {a b} q => by
  intro e
  subst e
  exact up_irr a q) h
 refine List.nodup_append.mpr ⟨nd hp.dup, nd hp.aup, fun a ha b hb e => ?_⟩
 subst e
 obtain ⟨x, hx, e⟩ := List.mem_map.mp hb
 exact hp.apart x hx (by rw [e]; exact ha)
def firstWrong (calls : CT) (cells : ET) : List Dd → Option Str
 | [] => none
 | d :: r => if d.body.kind d.takes calls cells = some d.tells then firstWrong calls cells r else some d.name
def Pt.wrong (p : Pt) : Option Str := firstWrong p.calls p.cells p.deeds
end
end Pr
set_option Elab.async false
set_option linter.all false
set_option maxRecDepth 100000
set_option maxHeartbeats 1000000
namespace Pr
open PySem L2 PD
variable [Tabs]
abbrev s_law_next : Stmt := top 57
abbrev N_law_next : List Str := ["_law_h", "_law_many_here", "_law_at", "_law_cell"]
theorem sc_law_next : FnScope N_law_next ["_law_h", "_law_many_here"] (defScope s_law_next) := ⟨rfl, rfl, rfl, by decide +kernel, rfl, by decide +kernel, by decide +kernel⟩
theorem hstep {ah as : Addr} {G H H' : Hp} (f : Fr (some (ah, as)) G H) (h : ∀ a, a ≠ ah → a ≠ as → H' a = H a) (st : HD (some (ah, as)) G H') : PD.Step (some (ah, as)) G H G H' := by
 obtain ⟨_, h1, h2, m, k, ns, h3, h4, _⟩ := f.st.2
 refine ⟨fun a o q e => by rw [h a q.2.1 q.2.2]; exact e, Same.refl G, fun a o e => ?_, fun a o e n => (by rw [n] at e; cases e), fun q hq => ?_, st⟩
 ·have n1 : a ≠ ah := ne_of_none e h1
  have n2 : a ≠ as := ne_of_none e h2
  rw [h a n1 n2]
  exact f.sub a o e
 ·obtain ⟨g, ps, e, r⟩ := f.st.1 q hq
  exact ⟨g, ps, by rw [h _ (f.st.1.ne h3 (fun ps z => by cases z) q hq).symm (f.st.1.ne h4 (fun ps z => by cases z) q hq).symm]; exact e, r⟩
theorem dp_ints {K : PySem.W.Frag} {H : Hp} : ∀ {ns : List Int}, DpAll K H (ns.map V.int) (ns.map PyData.int)
 | [] => .nil
 | n :: ns => .cons (.int n) dp_ints
theorem eqv_ints {ns : List Int} : PyData.eqv (.list (ns.map PyData.int)) (.list []) = decide (ns = []) := by
 cases ns <;> simp [PyData.eqv, PyData.eqvAll]
theorem canLay_ints : ∀ {ns : List Int}, PyData.canLayAll0 (ns.map PyData.int) = true ∧ PyData.depthAll (ns.map PyData.int) = 0
 | [] => ⟨rfl, rfl⟩
 | n :: ns => by
  obtain ⟨h1, h2⟩ := canLay_ints (ns := ns)
  rw [List.map_cons, PyData.canLayAll0, PyData.depthAll, h1, h2]
  exact ⟨rfl, rfl⟩
theorem shaped_ints {ns : List Int} : SeqAt.shaped (.list (ns.map PyData.int)) = true := by
 unfold SeqAt.shaped
 rw [PyData.canLay0, PyData.depth, canLay_ints.1, canLay_ints.2]
 rfl
section
variable {P : Program} {w : World} {K : PySem.W.Frag} {mg : Str → Option Value} {base : Heap}
def M_next (ah : Addr) : List D → (D → Prop) → Prop := fun ds k => ∃ many : Int, ds = [.adr ah, .int many] ∧ 1 ≤ many ∧ many ≤ 1000 ∧ ∀ r : Int, 0 ≤ r → r < many → k (.int r)
theorem ok_next {ah as : Addr} (F : DefT K mg "_law_next" s_law_next) (zl : mg "len" = none) (zm : mg "max" = none) : Cal P w K mg base 1 "_law_next" ["_law_h", "_law_many_here"] (some (ah, as)) (M_next ah) := by
 obtain ⟨f, fd, h1, h2⟩ := F
 refine ⟨f, fd, h1, h2.kp, h2.bindsN (fun _ _ _ _ _ _ us hl => match us, hl with | [_, _], _ => rfl), fd_look h2, ?_⟩
 refine h2.ok sc_law_next (fun vs H Q E h => ?_) (fun cdv A outer s H vs Q E hr h => ?_)
 ·obtain ⟨G, ds, kk, _, r, ⟨_, rfl, _⟩, _⟩ := h
  rw [r.length]
  rfl
 obtain ⟨G, ds, kk, fr, r, ⟨many, rfl, m1, m2, hk⟩, z⟩ := h
 obtain ⟨ne, g1, g2, m, j, ns, e1, e2, l63, j0, b0, b1⟩ := fr.st.2
 have hu := hu_of hr
 refine ⟨_, PSs.nox ((pss_cons (ps_set (i := 2) sc_law_next.nd rfl (by first | exact Or.inl rfl | exact Or.inr rfl) (pe_op op_modN (pe_ix (r := rIx K) ix_seq (pv 0) pe_int (fun _ _ => rfl)) (pe_callB  (call_max2 rfl) (by rfl) zm (by decide +kernel) (pa_cons pe_int (pa_cons (pe_callB (r := rLenQ K) (id := "len")  call_len_seq (by rfl) zl PySem.boot_len (pa_cons (pe_ix (r := rIx K) ix_seq (pv 0) pe_int (fun _ _ => rfl)) pa_nil)) pa_nil)))))
   (pss_cons (ps_set (i := 3) sc_law_next.nd rfl (by first | exact Or.inl rfl | exact Or.inr rfl) (pe_ifExp (pt_cmpR (r := rNeD K) (op_neD hr.units) (pe_ix (r := rIx K) ix_seq (pv 0) pe_int (fun _ _ => rfl)) (pe_lst pa_nil) (nomark _)) (pe_ix (r := rIx K) ix_seq (pe_ix (r := rIx K) ix_seq (pv 0) pe_int (fun _ _ => rfl)) (pv 2) (fun _ _ => rfl)) pe_int))
   (pss_cons (ps_if (pt_cmpR op_ge (pv 3) (pe_op op_pow pe_int pe_int) (nomark _)) (pss_cons (ps_asg (pe_op op_fdivN (pv 3) (pv 1)) (pg_sub (pe_ix (r := rIx K) ix_seq (pv 0) pe_int (fun _ _ => rfl)) (pv 2) set_list))
   (pss_one (ps_ret (pe_op op_modN (pv 3) (pv 1))))) pss_nil)
   (pss_cons (ps_asg (pe_op op_modN (pe_op op_add (pe_op op_add (pe_op op_mul (pe_ix (r := rIx K) ix_seq (pv 0) pe_int (fun _ _ => rfl)) pe_int) (pe_op op_mul (pv 3) pe_int)) pe_int) pe_int) (pg_sub (pv 0) pe_int set_list))
   (pss_cons (ps_asg (pe_op op_add (pe_ix (r := rIx K) ix_seq (pv 0) pe_int (fun _ _ => rfl)) pe_int) (pg_sub (pv 0) pe_int set_list))
   (pss_one (ps_ret (pe_op op_modN (pe_op op_fdivN (pe_ix (r := rIx K) ix_seq (pv 0) pe_int (fun _ _ => rfl)) pe_int) (pv 1)))))))))), ?_⟩
 cases r with
 | cons r1 r2 =>
 cases r2 with
 | cons r2 r3 =>
 cases r3
 cases rel_adr r1
 cases rel_int r2
 have hn1 : ∀ x : Addr, ∀ p : Addr, ∀ o : HO, H x = some o → H p = none → x ≠ p := fun x p o a b => ne_of_none a b
 refine ⟨_, rfl, .inl ⟨_, _, _, _, rfl, rfl, SqL.of e1, rfl, _, rfl, .inl ⟨_, _, _, _, rfl, rfl, SqL.of e1, rfl, _, _, rfl, .inl (SqL.of e2), _, _, rfl, _, _, rfl, rfl, ?_, ?_⟩⟩⟩
 ·rw [List.length_map]
  split <;> omega
 refine ⟨_, rfl, .inl ⟨_, _, _, _, rfl, rfl, SqL.of e1, rfl, Nat.zero_le _, fun p hp => ?_⟩⟩
 have na : ah ≠ p := hn1 _ _ _ e1 hp
 have ns' : as ≠ p := hn1 _ _ _ e2 hp
 have e1' : upd H p (.lst []) ah = _ := (upd_ne na).trans e1
 have e2' : upd H p (.lst []) as = _ := (upd_ne ns').trans e2
 refine ⟨.list (ns.map PyData.int), .list [], .lst (SqL.of e2') dp_ints, .lst (SqL.of upd_same) .nil, shaped_ints, rfl, ?_⟩
 refine ⟨_, rfl, ?_⟩
 rw [eqv_ints]
 have fr1 : Fr (some (ah, as)) G (upd H p (.lst [])) := (Step.fresh fr.sub fr.st hp).fr
 -- behind the choice of the cell
 by_cases hz : ns = []
 ·rw [decide_eq_true hz]
  refine ⟨_, rfl, _, _, rfl, rfl, ⟨by decide, by decide, by decide⟩, _, _, rfl, rfl, _, rfl, ?_⟩
  refine ite2 (fun hb => absurd (of_decide_eq_true hb) (by decide)) (fun _ => ?_)
  refine ⟨_, rfl, .inl ⟨_, _, _, _, rfl, rfl, SqL.of e1', rfl, _, _, rfl, rfl, .inr (by decide), _, rfl, _, _, rfl, rfl, .inr (by decide), _, _, rfl, rfl, _, _, rfl, rfl, _, _, rfl, rfl, (show (2147483647 : Int) ≠ 0 by decide), ?_⟩⟩
  refine ⟨_, rfl, _, _, _, 0, rfl, rfl, e1', rfl, ?_⟩
  refine ⟨_, rfl, .inl ⟨_, _, _, _, rfl, rfl, SqL.of upd_same, rfl, _, _, rfl, rfl, _, rfl, _, _, _, 2, rfl, rfl, upd_same, rfl, ?_⟩⟩
  refine ⟨_, rfl, .inl ⟨_, _, _, _, rfl, rfl, SqL.of upd_same, rfl, _, _, rfl, rfl, ⟨by decide, by decide⟩, _, rfl, _, _, rfl, rfl, (by omega), ?_⟩⟩
  refine z (.int _) G _ (.int _) (PD.Step.trans (Step.fresh fr.sub fr.st hp) (hstep fr1 (fun a n1 n2 => (by rw [upd_ne n1, upd_ne n1])) ⟨ne, g1, g2, _, j + 1, ns, upd_same, (by rw [upd_ne ne.symm, upd_ne ne.symm]; exact e2'), l63, by omega, Int.fmod_nonneg_of_pos _ (by decide), Int.fmod_lt_of_pos _ (by decide)⟩)) .int (hk _ (Int.fmod_nonneg_of_pos _ (by omega)) (Int.fmod_lt_of_pos _ (by omega)))
 ·rw [decide_eq_false hz]
  have hl : 0 < ns.length := List.length_pos_iff.mpr hz
  have eat : ∃ q : Nat, j.fmod (if ((ns.map V.int).length : Int) > 1 then ((ns.map V.int).length : Int) else 1) = (q : Int) ∧ q < ns.length := by
   rw [List.length_map]
   have p1 : (0 : Int) < (if (ns.length : Int) > 1 then (ns.length : Int) else 1) := by split <;> omega
   have h1 := Int.fmod_nonneg_of_pos j p1
   have h2 := Int.fmod_lt_of_pos j p1
   have h3 : (if (ns.length : Int) > 1 then (ns.length : Int) else 1) = ns.length := by split <;> omega
   rw [h3] at h1 h2 ⊢
   exact ⟨(j.fmod ns.length).toNat, by omega, by omega⟩
  obtain ⟨q, eq, hq⟩ := eat
  have hc : (ns.map V.int)[q]? = some (.int ns[q]) := by rw [List.getElem?_map, List.getElem?_eq_getElem hq]; rfl
  refine ⟨_, rfl, .inl ⟨_, _, _, _, rfl, rfl, SqL.of e1', rfl, _, rfl, .inl ⟨_, _, _, _, rfl, congrArg V.int eq, SqL.of e2', atI_nat hc, ?_⟩⟩⟩
  refine ⟨_, rfl, _, _, rfl, rfl, ⟨by decide, by decide, by decide⟩, _, _, rfl, rfl, _, rfl, ?_⟩
  refine ite2 (fun hb => ?_) (fun _ => ?_)
  ·refine ⟨_, rfl, _, rfl, _, _, rfl, rfl, ⟨by omega, by omega⟩, ?_⟩
   refine ⟨_, rfl, .inl ⟨_, _, _, _, rfl, rfl, SqL.of e1', rfl, _, rfl, _, _, _, q, rfl, rfl, e2', (by rw [eq, List.length_map]; unfold ixN; rw [if_pos (by omega), if_pos (by omega)]; simp), ?_⟩⟩
   refine ⟨_, rfl, _, rfl, _, _, rfl, rfl, (by omega), ?_⟩
   refine z (.int _) G _ (.int _) (PD.Step.trans (Step.fresh fr.sub fr.st hp) (hstep fr1 (fun a n1 n2 => (by rw [upd_ne n2])) ⟨ne, g1, g2, m, j, ns.set q _, (by rw [upd_ne ne]; exact e1'), (by rw [upd_same, List.map_set]), (by rw [List.length_set]; exact l63), j0, b0, b1⟩)) .int (hk _ (Int.fmod_nonneg_of_pos _ (by omega)) (Int.fmod_lt_of_pos _ (by omega)))
  ·show tNext _ _ _
   refine ⟨_, rfl, .inl ⟨_, _, _, _, rfl, rfl, SqL.of e1', rfl, _, _, rfl, rfl, .inr (by decide), _, rfl, _, _, rfl, rfl, .inr (by decide), _, _, rfl, rfl, _, _, rfl, rfl, _, _, rfl, rfl, (show (2147483647 : Int) ≠ 0 by decide), ?_⟩⟩
   refine ⟨_, rfl, _, _, _, 0, rfl, rfl, e1', rfl, ?_⟩
   refine ⟨_, rfl, .inl ⟨_, _, _, _, rfl, rfl, SqL.of upd_same, rfl, _, _, rfl, rfl, _, rfl, _, _, _, 2, rfl, rfl, upd_same, rfl, ?_⟩⟩
   refine ⟨_, rfl, .inl ⟨_, _, _, _, rfl, rfl, SqL.of upd_same, rfl, _, _, rfl, rfl, ⟨by decide, by decide⟩, _, rfl, _, _, rfl, rfl, (by omega), ?_⟩⟩
   refine z (.int _) G _ (.int _) (PD.Step.trans (Step.fresh fr.sub fr.st hp) (hstep fr1 (fun a n1 n2 => (by rw [upd_ne n1, upd_ne n1])) ⟨ne, g1, g2, _, j + 1, ns, upd_same, (by rw [upd_ne ne.symm, upd_ne ne.symm]; exact e2'), l63, by omega, Int.fmod_nonneg_of_pos _ (by decide), Int.fmod_lt_of_pos _ (by decide)⟩)) .int (hk _ (Int.fmod_nonneg_of_pos _ (by omega)) (Int.fmod_lt_of_pos _ (by omega)))
end
end Pr
set_option Elab.async false
set_option linter.all false
set_option maxRecDepth 100000
set_option maxHeartbeats 2000000
namespace Pr
open PySem L2 PD
variable [Tabs]
abbrev s_law_leaf : Stmt := top 59
abbrev N_law_leaf : List Str := ["_law_h", "_law_e", "_law_kind_here", "_law_some", "_law_cell"]
theorem sc_law_leaf : FnScope N_law_leaf ["_law_h", "_law_e", "_law_kind_here"] (defScope s_law_leaf) := ⟨rfl, rfl, rfl, by decide +kernel, rfl, by decide +kernel, by decide +kernel⟩
def eD (takes : Str) (calls : CT) (cells : ET) : D := .dct [("takes", .str takes), ("deeds", ctD calls), ("cells", etD cells)]
structure EnvG (takes : Str) (calls : CT) (cells : ET) : Prop extends EnvOk takes calls cells where
 cn : ∀ p ∈ calls, p.1 ∈ deedsS
 en : ∀ p ∈ cells, p.1 ∈ cellsS
 clen : calls.length ≤ 8
 elen : cells.length ≤ 4
 cnd : (calls.map (·.1)).Nodup
 ecd : (cells.map (·.1)).Nodup
section
variable {P : Program} {w : World} {K : PySem.W.Frag} {mg : Str → Option Value} {base : Heap}
def M_leaf (ah : Addr) : List D → (D → Prop) → Prop := fun ds k => ∃ (takes : Str) (calls : CT) (cells : ET) (kind : Str), ds = [.adr ah, eD takes calls cells, .str kind] ∧ EnvG takes calls cells ∧ kind ∈ kindsS ∧
 ∀ b : B, b.ok → b.depth = 1 → b.kind takes calls cells = some kind → k b.toD
theorem m_next {ah : Addr} {many : Int} {k : D → Prop} (h1 : 1 ≤ many) (h2 : many ≤ 1000) (h : ∀ r : Int, 0 ≤ r → r < many → k (.int r)) : M_next ah [.adr ah, .int many] k := ⟨many, rfl, h1, h2, h⟩
theorem d_next {ah : Addr} {hs : Option (Addr × Addr)} {ρ : List Sl} {i : Nat} {n : Int} {k : D → Prop} {X : XK} (e : ρ[i]? = some (.d (.adr ah))) (h1 : 1 ≤ n) (h2 : n ≤ 1000) (h : ∀ r : Int, 0 ≤ r → r < n → k (.int r)) :
  dE K hs (tCall (spD K hs (M_next ah)) [] X (tCons (tVar i) (tCons (tC (.int n)) tNil))) ρ k := d_call (d_cons (d_var e (d_cons (d_c rfl (d_nil (m_next h1 h2 h))))))
theorem look_in {α : Type} {l : List (Str × α)} (nd : (l.map (·.1)).Nodup) {s : Str} {x : α} (h : (s, x) ∈ l) : lookS l s = some x := by
 unfold lookS
 induction l with
 | nil => cases h
 | cons p r ih =>
  rw [List.map_cons, List.nodup_cons] at nd
  rw [List.find?_cons]
  rcases List.mem_cons.mp h with rfl | h
  ·simp
  ·have : ¬ p.1 = s := fun e => nd.1 (by rw [e]; exact List.mem_map.mpr ⟨_, h, rfl⟩)
   simp only [this, decide_false]
   exact ih nd.2 h
theorem ok_leaf {ah as : Addr} (F : DefT K mg "_law_leaf" s_law_leaf) (zl : mg "len" = none) (zs : mg "sorted" = none) (C_law_next : Cal P w K mg base 1 "_law_next" ["_law_h", "_law_many_here"] (some (ah, as)) (M_next ah)) :
  Cal P w K mg base 2 "_law_leaf" ["_law_h", "_law_e", "_law_kind_here"] (some (ah, as)) (M_leaf ah) := by
 refine okF F sc_law_leaf (fun _ _ _ _ _ _ us hl => match us, hl with | [_, _, _], _ => rfl) (fun ds k h => ?_) (fun f cdv A outer s H E ds kk hr h => ?_)
 ·obtain ⟨_, _, _, _, rfl, _⟩ := h
  rfl
 obtain ⟨takes, calls, cells, kind, rfl, hg, hk, q⟩ := h
 have hu := hu_of hr
 refine ⟨_, (pss_cons (ps_set (i := 3) sc_law_leaf.nd rfl (by first | exact Or.inl rfl | exact Or.inr rfl) (pe_lst pa_nil))
   (pss_cons (ps_if (pt_cmpR op_eq (pe_dget hu (pv 1) pe_str (fun _ _ => rfl)) (pv 2) (nomark _)) (pss_one (ps_set (i := 3) sc_law_leaf.nd rfl (by first | exact Or.inl rfl | exact Or.inr rfl) (pe_op op_cat (pv 3) (pe_op op_rep (pe_lst (pa_cons (pe_tup (pa_cons pe_str pa_nil)) pa_nil)) pe_int)))) pss_nil)
   (pss_cons (ps_for PassesOwn.never rfl (pi_list (pe_callB (r := rSortD) (id := "sorted") (call_sortedD rfl) (by rfl) zs (by decide +kernel) (pa_cons (pe_dget hu (pv 1) pe_str (fun _ _ => rfl)) pa_nil))) (pg_name (i := 4) sc_law_leaf.nd rfl (by first | exact Or.inl rfl | exact Or.inr rfl)) (pss_one (ps_if (pt_cmpR op_eq (pe_dget hu (pe_dget hu (pv 1) pe_str (fun _ _ => rfl)) (pv 4) (fun _ _ => rfl)) (pv 2) (nomark _)) (pss_one (ps_set (i := 3) sc_law_leaf.nd rfl (by first | exact Or.inl rfl | exact Or.inr rfl) (pe_op op_cat (pv 3) (pe_op op_rep (pe_lst (pa_cons (pe_tup (pa_cons pe_str (pa_cons (pv 4) pa_nil))) pa_nil)) pe_int)))) pss_nil)))
   (pss_cons (ps_if (pt_cmpR op_eq (pv 2) pe_str (nomark _)) (pss_one (ps_expr (pe_bm PySem.F.plainAttrs_list PySem.F.slot_list_append PySem.F.type_list_append mt_append (pv 3) (pa_cons (pe_tup (pa_cons pe_str (pa_cons (pe_ix (r := rIx K) ix_seq (pe_lst (pa_cons (pe_op op_sub (pe_calK (K := K) rfl C_law_next (hr.mono (by first | decide | omega)) rfl (pa_cons (pv 0) (pa_cons pe_int pa_nil))) pe_int) (pa_cons (pe_op op_sub (pe_calK (K := K) rfl C_law_next (hr.mono (by first | decide | omega)) rfl (pa_cons (pv 0) (pa_cons pe_int pa_nil))) pe_int) pa_nil))) (pe_calK (K := K) rfl C_law_next (hr.mono (by first | decide | omega)) rfl (pa_cons (pv 0) (pa_cons pe_int pa_nil))) (fun _ _ => rfl)) pa_nil))) pa_nil)))) pss_nil)
   (pss_cons (ps_if (pt_cmpR op_eq (pv 2) pe_str (nomark _)) (pss_one (ps_expr (pe_bm PySem.F.plainAttrs_list PySem.F.slot_list_append PySem.F.type_list_append mt_append (pv 3) (pa_cons (pe_tup (pa_cons pe_str (pa_cons (pe_cmpR op_eq (pe_calK (K := K) rfl C_law_next (hr.mono (by first | decide | omega)) rfl (pa_cons (pv 0) (pa_cons pe_int pa_nil))) pe_int (nomark _)) pa_nil))) pa_nil)))) pss_nil)
   (pss_cons (ps_if (pt_cmpR op_eq (pv 2) pe_str (nomark _)) (pss_one (ps_expr (pe_bm PySem.F.plainAttrs_list PySem.F.slot_list_append PySem.F.type_list_append mt_append (pv 3) (pa_cons (pe_tup (pa_cons pe_str pa_nil)) pa_nil)))) pss_nil)
   (pss_one (ps_ret (pe_ix (r := rIx K) ix_seq (pv 3) (pe_calK (K := K) rfl C_law_next (hr.mono (by first | decide | omega)) rfl (pa_cons (pv 0) (pa_cons (pe_callB (r := rLenQ K) (id := "len")  call_len_seq (by rfl) zl PySem.boot_len (pa_cons (pv 3) pa_nil)) pa_nil))) (fun _ _ => rfl)))))))))), ?_⟩
 try dsimp only [cxOf]
 change dS _ _ _ [Sl.d _, Sl.d _, Sl.d _, Sl.un, Sl.un] _
 let I : Nat → List Sl → Prop := fun n ρ' => ∃ (bs : List B) (s4 : Sl), bs.length ≤ n ∧ (∀ b ∈ bs, b.ok ∧ b.depth = 1 ∧ b.kind takes calls cells = some kind) ∧ ρ' = [.d (.adr ah), .d (eD takes calls cells), .d (.str kind), .own (bs.map B.toD), s4]
 refine s_seq (s_own (l_lst (d_nil ⟨by simp, ?_⟩)))
 refine s_cut (I := I 3) ?_ ?_
 ·refine s_if (d_test (d_op (d_dget (d_var rfl (d_c rfl ⟨_, _, _, rfl, rfl, rfl, d_var rfl (r_eqS ⟨_, rfl, fun e => ?_, fun e => ?_⟩)⟩)))))
  ·refine s_keep (i := 3) rfl (s_own (l_cat (d_var rfl (d_ofL (l_rep ?_)))))
   refine d_lst (d_cons (d_tup (d_cons (d_c rfl ?_))))
   refine d_nil (And.intro (show List.length _ ≤ 100000 by simp) ?_)
   refine d_nil (And.intro (show List.length _ ≤ 100000 by simp) ?_)
   refine d_c rfl ?_
   dsimp only
   rotate_left
   refine ⟨_, 3, rfl, rfl, by simp, by omega, ⟨_, _, rfl, rfl, by simp, ?_⟩⟩
   have ek : takes = kind := of_decide_eq_true e
   exact ⟨[.arg, .arg, .arg], _, by simp, fun b hb => by
    simp only [List.mem_cons, List.not_mem_nil, or_false, or_self] at hb
    subst hb
    exact ⟨trivial, rfl, by rw [← ek]; rfl⟩, rfl⟩
  ·refine s_next ?_
   exact ⟨[], _, by simp, fun b hb => (by cases hb), rfl⟩
 rintro ρ' ⟨bs, s4, hl, hb, rfl⟩
 refine s_cut (I := I 11) (s_for (i_list (d_ofL (l_sortedD (d_dget (d_var rfl (d_c rfl ⟨_, _, _, rfl, rfl, rfl, _, rfl, by rw [List.length_map]; have := hg.elen; omega, fun ys y1 y2 => ⟨_, rfl, ?_⟩⟩))))))) ?_
 ·have yl : ys.length ≤ 4 := by rw [y1.length_eq, List.length_map, List.length_map]; exact hg.elen
  have ym : ∀ c ∈ ys, ∃ kd, (c, kd) ∈ cells := fun c hc => by
   have := y1.mem_iff.mp hc
   rw [List.map_map] at this
   obtain ⟨p, hp, rfl⟩ := List.mem_map.mp this
   exact ⟨p.2, hp⟩
  have loop : ∀ (r : List Str) (n : Nat) (ρ : List Sl), (∀ c ∈ r, c ∈ ys) → r.length ≤ n → I (3 + 2 * (4 - n)) ρ → n ≤ 4 → forW K (some (ah, as)) (gName 4) (tIfS (tTest (tOp rEq (tDGet (tDGet (tVar 1) (tC (V.str "cells"))) (tVar 4)) (tVar 2))) (tAsg (tOp rCat (tVar 3) (tOp rRep (tLst (tCons (tTup (tCons (tC (V.str "cell")) (tCons (tVar 4) tNil))) tNil)) (tC (V.int 2)))) (gName 3)) tNext) { nx := I 11, rt := kk } (strsOf r) ρ := by
   intro r
   induction r with
   | nil =>
    rintro n ρ _ _ ⟨bs, s4, h1, h2, h3⟩ _
    exact ⟨bs, s4, by omega, h2, h3⟩
   | cons c r ih =>
    rintro n ρ hm hn ⟨bs, s4, h1, h2, rfl⟩ n4
    rw [List.length_cons] at hn
    obtain ⟨kd, hc⟩ := ym c (hm c List.mem_cons_self)
    have lk := look_in hg.ecd hc
    have step : ∀ ρ', I (3 + 2 * (4 - (n - 1))) ρ' → forW K (some (ah, as)) (gName 4) _ _ (strsOf r) ρ' := fun ρ' h => ih (n - 1) ρ' (fun x hx => hm x (List.mem_cons_of_mem _ hx)) (by omega) h (by omega)
    refine forW_cons (g_name (s_if (d_test (d_op (d_dget ?_)))))
    refine d_dget (d_var rfl (d_c rfl ⟨_, _, _, rfl, rfl, rfl, ?_⟩))
    refine d_var rfl ⟨_, _, .str kd, rfl, rfl, (by rw [look_map D.str, lk]; rfl), ?_⟩
    refine d_var rfl (r_eqS ⟨_, rfl, fun e => ?_, fun e => ?_⟩)
    ·refine s_keep (i := 3) rfl (s_own (l_cat (d_var rfl (d_ofL (l_rep ?_)))))
     refine d_lst (d_cons (d_tup (d_cons (d_c rfl ?_))))
     refine d_cons (d_var rfl ?_)
     refine d_nil (And.intro (show List.length _ ≤ 100000 by simp) ?_)
     refine d_nil (And.intro (show List.length _ ≤ 100000 by simp) ?_)
     refine d_c rfl ?_
     dsimp only
     rotate_left
     refine ⟨_, 2, rfl, rfl, by simp, by omega, ⟨_, _, rfl, rfl, by simp; omega, ?_⟩⟩
     have ek : kd = kind := of_decide_eq_true e
     refine step _ ⟨bs ++ [.cel c, .cel c], _, by rw [List.length_append]; simp; omega, fun b hb => ?_, by rw [List.map_append]; rfl⟩
     rcases List.mem_append.mp hb with hb | hb
     ·exact h2 b hb
     ·simp only [List.mem_cons, List.not_mem_nil, or_false, or_self] at hb
      subst hb
      exact ⟨hg.en _ hc, rfl, by rw [← ek]; exact lk⟩
    ·exact s_next (step _ ⟨bs, _, by omega, h2, rfl⟩)
  exact loop ys 4 _ (fun c h => h) yl ⟨bs, s4, by omega, hb, rfl⟩ (Nat.le_refl _)
 rintro ρ' ⟨bs, s4, hl, hb, rfl⟩
 -- at the end: one of them is drawn
 have last : ∀ (bs : List B) (s4 : Sl), bs.length ≤ 12 → 1 ≤ bs.length → (∀ b ∈ bs, b.ok ∧ b.depth = 1 ∧ b.kind takes calls cells = some kind) →
   dS K (some (ah, as)) (tRet (tOp (rIx K) (tVar 3) (tCall (spD K (some (ah, as)) (M_next ah)) [] E0 (tCons (tVar 0) (tCons (tCB (rLenQ K) (tCons (tVar 3) tNil)) tNil))))) [.d (.adr ah), .d (eD takes calls cells), .d (.str kind), .own (bs.map B.toD), s4] { nx := fun _ => kk .non, rt := kk } := by
  intro bs s4 h1 h2 h3
  refine s_keep (i := 3) rfl (s_ret (d_op (d_var rfl (d_call (d_cons (d_var rfl (d_cons (d_cb (d_cons (d_var rfl (d_nil (c_lenS (.inl rfl) (d_nil (m_next (by rw [List.length_map]; omega) (by rw [List.length_map]; omega) fun r r0 r1 => ?_))))))))))))))
  rw [List.length_map] at r1
  have hq : r.toNat < bs.length := by omega
  refine r_ix (.inl (r_ixL (d := (bs[r.toNat]).toD) (atI_get (j := r.toNat) (by omega) (by rw [List.getElem?_map, List.getElem?_eq_getElem hq]; rfl)) ?_))
  obtain ⟨o1, o2, o3⟩ := h3 _ (List.getElem_mem hq)
  exact q _ o1 o2 o3
 have add : ∀ b : B, (b.ok ∧ b.depth = 1 ∧ b.kind takes calls cells = some kind) → (∀ x ∈ bs ++ [b], x.ok ∧ x.depth = 1 ∧ x.kind takes calls cells = some kind) := fun b h x hx => by
  rcases List.mem_append.mp hx with z | z
  ·exact hb x z
  ·rw [List.mem_singleton.mp z]; exact h
 have app : ∀ b : B, bs.map B.toD ++ [b.toD] = (bs ++ [b]).map B.toD := fun b => by rw [List.map_append]; rfl
 have kk3 : kind = "number" ∨ kind = "truth" ∨ kind = "list" := by
  simpa only [kindsS, List.mem_cons, List.not_mem_nil, or_false] using hk
 rcases kk3 with rfl | rfl | rfl
 ·refine s_seq (s_if (d_test (d_op (d_var rfl (d_c rfl (r_eqS ⟨_, rfl, br_t (by decide) ?_⟩))))))
  refine s_app (i := 3) rfl (by rw [List.length_map]; omega) ?_
  have numb : ∀ n : Int, -99 ≤ n → n ≤ 99 → (B.num n).ok ∧ (B.num n).depth = 1 ∧ (B.num n).kind takes calls cells = some ("number" : Str) := fun n h1 h2 => ⟨⟨h1, h2⟩, rfl, rfl⟩
  refine d_tup (d_cons (d_c rfl (d_cons (d_op (d_lst (d_cons (d_op ?_)))))))
  refine d_next rfl (by decide) (by decide) fun r1 a1 b1 => ?_
  refine d_c rfl (r_I0 rfl (d_cons (d_op ?_)))
  refine d_next rfl (by decide) (by decide) fun r2 a2 b2 => ?_
  refine d_c rfl (r_I0 rfl (d_nil ⟨by simp, ?_⟩))
  refine d_next rfl (by decide) (by decide) fun r3 a3 b3 => ?_
  have r3 : r3 = 0 ∨ r3 = 1 := by omega
  rcases r3 with rfl | rfl
  ·refine r_ix (.inl (r_ixL rfl (d_nil ⟨by simp, ?_⟩)))
   refine s_seq (s_if (d_test (d_op (d_var rfl (d_c rfl (r_eqS ⟨_, rfl, br_f (by decide) ?_⟩))))))
   refine s_next ?_
   refine s_seq (s_if (d_test (d_op (d_var rfl (d_c rfl (r_eqS ⟨_, rfl, br_f (by decide) ?_⟩))))))
   refine s_next ?_
   have e := app (.num (r1 - 3))
   show dS _ _ _ [_, _, _, .own (bs.map B.toD ++ [(B.num (r1 - 3)).toD]), _] _
   rw [e]
   exact last _ _ (by simp; omega) (by simp) (add _ (numb _ (by omega) (by omega)))
  ·refine r_ix (.inl (r_ixL rfl (d_nil ⟨by simp, ?_⟩)))
   refine s_seq (s_if (d_test (d_op (d_var rfl (d_c rfl (r_eqS ⟨_, rfl, br_f (by decide) ?_⟩))))))
   refine s_next ?_
   refine s_seq (s_if (d_test (d_op (d_var rfl (d_c rfl (r_eqS ⟨_, rfl, br_f (by decide) ?_⟩))))))
   refine s_next ?_
   have e := app (.num (r2 - 99))
   show dS _ _ _ [_, _, _, .own (bs.map B.toD ++ [(B.num (r2 - 99)).toD]), _] _
   rw [e]
   exact last _ _ (by simp; omega) (by simp) (add _ (numb _ (by omega) (by omega)))
 ·refine s_seq (s_if (d_test (d_op (d_var rfl (d_c rfl (r_eqS ⟨_, rfl, br_f (by decide) ?_⟩))))))
  refine s_next ?_
  refine s_seq (s_if (d_test (d_op (d_var rfl (d_c rfl (r_eqS ⟨_, rfl, br_t (by decide) ?_⟩))))))
  refine s_app (i := 3) rfl (by rw [List.length_map]; omega) ?_
  refine d_tup (d_cons (d_c rfl (d_cons (d_op ?_))))
  refine d_next rfl (by decide) (by decide) fun r1 a1 b1 => ?_
  refine d_c rfl (r_eqI (d_nil ⟨by simp, ?_⟩))
  refine s_seq (s_if (d_test (d_op (d_var rfl (d_c rfl (r_eqS ⟨_, rfl, br_f (by decide) ?_⟩))))))
  refine s_next ?_
  have e := app (.tru (decide (r1 = 1)))
  show dS _ _ _ [_, _, _, .own (bs.map B.toD ++ [(B.tru (decide (r1 = 1))).toD]), _] _
  rw [e]
  exact last _ _ (by simp; omega) (by simp) (add _ ⟨trivial, rfl, rfl⟩)
 ·refine s_seq (s_if (d_test (d_op (d_var rfl (d_c rfl (r_eqS ⟨_, rfl, br_f (by decide) ?_⟩))))))
  refine s_next ?_
  refine s_seq (s_if (d_test (d_op (d_var rfl (d_c rfl (r_eqS ⟨_, rfl, br_f (by decide) ?_⟩))))))
  refine s_next ?_
  refine s_seq (s_if (d_test (d_op (d_var rfl (d_c rfl (r_eqS ⟨_, rfl, br_t (by decide) ?_⟩))))))
  refine s_app (i := 3) rfl (by rw [List.length_map]; omega) ?_
  refine d_tup (d_cons (d_c rfl (d_nil ⟨by simp, ?_⟩)))
  have e := app .emp
  show dS _ _ _ [_, _, _, .own (bs.map B.toD ++ [B.emp.toD]), _] _
  rw [e]
  exact last _ _ (by simp; omega) (by simp) (add _ ⟨trivial, rfl, rfl⟩)
end
end Pr
set_option Elab.async false
set_option linter.all false
set_option maxRecDepth 100000
set_option maxHeartbeats 2000000
namespace Pr
open PySem L2 PD
variable [Tabs]
abbrev s_law_call : Stmt := top 60
abbrev N_law_call : List Str := ["_law_h", "_law_e", "_law_kind_here", "_law_deep_here", "_law_deeds", "_law_deed", "_law_cells", "_law_cell"]
theorem sc_law_call : FnScope N_law_call ["_law_h", "_law_e", "_law_kind_here", "_law_deep_here"] (defScope s_law_call) := ⟨rfl, rfl, rfl, by decide +kernel, rfl, by decide +kernel, by decide +kernel⟩
abbrev s_law_body : Stmt := top 61
abbrev N_law_body : List Str := ["_law_h", "_law_e", "_law_kind_here", "_law_deep_here", "_law_turn", "_law_other", "_law_arms"]
theorem sc_law_body : FnScope N_law_body ["_law_h", "_law_e", "_law_kind_here", "_law_deep_here"] (defScope s_law_body) := ⟨rfl, rfl, rfl, by decide +kernel, rfl, by decide +kernel, by decide +kernel⟩
abbrev s_law_reckons : Stmt := top 62
abbrev N_law_reckons : List Str := ["_law_h", "_law_e", "_law_kind_here", "_law_deep_here", "_law_word", "_law_more", "_law_other", "_law_one"]
theorem sc_law_reckons : FnScope N_law_reckons ["_law_h", "_law_e", "_law_kind_here", "_law_deep_here"] (defScope s_law_reckons) := ⟨rfl, rfl, rfl, by decide +kernel, rfl, by decide +kernel, by decide +kernel⟩
section
variable {P : Program} {w : World} {K : PySem.W.Frag} {mg : Str → Option Value} {base : Heap}
def Gen (takes : Str) (calls : CT) (cells : ET) (kind : Str) (n : Nat) (b : B) : Prop := b.ok ∧ b.depth ≤ n ∧ b.kind takes calls cells = some kind
def M_gen (ah : Addr) (n m : Nat) : List D → (D → Prop) → Prop := fun ds k => ∃ (takes : Str) (calls : CT) (cells : ET) (kind : Str), ds = [.adr ah, eD takes calls cells, .str kind, .int (n : Int)] ∧ EnvG takes calls cells ∧ kind ∈ kindsS ∧ ∀ b : B, Gen takes calls cells kind m b → k b.toD
theorem m_gen {ah : Addr} {n m : Nat} {takes : Str} {calls : CT} {cells : ET} {kind : Str} {i : Int} {k : D → Prop} (hi : i = (n : Int)) (hg : EnvG takes calls cells) (hk : kind ∈ kindsS) (h : ∀ b : B, Gen takes calls cells kind m b → k b.toD) : M_gen ah n m [.adr ah, eD takes calls cells, .str kind, .int i] k := by
 subst hi
 exact ⟨takes, calls, cells, kind, rfl, hg, hk, h⟩
theorem m_leaf {ah : Addr} {takes : Str} {calls : CT} {cells : ET} {kind : Str} {k : D → Prop} (hg : EnvG takes calls cells) (hk : kind ∈ kindsS) (h : ∀ b : B, Gen takes calls cells kind 1 b → k b.toD) : M_leaf ah [.adr ah, eD takes calls cells, .str kind] k :=
 ⟨takes, calls, cells, kind, rfl, hg, hk, fun b h1 h2 h3 => h b ⟨h1, Nat.le_of_eq h2, h3⟩⟩
theorem g1 {takes : Str} {calls : CT} {cells : ET} {v k k' : Str} {n : Nat} {b : B} (hv : v ∈ w1S) (hb : Gen takes calls cells k n b) (e : byArms v [k] = some k') : Gen takes calls cells k' (n + 1) (.op1 v b) :=
 ⟨⟨hv, hb.1⟩, by simp only [B.depth]; have := hb.2.1; omega, by simp only [B.kind, hb.2.2]; exact e⟩
theorem g2 {takes : Str} {calls : CT} {cells : ET} {v k l k' : Str} {n : Nat} {b c : B} (hv : v ∈ w2S) (hb : Gen takes calls cells k n b) (hc : Gen takes calls cells l n c) (e : byArms v [k, l] = some k') : Gen takes calls cells k' (n + 1) (.op2 v b c) :=
 ⟨⟨hv, hb.1, hc.1⟩, by simp only [B.depth]; have := hb.2.1; have := hc.2.1; omega, by simp only [B.kind, hb.2.2, hc.2.2]; exact e⟩
theorem g3 {takes : Str} {calls : CT} {cells : ET} {k : Str} {n : Nat} {a b c : B} (ha : Gen takes calls cells "truth" n a) (hb : Gen takes calls cells k n b) (hc : Gen takes calls cells k n c) : Gen takes calls cells k (n + 1) (.ite a b c) :=
 ⟨⟨ha.1, hb.1, hc.1⟩, by simp only [B.depth]; have := ha.2.1; have := hb.2.1; have := hc.2.1; omega, by
  simp only [B.kind, ha.2.2, hb.2.2, hc.2.2]
  show (if some _ = some _ ∧ some k = some k then some k else none) = some k
  rw [if_pos ⟨rfl, rfl⟩]⟩
theorem gThen {takes : Str} {calls : CT} {cells : ET} {k l : Str} {n : Nat} {b c : B} (hb : Gen takes calls cells k n b) (hc : Gen takes calls cells l n c) : Gen takes calls cells l (n + 1) (.op2 "then" b c) := g2 (by decide) hb hc rfl
theorem gSame {takes : Str} {calls : CT} {cells : ET} {k : Str} {n : Nat} {b c : B} (hb : Gen takes calls cells k n b) (hc : Gen takes calls cells k n c) : Gen takes calls cells "truth" (n + 1) (.op2 "same" b c) := g2 (by decide) hb hc (by
 show (if some k = some k then some ("truth" : Str) else none) = _
 rw [if_pos rfl])
theorem Gen.up {takes : Str} {calls : CT} {cells : ET} {k : Str} {n m : Nat} {b : B} (h : Gen takes calls cells k n b) (l : n ≤ m) : Gen takes calls cells k m b := ⟨h.1, Nat.le_trans h.2.1 l, h.2.2⟩
theorem r_pick {hs : Option (Addr × Addr)} {ds : List D} {r : Int} {k : D → Prop} (h0 : 0 ≤ r) (h1 : r < (ds.length : Int)) (q : ∀ d ∈ ds, k d) : dR K hs (rIx K) (.lst ds) (.int r) k := by
 have hq : r.toNat < ds.length := by omega
 exact r_ix (.inl (r_ixL (d := ds[r.toNat]) (atI_get (j := r.toNat) (by omega) (List.getElem?_eq_getElem hq)) (q _ (List.getElem_mem hq))))
theorem d_dget2s {hs : Option (Addr × Addr)} {ρ : List Sl} {k : D → Prop} {ta tb tc : TE} (h : dE K hs ta ρ fun x => ∃ ks, x = .dct ks ∧ dE K hs tb ρ fun y => dE K hs tc ρ fun x' => ∃ s d, y = .str s ∧ (lookD ks s).getD x' = d ∧ k d) : dE K hs (tDGet2 ta tb tc) ρ k :=
 d_dget2 fun H0 σ G H Q f R z => h H0 σ G H Q f R fun v G' H' x s r ⟨c, e, q⟩ => z v G' H' x s r ⟨_, e, fun H0 σ G H Q f R z => q H0 σ G H Q f R fun v G' H' y s r q => z v G' H' y s r fun H0 σ G H Q f R z => q H0 σ G H Q f R fun v G' H' x' s r ⟨t, d, e, e2, q⟩ => z v G' H' x' s r ⟨t, e, by rw [e2]; exact q⟩⟩
theorem dP_cons {hs : Option (Addr × Addr)} {ρ : List Sl} {tk tv : TE} {r : List (TE × TE)} {kp : List (Str × D) → Prop} (h : dE K hs tk ρ fun x => ∃ s, x = .str s ∧ dE K hs tv ρ fun y => dP K hs r ρ fun ps => kp ((s, y) :: ps)) : dP K hs ((tk, tv) :: r) ρ kp := h
theorem dP_nil {hs : Option (Addr × Addr)} {ρ : List Sl} {kp : List (Str × D) → Prop} (h : kp []) : dP K hs [] ρ kp := h
def M_no : List D → (D → Prop) → Prop := fun _ _ => False
theorem calNo {x : Str} {st : Stmt} {N ps : List Str} {hs : Option (Addr × Addr)} (F : DefT K mg x st) (S : FnScope N ps (defScope st))
  (hb : ∀ (kV doc pm : Value) (an : Option Addr) (cdv ct : Value) (us : List Value), us.length = ps.length → bindArgs (PySem.W.fnOf x x (defArgs st) (defBody st) (defScope st) .none kV doc pm an cdv ct) ⟨us, []⟩ = pure (ps.zip us)) : Cal P w K mg base 1 x ps hs M_no :=
 okF F S hb (fun _ _ h => h.elim) fun _ _ _ _ _ _ _ _ _ _ h => h.elim
theorem ok_reck {ah as : Addr} (F : DefT K mg "_law_reckons" s_law_reckons) (n j : Nat) (hj : 1 ≤ j) (C_law_next : Cal P w K mg base 1 "_law_next" ["_law_h", "_law_many_here"] (some (ah, as)) (M_next ah))
  (C_law_body : Cal P w K mg base j "_law_body" ["_law_h", "_law_e", "_law_kind_here", "_law_deep_here"] (some (ah, as)) (M_gen ah n (n + 1))) : Cal P w K mg base (j + 1) "_law_reckons" ["_law_h", "_law_e", "_law_kind_here", "_law_deep_here"] (some (ah, as)) (M_gen ah n (n + 2)) := by
 refine okF F sc_law_reckons (fun _ _ _ _ _ _ us hl => match us, hl with | [_, _, _, _], _ => rfl) (fun ds k h => ?_) (fun f cdv A outer s H E ds kk hr h => ?_)
 ·obtain ⟨_, _, _, _, rfl, _⟩ := h
  rfl
 obtain ⟨takes, calls, cells, kind, rfl, hg, hk, q⟩ := h
 have hu := hu_of hr
 refine ⟨_, (pss_cons (ps_if (pt_cmpR op_eq (pv 2) pe_str (nomark _)) (pss_cons (ps_set (i := 4) sc_law_reckons.nd rfl (by first | exact Or.inl rfl | exact Or.inr rfl) (pe_ix (r := rIx K) ix_seq (pe_lst (pa_cons pe_str (pa_cons pe_str pa_nil))) (pe_calK (K := K) rfl C_law_next (hr.mono (by first | decide | omega)) rfl (pa_cons (pv 0) (pa_cons pe_int pa_nil))) (fun _ _ => rfl)))
   (pss_cons (ps_set (i := 5) sc_law_reckons.nd rfl (by first | exact Or.inl rfl | exact Or.inr rfl) (pe_calK (K := K) rfl C_law_body (hr.mono (by first | decide | omega)) rfl (pa_cons (pv 0) (pa_cons (pv 1) (pa_cons pe_str (pa_cons (pv 3) pa_nil))))))
   (pss_one (ps_ret (pe_ifExp (pt_cmpR op_eq (pv 4) pe_str (nomark _)) (pe_tup (pa_cons (pv 4) (pa_cons (pe_calK (K := K) rfl C_law_body (hr.mono (by first | decide | omega)) rfl (pa_cons (pv 0) (pa_cons (pv 1) (pa_cons pe_str (pa_cons (pv 3) pa_nil))))) (pa_cons (pv 5) pa_nil)))) (pe_tup (pa_cons (pv 4) (pa_cons (pv 5) pa_nil)))))))) pss_nil)
   (pss_cons (ps_if (pt_cmpR op_eq (pv 2) pe_str (nomark _)) (pss_cons (ps_set (i := 4) sc_law_reckons.nd rfl (by first | exact Or.inl rfl | exact Or.inr rfl) (pe_ix (r := rIx K) ix_seq (pe_lst (pa_cons pe_str (pa_cons pe_str (pa_cons pe_str (pa_cons pe_str pa_nil))))) (pe_calK (K := K) rfl C_law_next (hr.mono (by first | decide | omega)) rfl (pa_cons (pv 0) (pa_cons pe_int pa_nil))) (fun _ _ => rfl)))
   (pss_cons (ps_set (i := 6) sc_law_reckons.nd rfl (by first | exact Or.inl rfl | exact Or.inr rfl) (pe_dget2 hu (pe_frz (pe_disp (pps_cons pe_str pe_str (pps_cons pe_str pe_str (pps_cons pe_str pe_str pps_nil))) (by rfl) (by rfl) (fun z => by cases z) (by decide))) (pv 4) pe_str ⟨rfl, rfl, rfl, rfl⟩))
   (pss_cons (ps_if (pt_cmpR op_eq (pv 6) pe_str (nomark _)) (pss_one (ps_set (i := 6) sc_law_reckons.nd rfl (by first | exact Or.inl rfl | exact Or.inr rfl) (pe_ix (r := rIx K) ix_seq (pe_lst (pa_cons pe_str (pa_cons pe_str (pa_cons pe_str pa_nil)))) (pe_calK (K := K) rfl C_law_next (hr.mono (by first | decide | omega)) rfl (pa_cons (pv 0) (pa_cons pe_int pa_nil))) (fun _ _ => rfl)))) pss_nil)
   (pss_cons (ps_set (i := 7) sc_law_reckons.nd rfl (by first | exact Or.inl rfl | exact Or.inr rfl) (pe_calK (K := K) rfl C_law_body (hr.mono (by first | decide | omega)) rfl (pa_cons (pv 0) (pa_cons (pv 1) (pa_cons (pv 6) (pa_cons (pv 3) pa_nil))))))
   (pss_one (ps_ret (pe_ifExp (pt_cmpR op_eq (pv 4) pe_str (nomark _)) (pe_tup (pa_cons (pv 4) (pa_cons (pv 7) pa_nil))) (pe_tup (pa_cons (pv 4) (pa_cons (pv 7) (pa_cons (pe_calK (K := K) rfl C_law_body (hr.mono (by first | decide | omega)) rfl (pa_cons (pv 0) (pa_cons (pv 1) (pa_cons (pv 6) (pa_cons (pv 3) pa_nil))))) pa_nil))))))))))) pss_nil)
   (pss_cons (ps_set (i := 4) sc_law_reckons.nd rfl (by first | exact Or.inl rfl | exact Or.inr rfl) (pe_ix (r := rIx K) ix_seq (pe_lst (pa_cons pe_str (pa_cons pe_str (pa_cons pe_str (pa_cons pe_str (pa_cons pe_str pa_nil)))))) (pe_calK (K := K) rfl C_law_next (hr.mono (by first | decide | omega)) rfl (pa_cons (pv 0) (pa_cons pe_int pa_nil))) (fun _ _ => rfl)))
   (pss_cons (ps_if (pt_cmpR (r := rIn K false) op_in_seq (pv 4) (pe_tup (pa_cons pe_str (pa_cons pe_str pa_nil))) rfl) (pss_one (ps_ret (pe_tup (pa_cons (pv 4) (pa_cons (pe_calK (K := K) rfl C_law_body (hr.mono (by first | decide | omega)) rfl (pa_cons (pv 0) (pa_cons (pv 1) (pa_cons pe_str (pa_cons (pv 3) pa_nil))))) pa_nil))))) pss_nil)
   (pss_one (ps_ret (pe_tup (pa_cons (pv 4) (pa_cons (pe_calK (K := K) rfl C_law_body (hr.mono (by first | decide | omega)) rfl (pa_cons (pv 0) (pa_cons (pv 1) (pa_cons pe_str (pa_cons (pv 3) pa_nil))))) (pa_cons (pe_calK (K := K) rfl C_law_body (hr.mono (by first | decide | omega)) rfl (pa_cons (pv 0) (pa_cons (pv 1) (pa_cons pe_str (pa_cons (pv 3) pa_nil))))) pa_nil)))))))))), ?_⟩
 try dsimp only [cxOf]
 change dS _ _ _ [Sl.d _, Sl.d _, Sl.d _, Sl.d _, Sl.un, Sl.un, Sl.un, Sl.un] _
 have nk : ("number" : Str) ∈ kindsS := by decide
 have tk : ("truth" : Str) ∈ kindsS := by decide
 have lk : ("list" : Str) ∈ kindsS := by decide
 have kk3 : kind = "number" ∨ kind = "truth" ∨ kind = "list" := by
  simpa only [kindsS, List.mem_cons, List.not_mem_nil, or_false] using hk
 rcases kk3 with rfl | rfl | rfl
 ·refine s_seq (s_if (d_test (d_op (d_var rfl ?_))))
  refine d_c rfl ?_
  refine r_eqS ⟨_, rfl, (br_f (by with_unfolding_all rfl) ?_)⟩
  refine s_next (s_seq (s_if (d_test (d_op (d_var rfl ?_)))))
  refine d_c rfl ?_
  refine r_eqS ⟨_, rfl, (br_f (by with_unfolding_all rfl) ?_)⟩
  refine s_next (s_seq (s_set (d_op (d_lst (d_cons (d_c rfl ?_))))))
  refine d_cons (d_c rfl ?_)
  refine d_cons (d_c rfl ?_)
  refine d_cons (d_c rfl ?_)
  refine d_cons (d_c rfl ?_)
  refine d_nil (And.intro (show List.length _ ≤ 100000 by simp) ?_)
  refine d_next (by with_unfolding_all rfl) (by decide) (by decide) (fun r r0 r1 => ?_)
  dsimp only
  rotate_left
  refine r_pick (by assumption) (by assumption) fun d hd => ?_
  simp only [List.mem_cons, List.not_mem_nil, or_false] at hd
  rcases hd with rfl | rfl | rfl | rfl | rfl
  refine s_seq (s_if (d_test (d_op (d_var rfl ?_))))
  refine d_tup (d_cons (d_c rfl ?_))
  refine d_cons (d_c rfl ?_)
  refine d_nil (And.intro (show List.length _ ≤ 100000 by simp) ?_)
  refine r_in0 (ss := ["first", "many"]) ⟨_, rfl, (br_f (by with_unfolding_all rfl) ?_)⟩
  refine s_next (s_ret (d_tup (d_cons (d_var rfl ?_))))
  refine d_cons (d_call (d_cons (d_var rfl ?_)))
  refine d_cons (d_var rfl ?_)
  refine d_cons (d_c rfl ?_)
  refine d_cons (d_var rfl ?_)
  refine d_nil ?_
  (with_reducible refine m_gen rfl hg (by assumption) (fun b hb => ?_))
  refine d_cons (d_call (d_cons (d_var rfl ?_)))
  refine d_cons (d_var rfl ?_)
  refine d_cons (d_c rfl ?_)
  refine d_cons (d_var rfl ?_)
  refine d_nil ?_
  (with_reducible refine m_gen rfl hg (by assumption) (fun b hb => ?_))
  refine d_nil (And.intro (show List.length _ ≤ 100000 by simp) ?_)
  dsimp only
  rotate_left
  refine s_seq (s_if (d_test (d_op (d_var rfl ?_))))
  refine d_tup (d_cons (d_c rfl ?_))
  refine d_cons (d_c rfl ?_)
  refine d_nil (And.intro (show List.length _ ≤ 100000 by simp) ?_)
  refine r_in0 (ss := ["first", "many"]) ⟨_, rfl, (br_f (by with_unfolding_all rfl) ?_)⟩
  refine s_next (s_ret (d_tup (d_cons (d_var rfl ?_))))
  refine d_cons (d_call (d_cons (d_var rfl ?_)))
  refine d_cons (d_var rfl ?_)
  refine d_cons (d_c rfl ?_)
  refine d_cons (d_var rfl ?_)
  refine d_nil ?_
  (with_reducible refine m_gen rfl hg (by assumption) (fun b hb => ?_))
  refine d_cons (d_call (d_cons (d_var rfl ?_)))
  refine d_cons (d_var rfl ?_)
  refine d_cons (d_c rfl ?_)
  refine d_cons (d_var rfl ?_)
  refine d_nil ?_
  (with_reducible refine m_gen rfl hg (by assumption) (fun b hb => ?_))
  refine d_nil (And.intro (show List.length _ ≤ 100000 by simp) ?_)
  dsimp only
  rotate_left
  refine s_seq (s_if (d_test (d_op (d_var rfl ?_))))
  refine d_tup (d_cons (d_c rfl ?_))
  refine d_cons (d_c rfl ?_)
  refine d_nil (And.intro (show List.length _ ≤ 100000 by simp) ?_)
  refine r_in0 (ss := ["first", "many"]) ⟨_, rfl, (br_f (by with_unfolding_all rfl) ?_)⟩
  refine s_next (s_ret (d_tup (d_cons (d_var rfl ?_))))
  refine d_cons (d_call (d_cons (d_var rfl ?_)))
  refine d_cons (d_var rfl ?_)
  refine d_cons (d_c rfl ?_)
  refine d_cons (d_var rfl ?_)
  refine d_nil ?_
  (with_reducible refine m_gen rfl hg (by assumption) (fun b hb => ?_))
  refine d_cons (d_call (d_cons (d_var rfl ?_)))
  refine d_cons (d_var rfl ?_)
  refine d_cons (d_c rfl ?_)
  refine d_cons (d_var rfl ?_)
  refine d_nil ?_
  (with_reducible refine m_gen rfl hg (by assumption) (fun b hb => ?_))
  refine d_nil (And.intro (show List.length _ ≤ 100000 by simp) ?_)
  dsimp only
  rotate_left
  refine s_seq (s_if (d_test (d_op (d_var rfl ?_))))
  refine d_tup (d_cons (d_c rfl ?_))
  refine d_cons (d_c rfl ?_)
  refine d_nil (And.intro (show List.length _ ≤ 100000 by simp) ?_)
  refine r_in0 (ss := ["first", "many"]) ⟨_, rfl, (br_t (by with_unfolding_all rfl) ?_)⟩
  refine s_ret (d_tup (d_cons (d_var rfl ?_)))
  refine d_cons (d_call (d_cons (d_var rfl ?_)))
  refine d_cons (d_var rfl ?_)
  refine d_cons (d_c rfl ?_)
  refine d_cons (d_var rfl ?_)
  refine d_nil ?_
  (with_reducible refine m_gen rfl hg (by assumption) (fun b hb => ?_))
  refine d_nil (And.intro (show List.length _ ≤ 100000 by simp) ?_)
  dsimp only
  rotate_left
  refine s_seq (s_if (d_test (d_op (d_var rfl ?_))))
  refine d_tup (d_cons (d_c rfl ?_))
  refine d_cons (d_c rfl ?_)
  refine d_nil (And.intro (show List.length _ ≤ 100000 by simp) ?_)
  refine r_in0 (ss := ["first", "many"]) ⟨_, rfl, (br_t (by with_unfolding_all rfl) ?_)⟩
  refine s_ret (d_tup (d_cons (d_var rfl ?_)))
  refine d_cons (d_call (d_cons (d_var rfl ?_)))
  refine d_cons (d_var rfl ?_)
  refine d_cons (d_c rfl ?_)
  refine d_cons (d_var rfl ?_)
  refine d_nil ?_
  (with_reducible refine m_gen rfl hg (by assumption) (fun b hb => ?_))
  refine d_nil (And.intro (show List.length _ ≤ 100000 by simp) ?_)
  dsimp only
  rotate_left
  all_goals (first | exact q (.op1 _ b) (g1 (by decide) hb (by decide +kernel)) | (rename_i b0 hb0; exact q (.op2 _ b0 b) (g2 (by decide) hb0 hb (by decide +kernel))) | (rename_i b0 hb0; exact q (.op2 _ b b0) (g2 (by decide) hb hb0 (by decide +kernel))))
 ·refine s_seq (s_if (d_test (d_op (d_var rfl ?_))))
  refine d_c rfl ?_
  refine r_eqS ⟨_, rfl, (br_f (by with_unfolding_all rfl) ?_)⟩
  refine s_next (s_seq (s_if (d_test (d_op (d_var rfl ?_)))))
  refine d_c rfl ?_
  refine r_eqS ⟨_, rfl, (br_t (by with_unfolding_all rfl) ?_)⟩
  refine s_seq (s_set (d_op (d_lst (d_cons (d_c rfl ?_)))))
  refine d_cons (d_c rfl ?_)
  refine d_cons (d_c rfl ?_)
  refine d_cons (d_c rfl ?_)
  refine d_nil (And.intro (show List.length _ ≤ 100000 by simp) ?_)
  refine d_next (by with_unfolding_all rfl) (by decide) (by decide) (fun r r0 r1 => ?_)
  dsimp only
  rotate_left
  refine r_pick (by assumption) (by assumption) fun d hd => ?_
  simp only [List.mem_cons, List.not_mem_nil, or_false] at hd
  rcases hd with rfl | rfl | rfl | rfl
  ·refine s_seq (s_set (d_dget2s (d_disp (dP_cons (d_c rfl ?_)))))
   refine ⟨_, rfl, (d_c rfl ?_)⟩
   refine dP_cons (d_c rfl ?_)
   refine ⟨_, rfl, (d_c rfl ?_)⟩
   refine dP_cons (d_c rfl ?_)
   refine ⟨_, rfl, (d_c rfl ?_)⟩
   refine dP_nil (And.intro (show List.length _ ≤ 15 by simp) ?_)
   refine ⟨_, rfl, (d_var rfl ?_)⟩
   refine d_c rfl ?_
   refine ⟨_, D.str "number", rfl, rfl, (s_seq (s_if (d_test (d_op (d_var rfl ?_)))))⟩
   refine d_c rfl ?_
   refine r_eqS ⟨_, rfl, (br_f (by with_unfolding_all rfl) ?_)⟩
   refine s_next (s_seq (s_set (d_call (d_cons (d_var rfl ?_)))))
   refine d_cons (d_var rfl ?_)
   refine d_cons (d_var rfl ?_)
   refine d_cons (d_var rfl ?_)
   refine d_nil ?_
   (with_reducible refine m_gen rfl hg (by assumption) (fun b hb => ?_))
   refine s_ret (d_ifE (d_test (d_op (d_var rfl ?_))))
   refine d_c rfl ?_
   refine r_eqS ⟨_, rfl, (br_f (by with_unfolding_all rfl) ?_)⟩
   refine d_tup (d_cons (d_var rfl ?_))
   refine d_cons (d_var rfl ?_)
   refine d_cons (d_call (d_cons (d_var rfl ?_)))
   refine d_cons (d_var rfl ?_)
   refine d_cons (d_var rfl ?_)
   refine d_cons (d_var rfl ?_)
   refine d_nil ?_
   (with_reducible refine m_gen rfl hg (by assumption) (fun b hb => ?_))
   refine d_nil (And.intro (show List.length _ ≤ 100000 by simp) ?_)
   dsimp only
   rotate_left
   rename_i b0 hb0
   exact q (.op2 _ b0 b) (g2 (by decide) hb0 hb (by decide +kernel))
  ·refine s_seq (s_set (d_dget2s (d_disp (dP_cons (d_c rfl ?_)))))
   refine ⟨_, rfl, (d_c rfl ?_)⟩
   refine dP_cons (d_c rfl ?_)
   refine ⟨_, rfl, (d_c rfl ?_)⟩
   refine dP_cons (d_c rfl ?_)
   refine ⟨_, rfl, (d_c rfl ?_)⟩
   refine dP_nil (And.intro (show List.length _ ≤ 15 by simp) ?_)
   refine ⟨_, rfl, (d_var rfl ?_)⟩
   refine d_c rfl ?_
   refine ⟨_, D.str "", rfl, rfl, (s_seq (s_if (d_test (d_op (d_var rfl ?_)))))⟩
   refine d_c rfl ?_
   refine r_eqS ⟨_, rfl, (br_t (by with_unfolding_all rfl) ?_)⟩
   refine s_set (d_op (d_lst (d_cons (d_c rfl ?_))))
   refine d_cons (d_c rfl ?_)
   refine d_cons (d_c rfl ?_)
   refine d_nil (And.intro (show List.length _ ≤ 100000 by simp) ?_)
   refine d_next (by with_unfolding_all rfl) (by decide) (by decide) (fun r r0 r1 => ?_)
   dsimp only
   rotate_left
   refine r_pick (by assumption) (by assumption) fun d hd => ?_
   simp only [List.mem_cons, List.not_mem_nil, or_false] at hd
   rcases hd with rfl | rfl | rfl
   refine s_seq (s_set (d_call (d_cons (d_var rfl ?_))))
   refine d_cons (d_var rfl ?_)
   refine d_cons (d_var rfl ?_)
   refine d_cons (d_var rfl ?_)
   refine d_nil ?_
   (with_reducible refine m_gen rfl hg (by assumption) (fun b hb => ?_))
   refine s_ret (d_ifE (d_test (d_op (d_var rfl ?_))))
   refine d_c rfl ?_
   refine r_eqS ⟨_, rfl, (br_f (by with_unfolding_all rfl) ?_)⟩
   refine d_tup (d_cons (d_var rfl ?_))
   refine d_cons (d_var rfl ?_)
   refine d_cons (d_call (d_cons (d_var rfl ?_)))
   refine d_cons (d_var rfl ?_)
   refine d_cons (d_var rfl ?_)
   refine d_cons (d_var rfl ?_)
   refine d_nil ?_
   (with_reducible refine m_gen rfl hg (by assumption) (fun b hb => ?_))
   refine d_nil (And.intro (show List.length _ ≤ 100000 by simp) ?_)
   dsimp only
   rotate_left
   refine s_seq (s_set (d_call (d_cons (d_var rfl ?_))))
   refine d_cons (d_var rfl ?_)
   refine d_cons (d_var rfl ?_)
   refine d_cons (d_var rfl ?_)
   refine d_nil ?_
   (with_reducible refine m_gen rfl hg (by assumption) (fun b hb => ?_))
   refine s_ret (d_ifE (d_test (d_op (d_var rfl ?_))))
   refine d_c rfl ?_
   refine r_eqS ⟨_, rfl, (br_f (by with_unfolding_all rfl) ?_)⟩
   refine d_tup (d_cons (d_var rfl ?_))
   refine d_cons (d_var rfl ?_)
   refine d_cons (d_call (d_cons (d_var rfl ?_)))
   refine d_cons (d_var rfl ?_)
   refine d_cons (d_var rfl ?_)
   refine d_cons (d_var rfl ?_)
   refine d_nil ?_
   (with_reducible refine m_gen rfl hg (by assumption) (fun b hb => ?_))
   refine d_nil (And.intro (show List.length _ ≤ 100000 by simp) ?_)
   dsimp only
   rotate_left
   refine s_seq (s_set (d_call (d_cons (d_var rfl ?_))))
   refine d_cons (d_var rfl ?_)
   refine d_cons (d_var rfl ?_)
   refine d_cons (d_var rfl ?_)
   refine d_nil ?_
   (with_reducible refine m_gen rfl hg (by assumption) (fun b hb => ?_))
   refine s_ret (d_ifE (d_test (d_op (d_var rfl ?_))))
   refine d_c rfl ?_
   refine r_eqS ⟨_, rfl, (br_f (by with_unfolding_all rfl) ?_)⟩
   refine d_tup (d_cons (d_var rfl ?_))
   refine d_cons (d_var rfl ?_)
   refine d_cons (d_call (d_cons (d_var rfl ?_)))
   refine d_cons (d_var rfl ?_)
   refine d_cons (d_var rfl ?_)
   refine d_cons (d_var rfl ?_)
   refine d_nil ?_
   (with_reducible refine m_gen rfl hg (by assumption) (fun b hb => ?_))
   refine d_nil (And.intro (show List.length _ ≤ 100000 by simp) ?_)
   dsimp only
   rotate_left
   all_goals (rename_i b0 hb0; exact q (.op2 _ b0 b) (gSame hb0 hb))
  ·refine s_seq (s_set (d_dget2s (d_disp (dP_cons (d_c rfl ?_)))))
   refine ⟨_, rfl, (d_c rfl ?_)⟩
   refine dP_cons (d_c rfl ?_)
   refine ⟨_, rfl, (d_c rfl ?_)⟩
   refine dP_cons (d_c rfl ?_)
   refine ⟨_, rfl, (d_c rfl ?_)⟩
   refine dP_nil (And.intro (show List.length _ ≤ 15 by simp) ?_)
   refine ⟨_, rfl, (d_var rfl ?_)⟩
   refine d_c rfl ?_
   refine ⟨_, D.str "truth", rfl, rfl, (s_seq (s_if (d_test (d_op (d_var rfl ?_)))))⟩
   refine d_c rfl ?_
   refine r_eqS ⟨_, rfl, (br_f (by with_unfolding_all rfl) ?_)⟩
   refine s_next (s_seq (s_set (d_call (d_cons (d_var rfl ?_)))))
   refine d_cons (d_var rfl ?_)
   refine d_cons (d_var rfl ?_)
   refine d_cons (d_var rfl ?_)
   refine d_nil ?_
   (with_reducible refine m_gen rfl hg (by assumption) (fun b hb => ?_))
   refine s_ret (d_ifE (d_test (d_op (d_var rfl ?_))))
   refine d_c rfl ?_
   refine r_eqS ⟨_, rfl, (br_t (by with_unfolding_all rfl) ?_)⟩
   refine d_tup (d_cons (d_var rfl ?_))
   refine d_cons (d_var rfl ?_)
   refine d_nil (And.intro (show List.length _ ≤ 100000 by simp) ?_)
   dsimp only
   rotate_left
   exact q (.op1 _ b) (g1 (by decide) hb (by decide +kernel))
  ·refine s_seq (s_set (d_dget2s (d_disp (dP_cons (d_c rfl ?_)))))
   refine ⟨_, rfl, (d_c rfl ?_)⟩
   refine dP_cons (d_c rfl ?_)
   refine ⟨_, rfl, (d_c rfl ?_)⟩
   refine dP_cons (d_c rfl ?_)
   refine ⟨_, rfl, (d_c rfl ?_)⟩
   refine dP_nil (And.intro (show List.length _ ≤ 15 by simp) ?_)
   refine ⟨_, rfl, (d_var rfl ?_)⟩
   refine d_c rfl ?_
   refine ⟨_, D.str "truth", rfl, rfl, (s_seq (s_if (d_test (d_op (d_var rfl ?_)))))⟩
   refine d_c rfl ?_
   refine r_eqS ⟨_, rfl, (br_f (by with_unfolding_all rfl) ?_)⟩
   refine s_next (s_seq (s_set (d_call (d_cons (d_var rfl ?_)))))
   refine d_cons (d_var rfl ?_)
   refine d_cons (d_var rfl ?_)
   refine d_cons (d_var rfl ?_)
   refine d_nil ?_
   (with_reducible refine m_gen rfl hg (by assumption) (fun b hb => ?_))
   refine s_ret (d_ifE (d_test (d_op (d_var rfl ?_))))
   refine d_c rfl ?_
   refine r_eqS ⟨_, rfl, (br_f (by with_unfolding_all rfl) ?_)⟩
   refine d_tup (d_cons (d_var rfl ?_))
   refine d_cons (d_var rfl ?_)
   refine d_cons (d_call (d_cons (d_var rfl ?_)))
   refine d_cons (d_var rfl ?_)
   refine d_cons (d_var rfl ?_)
   refine d_cons (d_var rfl ?_)
   refine d_nil ?_
   (with_reducible refine m_gen rfl hg (by assumption) (fun b hb => ?_))
   refine d_nil (And.intro (show List.length _ ≤ 100000 by simp) ?_)
   dsimp only
   rotate_left
   rename_i b0 hb0
   exact q (.op2 _ b0 b) (g2 (by decide) hb0 hb (by decide +kernel))
 ·refine s_seq (s_if (d_test (d_op (d_var rfl ?_))))
  refine d_c rfl ?_
  refine r_eqS ⟨_, rfl, (br_t (by with_unfolding_all rfl) ?_)⟩
  refine s_seq (s_set (d_op (d_lst (d_cons (d_c rfl ?_)))))
  refine d_cons (d_c rfl ?_)
  refine d_nil (And.intro (show List.length _ ≤ 100000 by simp) ?_)
  refine d_next (by with_unfolding_all rfl) (by decide) (by decide) (fun r r0 r1 => ?_)
  dsimp only
  rotate_left
  refine r_pick (by assumption) (by assumption) fun d hd => ?_
  simp only [List.mem_cons, List.not_mem_nil, or_false] at hd
  rcases hd with rfl | rfl
  refine s_seq (s_set (d_call (d_cons (d_var rfl ?_))))
  refine d_cons (d_var rfl ?_)
  refine d_cons (d_c rfl ?_)
  refine d_cons (d_var rfl ?_)
  refine d_nil ?_
  (with_reducible refine m_gen rfl hg (by assumption) (fun b hb => ?_))
  refine s_ret (d_ifE (d_test (d_op (d_var rfl ?_))))
  refine d_c rfl ?_
  refine r_eqS ⟨_, rfl, (br_t (by with_unfolding_all rfl) ?_)⟩
  refine d_tup (d_cons (d_var rfl ?_))
  refine d_cons (d_call (d_cons (d_var rfl ?_)))
  refine d_cons (d_var rfl ?_)
  refine d_cons (d_c rfl ?_)
  refine d_cons (d_var rfl ?_)
  refine d_nil ?_
  (with_reducible refine m_gen rfl hg (by assumption) (fun b hb => ?_))
  refine d_cons (d_var rfl ?_)
  refine d_nil (And.intro (show List.length _ ≤ 100000 by simp) ?_)
  dsimp only
  rotate_left
  refine s_seq (s_set (d_call (d_cons (d_var rfl ?_))))
  refine d_cons (d_var rfl ?_)
  refine d_cons (d_c rfl ?_)
  refine d_cons (d_var rfl ?_)
  refine d_nil ?_
  (with_reducible refine m_gen rfl hg (by assumption) (fun b hb => ?_))
  refine s_ret (d_ifE (d_test (d_op (d_var rfl ?_))))
  refine d_c rfl ?_
  refine r_eqS ⟨_, rfl, (br_f (by with_unfolding_all rfl) ?_)⟩
  refine d_tup (d_cons (d_var rfl ?_))
  refine d_cons (d_var rfl ?_)
  refine d_nil (And.intro (show List.length _ ≤ 100000 by simp) ?_)
  dsimp only
  rotate_left
  all_goals (first | exact q (.op1 _ b) (g1 (by decide) hb (by decide +kernel)) | (rename_i b0 hb0; exact q (.op2 _ b0 b) (g2 (by decide) hb0 hb (by decide +kernel))) | (rename_i b0 hb0; exact q (.op2 _ b b0) (g2 (by decide) hb hb0 (by decide +kernel))))
end
end Pr
set_option Elab.async false
set_option linter.all false
set_option maxRecDepth 100000
set_option maxHeartbeats 2000000
namespace Pr
open PySem L2 PD
variable [Tabs]
section
variable {P : Program} {w : World} {K : PySem.W.Frag} {mg : Str → Option Value} {base : Heap}
theorem ok_call {ah as : Addr} (F : DefT K mg "_law_call" s_law_call) (zl : mg "len" = none) (zs : mg "sorted" = none) (n j : Nat) (hj : 2 ≤ j) (C_law_next : Cal P w K mg base 1 "_law_next" ["_law_h", "_law_many_here"] (some (ah, as)) (M_next ah))
  (C_law_leaf : Cal P w K mg base 2 "_law_leaf" ["_law_h", "_law_e", "_law_kind_here"] (some (ah, as)) (M_leaf ah))
  (C_law_body : Cal P w K mg base j "_law_body" ["_law_h", "_law_e", "_law_kind_here", "_law_deep_here"] (some (ah, as)) (M_gen ah n (n + 1))) : Cal P w K mg base (j + 1) "_law_call" ["_law_h", "_law_e", "_law_kind_here", "_law_deep_here"] (some (ah, as)) (M_gen ah (n + 1) (n + 2)) := by
 refine okF F sc_law_call (fun _ _ _ _ _ _ us hl => match us, hl with | [_, _, _, _], _ => rfl) (fun ds k h => ?_) (fun f cdv A outer s H E ds kk hr h => ?_)
 ·obtain ⟨_, _, _, _, rfl, _⟩ := h
  rfl
 obtain ⟨takes, calls, cells, kind, rfl, hg, hk, q⟩ := h
 have hu := hu_of hr
 refine ⟨_, (pss_cons (ps_setLc (i := 4) (own := [("_law_deed", 5)]) (g := gName 5) rfl sc_law_call.nd rfl rfl (sw_true rfl rfl rfl (by decide +kernel)) (pi_list (pe_callB (r := rSortD) (id := "sorted") (call_sortedD rfl) (by rfl) zs (by decide +kernel) (pa_cons (pe_dget hu (pv 1) pe_str (fun _ _ => rfl)) pa_nil))) (blkOk_by (own := [("_law_deed", 5)]) (N := N_law_call) (sc := defScope s_law_call) (by decide +kernel)) (fun _ _ _ _ _ => (pg_name (i := 5) sc_law_call.nd rfl (by first | exact Or.inl rfl | exact Or.inr rfl))) (fun _ _ _ _ _ => (pts_one (pt_cmpR op_eq (pe_ix (r := rIx K) ix_seq (pe_dget hu (pe_dget hu (pv 1) pe_str (fun _ _ => rfl)) (pv 5) (fun _ _ => rfl)) pe_int (fun _ _ => rfl)) (pv 2) (nomark _)))) (fun _ _ _ _ _ => (pv 5)))
   (pss_cons (ps_setLc (i := 6) (own := [("_law_cell", 7)]) (g := gName 7) rfl sc_law_call.nd rfl rfl (sw_true rfl rfl rfl (by decide +kernel)) (pi_list (pe_callB (r := rSortD) (id := "sorted") (call_sortedD rfl) (by rfl) zs (by decide +kernel) (pa_cons (pe_dget hu (pv 1) pe_str (fun _ _ => rfl)) pa_nil))) (blkOk_by (own := [("_law_cell", 7)]) (N := N_law_call) (sc := defScope s_law_call) (by decide +kernel)) (fun _ _ _ _ _ => (pg_name (i := 7) sc_law_call.nd rfl (by first | exact Or.inl rfl | exact Or.inr rfl))) (fun _ _ _ _ _ => (pts_one (pt_cmpR op_eq (pe_dget hu (pe_dget hu (pv 1) pe_str (fun _ _ => rfl)) (pv 7) (fun _ _ => rfl)) (pv 2) (nomark _)))) (fun _ _ _ _ _ => (pv 7)))
   (pss_cons (ps_if (PW.pt (pw_and (pt_cmpR (r := rNeD K) (op_neD hr.units) (pv 4) (pe_lst pa_nil) (nomark _)) (pw_and1 (pt_cmpR op_gt (pe_calK (K := K) rfl C_law_next (hr.mono (by first | decide | omega)) rfl (pa_cons (pv 0) (pa_cons pe_int pa_nil))) pe_int (nomark _))))) (pss_cons (ps_set (i := 5) sc_law_call.nd rfl (by first | exact Or.inl rfl | exact Or.inr rfl) (pe_ix (r := rIx K) ix_seq (pv 4) (pe_calK (K := K) rfl C_law_next (hr.mono (by first | decide | omega)) rfl (pa_cons (pv 0) (pa_cons (pe_callB (r := rLenQ K) (id := "len")  call_len_seq (by rfl) zl PySem.boot_len (pa_cons (pv 4) pa_nil)) pa_nil))) (fun _ _ => rfl)))
   (pss_one (ps_ret (pe_tup (pa_cons pe_str (pa_cons (pv 5) (pa_cons (pe_calK (K := K) rfl C_law_body (hr.mono (by first | decide | omega)) rfl (pa_cons (pv 0) (pa_cons (pv 1) (pa_cons (pe_ix (r := rIx K) ix_seq (pe_dget hu (pe_dget hu (pv 1) pe_str (fun _ _ => rfl)) (pv 5) (fun _ _ => rfl)) pe_int (fun _ _ => rfl)) (pa_cons (pe_op op_sub (pv 3) pe_int) pa_nil))))) pa_nil))))))) pss_nil)
   (pss_cons (ps_if (pt_cmpR (r := rNeD K) (op_neD hr.units) (pv 6) (pe_lst pa_nil) (nomark _)) (pss_one (ps_ret (pe_tup (pa_cons pe_str (pa_cons (pe_ix (r := rIx K) ix_seq (pv 6) (pe_calK (K := K) rfl C_law_next (hr.mono (by first | decide | omega)) rfl (pa_cons (pv 0) (pa_cons (pe_callB (r := rLenQ K) (id := "len")  call_len_seq (by rfl) zl PySem.boot_len (pa_cons (pv 6) pa_nil)) pa_nil))) (fun _ _ => rfl)) (pa_cons (pe_calK (K := K) rfl C_law_body (hr.mono (by first | decide | omega)) rfl (pa_cons (pv 0) (pa_cons (pv 1) (pa_cons (pv 2) (pa_cons (pe_op op_sub (pv 3) pe_int) pa_nil))))) pa_nil)))))) pss_nil)
   (pss_one (ps_ret (pe_calK (K := K) rfl C_law_leaf (hr.mono (by first | decide | omega)) rfl (pa_cons (pv 0) (pa_cons (pv 1) (pa_cons (pv 2) pa_nil)))))))))), ?_⟩
 try dsimp only [cxOf]
 change dS _ _ _ [Sl.d _, Sl.d _, Sl.d _, Sl.d _, Sl.un, Sl.un, Sl.un, Sl.un] _
 have dep : ((n + 1 : Nat) : Int) - 1 = (n : Int) := by omega
 have pd : ∀ c ∈ calls.map (·.1), ∃ t u, lookS calls c = some (t, u) ∧ t ∈ kindsS := fun c hc => by
  obtain ⟨p, hp, rfl⟩ := List.mem_map.mp hc
  exact ⟨p.2.1, p.2.2, look_in hg.cnd hp, (hg.c p hp).1⟩
 let pc : D → Bool := fun d => match d with
  | .str c => (match lookS calls c with | some (_, u) => decide (u = kind) | none => false)
  | _ => false
 let pe : D → Bool := fun d => match d with
  | .str c => decide (lookS cells c = some kind)
  | _ => false
 refine s_seq (s_setL (i_list (d_ofL (l_sortedD (d_dget (d_var rfl (d_c rfl ⟨_, _, _, rfl, rfl, rfl, _, rfl, (by rw [List.length_map]; have := hg.clen; omega), fun ys y1 y2 => ⟨_, rfl, ?_, ?_⟩⟩)))))))
 ·unfold strsOf
  rw [List.length_map, y1.length_eq, List.length_map, List.length_map]
  have := hg.clen
  omega
 have ym : ∀ c ∈ ys, c ∈ calls.map (·.1) := fun c hc => by
  have := y1.mem_iff.mp hc
  rw [List.map_map] at this
  exact this
 refine lcW_fun (P := fun d => ∃ c t u, d = .str c ∧ lookS calls c = some (t, u)) (p := pc) (f := fun d => d) (fun d hd kx hx => g_nameV (by decide) (hx _ (fun kb qb => ?_) (fun _ k qk => d_var rfl qk))) (strsOf ys) [] ?_ ?_
 ·obtain ⟨c, t, u, rfl, lk⟩ := hd
  have e : pc (.str c) = decide (u = kind) := by simp only [pc, lk]
  rw [e] at qb
  refine d_test (d_op (d_op ?_))
  refine d_dget (d_dget (d_var rfl (d_c rfl ⟨_, _, _, rfl, rfl, rfl, ?_⟩)))
  refine d_var rfl ⟨_, _, .tup [.str t, .str u], rfl, rfl, (by rw [look_map (fun p : Str × Str => D.tup [.str p.1, .str p.2]), lk]; rfl), ?_⟩
  exact d_c rfl (r_ix (.inr (r_ixT rfl (d_var rfl (r_eqS ⟨_, rfl, qb⟩)))))
 ·intro d hd
  obtain ⟨c, hc, rfl⟩ := List.mem_map.mp hd
  obtain ⟨t, u, lk, _⟩ := pd c (ym c hc)
  exact ⟨c, t, u, rfl, lk⟩
 rw [List.nil_append, filter_strs]
 have dl : ∀ c ∈ ys.filter (fun s => pc (.str s)), c ∈ deedsS ∧ ∃ t, lookS calls c = some (t, kind) ∧ t ∈ kindsS := fun c hc => by
  obtain ⟨h1, h2⟩ := List.mem_filter.mp hc
  obtain ⟨t, u, lk, ht⟩ := pd c (ym c h1)
  simp only [pc, lk, decide_eq_true_eq] at h2
  subst h2
  obtain ⟨p, hp, e⟩ := List.mem_map.mp (ym c h1)
  exact ⟨by rw [← e]; exact hg.cn p hp, t, lk, ht⟩
 have dlen : (ys.filter (fun s => pc (.str s))).length ≤ 8 := by
  have h1 := List.length_filter_le (fun s => pc (.str s)) ys
  have h2 := y1.length_eq
  rw [List.length_map, List.length_map] at h2
  have := hg.clen
  omega
 revert dl dlen
 generalize ys.filter (fun s => pc (.str s)) = DL
 intro dl dlen
 dsimp only
 refine s_seq (s_setL (i_list (d_ofL (l_sortedD (d_dget (d_var rfl (d_c rfl ⟨_, _, _, rfl, rfl, rfl, _, rfl, (by rw [List.length_map]; have := hg.elen; omega), fun zs z1 z2 => ⟨_, rfl, ?_, ?_⟩⟩)))))))
 ·unfold strsOf
  rw [List.length_map, z1.length_eq, List.length_map, List.length_map]
  have := hg.elen
  omega
 have zm : ∀ c ∈ zs, c ∈ cells.map (·.1) := fun c hc => by
  have := z1.mem_iff.mp hc
  rw [List.map_map] at this
  exact this
 refine lcW_fun (P := fun d => ∃ c u, d = .str c ∧ lookS cells c = some u) (p := pe) (f := fun d => d) (fun d hd kx hx => g_nameV (by decide) (hx _ (fun kb qb => ?_) (fun _ k qk => d_var rfl qk))) (strsOf zs) [] ?_ ?_
 ·obtain ⟨c, u, rfl, lk⟩ := hd
  have e : pe (.str c) = decide (u = kind) := by
   simp only [pe, lk]
   by_cases h : u = kind
   ·rw [h]; simp
   ·simp [h]
  rw [e] at qb
  refine d_test (d_op (d_dget ?_))
  refine d_dget (d_var rfl (d_c rfl ⟨_, _, _, rfl, rfl, rfl, ?_⟩))
  refine d_var rfl ⟨_, _, .str u, rfl, rfl, (by rw [look_map D.str, lk]; rfl), ?_⟩
  exact d_var rfl (r_eqS ⟨_, rfl, qb⟩)
 ·intro d hd
  obtain ⟨c, hc, rfl⟩ := List.mem_map.mp hd
  obtain ⟨p, hp, e⟩ := List.mem_map.mp (zm c hc)
  exact ⟨c, p.2, rfl, look_in hg.ecd (by rw [← e]; exact hp)⟩
 rw [List.nil_append, filter_strs]
 have el : ∀ c ∈ zs.filter (fun s => pe (.str s)), c ∈ cellsS ∧ lookS cells c = some kind := fun c hc => by
  obtain ⟨h1, h2⟩ := List.mem_filter.mp hc
  obtain ⟨p, hp, e⟩ := List.mem_map.mp (zm c h1)
  exact ⟨by rw [← e]; exact hg.en p hp, of_decide_eq_true h2⟩
 have elen : (zs.filter (fun s => pe (.str s))).length ≤ 4 := by
  have h1 := List.length_filter_le (fun s => pe (.str s)) zs
  have h2 := z1.length_eq
  rw [List.length_map, List.length_map] at h2
  have := hg.elen
  omega
 revert el elen
 generalize zs.filter (fun s => pe (.str s)) = EL
 intro el elen
 dsimp only
 have txtD : ∀ s ∈ DL, PyData.strOk s = true := fun s h => look_kinds s (dl s h).1
 have txtE : ∀ s ∈ EL, PyData.strOk s = true := fun s h => look_cells s (el s h).1
 have nilT : ∀ s ∈ ([] : List Str), PyData.strOk s = true := fun s h => by cases h
 refine s_cut (I := fun ρ' => ∃ s5, ρ' = [.d (.adr ah), .d (eD takes calls cells), .d (.str kind), .d (.int ((n + 1 : Nat) : Int)), .d (.lst (strsOf DL)), s5, .d (.lst (strsOf EL)), .un]) ?_ ?_
 ·refine s_if (d_and (d_test (d_op (d_var rfl (d_lst (d_nil ⟨by simp, ?_⟩))))))
  refine r_neL (ts := []) txtD nilT ⟨_, rfl, fun ne => ?_, fun _ => ?_⟩
  ·have ne' : DL ≠ [] := by simpa using ne
   refine d_test (d_op (d_next rfl (by decide) (by decide) fun r _ _ => d_c rfl (r_I0 rfl ⟨_, rfl, fun _ => ?_, fun _ => ?_⟩)))
   ·have pos : 0 < DL.length := List.length_pos_iff.mpr ne'
    have ll : (strsOf DL).length = DL.length := by unfold strsOf; rw [List.length_map]
    refine s_seq (s_set (d_op ?_))
    refine d_var rfl (d_call (d_cons (d_var rfl (d_cons (d_cb (d_cons ?_))))))
    refine d_var rfl (d_nil (c_lenS (.inl rfl) (d_nil ?_)))
    refine m_next (by omega) (by omega) fun r r0 r1 => r_pick r0 r1 fun d hd => ?_
    obtain ⟨c, hc, rfl⟩ := List.mem_map.mp hd
    obtain ⟨oc, t, lk, ht⟩ := dl c hc
    dsimp only
    refine s_ret (d_tup (d_cons (d_c rfl (d_cons (d_var rfl (d_cons (d_call ?_)))))))
    refine d_cons (d_var rfl (d_cons (d_var rfl (d_cons (d_op (d_dget ?_))))))
    refine d_dget (d_var rfl (d_c rfl ⟨_, _, _, rfl, rfl, rfl, ?_⟩))
    refine d_var rfl ⟨_, _, .tup [.str t, .str kind], rfl, rfl, (by rw [look_map (fun p : Str × Str => D.tup [.str p.1, .str p.2]), lk]; rfl), ?_⟩
    refine d_c rfl (r_ix (.inr (r_ixT rfl (d_cons (d_op ?_)))))
    refine d_var rfl (d_c rfl (r_I0 rfl (d_nil ?_)))
    refine m_gen dep hg ht fun b hb => d_nil ⟨by simp, ?_⟩
    exact q (.call c b) ⟨⟨oc, hb.1⟩, by simp only [B.depth]; have := hb.2.1; omega, by simp only [B.kind, hb.2.2, lk, if_true]⟩
   ·(refine s_next ?_; exact ⟨_, rfl⟩)
  ·refine br_f rfl (s_next ?_)
   exact ⟨_, rfl⟩
 rintro ρ' ⟨s5, rfl⟩
 refine s_cut (I := fun ρ' => ρ' = [.d (.adr ah), .d (eD takes calls cells), .d (.str kind), .d (.int ((n + 1 : Nat) : Int)), .d (.lst (strsOf DL)), s5, .d (.lst (strsOf EL)), .un]) ?_ ?_
 ·refine s_if (d_test (d_op (d_var rfl (d_lst (d_nil ⟨by simp, ?_⟩)))))
  refine r_neL (ts := []) txtE nilT ⟨_, rfl, fun ne => ?_, fun _ => ?_⟩
  ·have ne' : EL ≠ [] := by simpa using ne
   have pos : 0 < EL.length := List.length_pos_iff.mpr ne'
   have ll : (strsOf EL).length = EL.length := by unfold strsOf; rw [List.length_map]
   refine s_ret (d_tup (d_cons (d_c rfl (d_cons (d_op ?_)))))
   refine d_var rfl (d_call (d_cons (d_var rfl (d_cons (d_cb (d_cons ?_))))))
   refine d_var rfl (d_nil (c_lenS (.inl rfl) (d_nil ?_)))
   refine m_next (by omega) (by omega) fun r r0 r1 => r_pick r0 r1 fun d hd => ?_
   obtain ⟨c, hc, rfl⟩ := List.mem_map.mp hd
   obtain ⟨oc, lk⟩ := el c hc
   refine d_cons (d_call (d_cons (d_var rfl (d_cons (d_var rfl (d_cons (d_var rfl (d_cons (d_op ?_)))))))))
   refine d_var rfl (d_c rfl (r_I0 rfl (d_nil ?_)))
   refine m_gen dep hg hk fun b hb => d_nil ⟨by simp, ?_⟩
   exact q (.set c b) ⟨⟨oc, hb.1⟩, by simp only [B.depth]; have := hb.2.1; omega, by simp only [B.kind, hb.2.2, lk, if_true]⟩
  ·exact s_next rfl
 rintro ρ' rfl
 refine s_ret (d_call (d_cons ?_))
 refine d_var rfl (d_cons (d_var rfl (d_cons (d_var rfl (d_nil ?_)))))
 exact m_leaf hg hk fun b hb => q b (hb.up (by omega))
end
end Pr
set_option Elab.async false
set_option linter.all false
set_option maxRecDepth 100000
set_option maxHeartbeats 2000000
namespace Pr
open PySem L2 PD
variable [Tabs]
section
variable {P : Program} {w : World} {K : PySem.W.Frag} {mg : Str → Option Value} {base : Heap}
theorem ok_body0 {ah as : Addr} (F : DefT K mg "_law_body" s_law_body) (Fc : DefT K mg "_law_call" s_law_call) (Fr : DefT K mg "_law_reckons" s_law_reckons) (C_law_next : Cal P w K mg base 1 "_law_next" ["_law_h", "_law_many_here"] (some (ah, as)) (M_next ah))
  (C_law_leaf : Cal P w K mg base 2 "_law_leaf" ["_law_h", "_law_e", "_law_kind_here"] (some (ah, as)) (M_leaf ah)) : Cal P w K mg base 3 "_law_body" ["_law_h", "_law_e", "_law_kind_here", "_law_deep_here"] (some (ah, as)) (M_gen ah 0 1) := by
 have C_law_call : Cal P w K mg base 1 "_law_call" ["_law_h", "_law_e", "_law_kind_here", "_law_deep_here"] (some (ah, as)) M_no := calNo Fc sc_law_call (fun _ _ _ _ _ _ us hl => match us, hl with | [_, _, _, _], _ => rfl)
 have C_law_reckons : Cal P w K mg base 1 "_law_reckons" ["_law_h", "_law_e", "_law_kind_here", "_law_deep_here"] (some (ah, as)) M_no := calNo Fr sc_law_reckons (fun _ _ _ _ _ _ us hl => match us, hl with | [_, _, _, _], _ => rfl)
 have C_law_body : Cal P w K mg base 1 "_law_body" ["_law_h", "_law_e", "_law_kind_here", "_law_deep_here"] (some (ah, as)) M_no := calNo F sc_law_body (fun _ _ _ _ _ _ us hl => match us, hl with | [_, _, _, _], _ => rfl)
 refine okF F sc_law_body (fun _ _ _ _ _ _ us hl => match us, hl with | [_, _, _, _], _ => rfl) (fun ds k h => ?_) (fun f cdv A outer s H E ds kk hr h => ?_)
 ·obtain ⟨_, _, _, _, rfl, _⟩ := h
  rfl
 obtain ⟨takes, calls, cells, kind, rfl, hg, hk, q⟩ := h
 refine ⟨_, (pss_cons (ps_set (i := 4) sc_law_body.nd rfl (by first | exact Or.inl rfl | exact Or.inr rfl) (pe_calK (K := K) rfl C_law_next (hr.mono (by first | decide | omega)) rfl (pa_cons (pv 0) (pa_cons pe_int pa_nil))))
   (pss_cons (ps_if (PW.pt (pw_or (pt_cmpR op_eq (pv 3) pe_int (nomark _)) (pw_or1 (pt_cmpR op_lt (pv 4) pe_int (nomark _))))) (pss_one (ps_ret (pe_calK (K := K) rfl C_law_leaf (hr.mono (by first | decide | omega)) rfl (pa_cons (pv 0) (pa_cons (pv 1) (pa_cons (pv 2) pa_nil)))))) pss_nil)
   (pss_cons (ps_if (pt_cmpR op_lt (pv 4) pe_int (nomark _)) (pss_one (ps_ret (pe_calK (K := K) rfl C_law_call (hr.mono (by first | decide | omega)) rfl (pa_cons (pv 0) (pa_cons (pv 1) (pa_cons (pv 2) (pa_cons (pv 3) pa_nil))))))) pss_nil)
   (pss_cons (ps_if (pt_cmpR op_eq (pv 4) pe_int (nomark _)) (pss_cons (ps_set (i := 5) sc_law_body.nd rfl (by first | exact Or.inl rfl | exact Or.inr rfl) (pe_ix (r := rIx K) ix_seq (pe_lst (pa_cons pe_str (pa_cons pe_str (pa_cons pe_str pa_nil)))) (pe_calK (K := K) rfl C_law_next (hr.mono (by first | decide | omega)) rfl (pa_cons (pv 0) (pa_cons pe_int pa_nil))) (fun _ _ => rfl)))
   (pss_one (ps_ret (pe_tup (pa_cons pe_str (pa_cons (pe_calK (K := K) rfl C_law_body (hr.mono (by first | decide | omega)) rfl (pa_cons (pv 0) (pa_cons (pv 1) (pa_cons (pv 5) (pa_cons (pe_op op_sub (pv 3) pe_int) pa_nil))))) (pa_cons (pe_calK (K := K) rfl C_law_body (hr.mono (by first | decide | omega)) rfl (pa_cons (pv 0) (pa_cons (pv 1) (pa_cons (pv 2) (pa_cons (pe_op op_sub (pv 3) pe_int) pa_nil))))) pa_nil))))))) pss_nil)
   (pss_cons (ps_if (pt_cmpR op_eq (pv 4) pe_int (nomark _)) (pss_cons (ps_set (i := 6) sc_law_body.nd rfl (by first | exact Or.inl rfl | exact Or.inr rfl) (pe_lst (pa_cons (pe_calK (K := K) rfl C_law_body (hr.mono (by first | decide | omega)) rfl (pa_cons (pv 0) (pa_cons (pv 1) (pa_cons (pv 2) (pa_cons (pe_op op_sub (pv 3) pe_int) pa_nil))))) (pa_cons (pe_calK (K := K) rfl C_law_body (hr.mono (by first | decide | omega)) rfl (pa_cons (pv 0) (pa_cons (pv 1) (pa_cons (pv 2) (pa_cons (pe_op op_sub (pv 3) pe_int) pa_nil))))) pa_nil))))
   (pss_one (ps_ret (pe_tup (pa_cons pe_str (pa_cons (pe_calK (K := K) rfl C_law_body (hr.mono (by first | decide | omega)) rfl (pa_cons (pv 0) (pa_cons (pv 1) (pa_cons pe_str (pa_cons (pe_op op_sub (pv 3) pe_int) pa_nil))))) (pa_cons (pe_ix (r := rIx K) ix_seq (pv 6) pe_int (fun _ _ => rfl)) (pa_cons (pe_ix (r := rIx K) ix_seq (pv 6) pe_int (fun _ _ => rfl)) pa_nil)))))))) pss_nil)
   (pss_one (ps_ret (pe_calK (K := K) rfl C_law_reckons (hr.mono (by first | decide | omega)) rfl (pa_cons (pv 0) (pa_cons (pv 1) (pa_cons (pv 2) (pa_cons (pe_op op_sub (pv 3) pe_int) pa_nil)))))))))))), ?_⟩
 try dsimp only [cxOf]
 change dS _ _ _ [Sl.d _, Sl.d _, Sl.d _, Sl.d _, Sl.un, Sl.un, Sl.un] _
 refine s_seq (s_set ?_)
 refine d_next rfl (by decide) (by decide) fun r r0 r1 => ?_
 refine s_seq (s_if (d_or (d_test (d_op (d_var rfl (d_c rfl ?_))))))
 refine r_eqI ⟨_, rfl, br_t (by decide) (br_t rfl ?_)⟩
 refine s_ret (d_call (d_cons ?_))
 refine d_var rfl (d_cons (d_var rfl (d_cons (d_var rfl (d_nil ?_)))))
 exact m_leaf hg hk q
theorem bodyS_core {ah as : Addr} (F : DefT K mg "_law_body" s_law_body) (n j : Nat) (hj : 2 ≤ j) (C_law_next : Cal P w K mg base 1 "_law_next" ["_law_h", "_law_many_here"] (some (ah, as)) (M_next ah))
  (C_law_leaf : Cal P w K mg base 2 "_law_leaf" ["_law_h", "_law_e", "_law_kind_here"] (some (ah, as)) (M_leaf ah)) (C_law_body : Cal P w K mg base j "_law_body" ["_law_h", "_law_e", "_law_kind_here", "_law_deep_here"] (some (ah, as)) (M_gen ah n (n + 1)))
  (C_law_call : Cal P w K mg base (j + 1) "_law_call" ["_law_h", "_law_e", "_law_kind_here", "_law_deep_here"] (some (ah, as)) (M_gen ah (n + 1) (n + 2))) (C_law_reckons : Cal P w K mg base (j + 1) "_law_reckons" ["_law_h", "_law_e", "_law_kind_here", "_law_deep_here"] (some (ah, as)) (M_gen ah n (n + 2))) 
  (f : Addr) (cdv : Value) (A : Around) (outer : List Env) (s : Shared) (H : Hp) (E : XK) (ds : List D) (kk : D → Prop) (hr : Room (j + 1) (A.deeper (PyProof.Rows.envOfC "_law_body" (defScope s_law_body) s.heap.objs.size f cdv))) (h : M_gen ah (n + 1) (n + 2) ds kk) :
  ∃ t, PSs (cxOf CX0 P w K mg base N_law_body "_law_body" (defScope s_law_body) f cdv A outer s H E).nox (defBody s_law_body) t ∧ dS K (some (ah, as)) t (startD N_law_body ds) { nx := fun _ => kk .non, rt := kk } := by
 obtain ⟨takes, calls, cells, kind, rfl, hg, hk, q⟩ := h
 refine ⟨_, (pss_cons (ps_set (i := 4) sc_law_body.nd rfl (by first | exact Or.inl rfl | exact Or.inr rfl) (pe_calK (K := K) rfl C_law_next (hr.mono (by first | decide | omega)) rfl (pa_cons (pv 0) (pa_cons pe_int pa_nil))))
   (pss_cons (ps_if (PW.pt (pw_or (pt_cmpR op_eq (pv 3) pe_int (nomark _)) (pw_or1 (pt_cmpR op_lt (pv 4) pe_int (nomark _))))) (pss_one (ps_ret (pe_calK (K := K) rfl C_law_leaf (hr.mono (by first | decide | omega)) rfl (pa_cons (pv 0) (pa_cons (pv 1) (pa_cons (pv 2) pa_nil)))))) pss_nil)
   (pss_cons (ps_if (pt_cmpR op_lt (pv 4) pe_int (nomark _)) (pss_one (ps_ret (pe_calK (K := K) rfl C_law_call (hr.mono (by first | decide | omega)) rfl (pa_cons (pv 0) (pa_cons (pv 1) (pa_cons (pv 2) (pa_cons (pv 3) pa_nil))))))) pss_nil)
   (pss_cons (ps_if (pt_cmpR op_eq (pv 4) pe_int (nomark _)) (pss_cons (ps_set (i := 5) sc_law_body.nd rfl (by first | exact Or.inl rfl | exact Or.inr rfl) (pe_ix (r := rIx K) ix_seq (pe_lst (pa_cons pe_str (pa_cons pe_str (pa_cons pe_str pa_nil)))) (pe_calK (K := K) rfl C_law_next (hr.mono (by first | decide | omega)) rfl (pa_cons (pv 0) (pa_cons pe_int pa_nil))) (fun _ _ => rfl)))
   (pss_one (ps_ret (pe_tup (pa_cons pe_str (pa_cons (pe_calK (K := K) rfl C_law_body (hr.mono (by first | decide | omega)) rfl (pa_cons (pv 0) (pa_cons (pv 1) (pa_cons (pv 5) (pa_cons (pe_op op_sub (pv 3) pe_int) pa_nil))))) (pa_cons (pe_calK (K := K) rfl C_law_body (hr.mono (by first | decide | omega)) rfl (pa_cons (pv 0) (pa_cons (pv 1) (pa_cons (pv 2) (pa_cons (pe_op op_sub (pv 3) pe_int) pa_nil))))) pa_nil))))))) pss_nil)
   (pss_cons (ps_if (pt_cmpR op_eq (pv 4) pe_int (nomark _)) (pss_cons (ps_set (i := 6) sc_law_body.nd rfl (by first | exact Or.inl rfl | exact Or.inr rfl) (pe_lst (pa_cons (pe_calK (K := K) rfl C_law_body (hr.mono (by first | decide | omega)) rfl (pa_cons (pv 0) (pa_cons (pv 1) (pa_cons (pv 2) (pa_cons (pe_op op_sub (pv 3) pe_int) pa_nil))))) (pa_cons (pe_calK (K := K) rfl C_law_body (hr.mono (by first | decide | omega)) rfl (pa_cons (pv 0) (pa_cons (pv 1) (pa_cons (pv 2) (pa_cons (pe_op op_sub (pv 3) pe_int) pa_nil))))) pa_nil))))
   (pss_one (ps_ret (pe_tup (pa_cons pe_str (pa_cons (pe_calK (K := K) rfl C_law_body (hr.mono (by first | decide | omega)) rfl (pa_cons (pv 0) (pa_cons (pv 1) (pa_cons pe_str (pa_cons (pe_op op_sub (pv 3) pe_int) pa_nil))))) (pa_cons (pe_ix (r := rIx K) ix_seq (pv 6) pe_int (fun _ _ => rfl)) (pa_cons (pe_ix (r := rIx K) ix_seq (pv 6) pe_int (fun _ _ => rfl)) pa_nil)))))))) pss_nil)
   (pss_one (ps_ret (pe_calK (K := K) rfl C_law_reckons (hr.mono (by first | decide | omega)) rfl (pa_cons (pv 0) (pa_cons (pv 1) (pa_cons (pv 2) (pa_cons (pe_op op_sub (pv 3) pe_int) pa_nil)))))))))))), ?_⟩
 try dsimp only [cxOf]
 change dS _ _ _ [Sl.d _, Sl.d _, Sl.d _, Sl.d _, Sl.un, Sl.un, Sl.un] _
 have dep : ((n + 1 : Nat) : Int) - 1 = (n : Int) := by omega
 have tk : ("truth" : Str) ∈ kindsS := by decide
 have n0 : decide (((n + 1 : Nat) : Int) = 0) = false := decide_eq_false (by omega)
 refine s_seq (s_set ?_)
 refine d_next rfl (by decide) (by decide) fun r r0 r1 => ?_
 refine s_seq (s_if (d_or (d_test (d_op (d_var rfl (d_c rfl ?_))))))
 refine r_eqI ⟨_, rfl, br_f n0 (d_test (d_op (d_var rfl (d_c rfl (r_I0 rfl ⟨_, rfl, fun _ => ?_, fun _ => ?_⟩)))))⟩
 ·refine s_ret (d_call (d_cons ?_))
  refine d_var rfl (d_cons (d_var rfl (d_cons (d_var rfl (d_nil ?_)))))
  exact m_leaf hg hk fun b hb => q b (hb.up (by omega))
 refine s_next (s_seq (s_if (d_test (d_op (d_var rfl (d_c rfl (r_I0 rfl ⟨_, rfl, fun _ => ?_, fun _ => ?_⟩)))))))
 ·refine s_ret (d_call (d_cons ?_))
  refine d_var rfl (d_cons (d_var rfl (d_cons (d_var rfl (d_cons (d_var rfl (d_nil ?_)))))))
  exact m_gen rfl hg hk q
 refine s_next (s_seq (s_if (d_test (d_op (d_var rfl (d_c rfl (r_eqI ⟨_, rfl, fun _ => ?_, fun _ => ?_⟩)))))))
 ·refine s_seq (s_set (d_op (d_lst (d_cons (d_c rfl (d_cons (d_c rfl (d_cons (d_c rfl (d_nil ⟨by simp, ?_⟩)))))))))) 
  refine d_next rfl (by decide) (by decide) fun r2 a0 a1 => r_pick a0 a1 fun d hd => ?_
  obtain ⟨ok2, ek, rfl⟩ : ∃ o : Str, o ∈ kindsS ∧ d = .str o := by
   simp only [List.mem_cons, List.not_mem_nil, or_false] at hd
   rcases hd with rfl | rfl | rfl
   ·exact ⟨_, by decide, rfl⟩
   ·exact ⟨_, by decide, rfl⟩
   ·exact ⟨_, by decide, rfl⟩
  refine s_ret (d_tup (d_cons (d_c rfl ?_)))
  refine d_cons (d_call (d_cons (d_var rfl ?_)))
  refine d_cons (d_var rfl ?_)
  refine d_cons (d_var rfl ?_)
  refine d_cons (d_op (d_var rfl ?_))
  refine d_c rfl ?_
  refine r_I0 rfl ?_
  refine d_nil ?_
  (with_reducible refine m_gen dep hg (by assumption) (fun b hb => ?_))
  refine d_cons (d_call (d_cons (d_var rfl ?_)))
  refine d_cons (d_var rfl ?_)
  refine d_cons (d_var rfl ?_)
  refine d_cons (d_op (d_var rfl ?_))
  refine d_c rfl ?_
  refine r_I0 rfl ?_
  refine d_nil ?_
  (with_reducible refine m_gen dep hg (by assumption) (fun b hb => ?_))
  refine d_nil (And.intro (show List.length _ ≤ 100000 by simp) ?_)
  dsimp only
  rotate_left
  rename_i b0 hb0
  exact q (.op2 _ b0 b) (gThen hb0 hb)
 refine s_next (s_seq (s_if (d_test (d_op (d_var rfl (d_c rfl (r_eqI ⟨_, rfl, fun _ => ?_, fun _ => ?_⟩)))))))
 ·refine s_seq (s_set (d_lst (d_cons (d_call (d_cons (d_var rfl ?_))))))
  refine d_cons (d_var rfl ?_)
  refine d_cons (d_var rfl ?_)
  refine d_cons (d_op (d_var rfl ?_))
  refine d_c rfl ?_
  refine r_I0 rfl ?_
  refine d_nil ?_
  (with_reducible refine m_gen dep hg (by assumption) (fun b hb => ?_))
  refine d_cons (d_call (d_cons (d_var rfl ?_)))
  refine d_cons (d_var rfl ?_)
  refine d_cons (d_var rfl ?_)
  refine d_cons (d_op (d_var rfl ?_))
  refine d_c rfl ?_
  refine r_I0 rfl ?_
  refine d_nil ?_
  (with_reducible refine m_gen dep hg (by assumption) (fun b hb => ?_))
  refine d_nil (And.intro (show List.length _ ≤ 100000 by simp) ?_)
  refine s_ret (d_tup (d_cons (d_c rfl ?_)))
  refine d_cons (d_call (d_cons (d_var rfl ?_)))
  refine d_cons (d_var rfl ?_)
  refine d_cons (d_c rfl ?_)
  refine d_cons (d_op (d_var rfl ?_))
  refine d_c rfl ?_
  refine r_I0 rfl ?_
  refine d_nil ?_
  (with_reducible refine m_gen dep hg (by assumption) (fun b hb => ?_))
  refine d_cons (d_op (d_var rfl ?_))
  refine d_c rfl ?_
  refine r_ix (.inl (r_ixL rfl ?_))
  refine d_cons (d_op (d_var rfl ?_))
  refine d_c rfl ?_
  refine r_ix (.inl (r_ixL rfl ?_))
  refine d_nil (And.intro (show List.length _ ≤ 100000 by simp) ?_)
  dsimp only
  rotate_left
  rename_i b1 hb1 b2 hb2
  exact q (.ite b b1 b2) (g3 hb hb1 hb2)
 refine s_next ?_
 refine s_ret (d_call (d_cons (d_var rfl ?_)))
 refine d_cons (d_var rfl ?_)
 refine d_cons (d_var rfl ?_)
 refine d_cons (d_op (d_var rfl ?_))
 refine d_c rfl ?_
 refine r_I0 rfl ?_
 refine d_nil ?_
 (with_reducible refine m_gen dep hg (by assumption) (fun b hb => ?_))
 dsimp only
 rotate_left
 exact q b hb
theorem ok_bodyS {ah as : Addr} (F : DefT K mg "_law_body" s_law_body) (n j : Nat) (hj : 2 ≤ j) (C_law_next : Cal P w K mg base 1 "_law_next" ["_law_h", "_law_many_here"] (some (ah, as)) (M_next ah))
  (C_law_leaf : Cal P w K mg base 2 "_law_leaf" ["_law_h", "_law_e", "_law_kind_here"] (some (ah, as)) (M_leaf ah)) (C_law_body : Cal P w K mg base j "_law_body" ["_law_h", "_law_e", "_law_kind_here", "_law_deep_here"] (some (ah, as)) (M_gen ah n (n + 1)))
  (C_law_call : Cal P w K mg base (j + 1) "_law_call" ["_law_h", "_law_e", "_law_kind_here", "_law_deep_here"] (some (ah, as)) (M_gen ah (n + 1) (n + 2))) (C_law_reckons : Cal P w K mg base (j + 1) "_law_reckons" ["_law_h", "_law_e", "_law_kind_here", "_law_deep_here"] (some (ah, as)) (M_gen ah n (n + 2))) :
  Cal P w K mg base (j + 2) "_law_body" ["_law_h", "_law_e", "_law_kind_here", "_law_deep_here"] (some (ah, as)) (M_gen ah (n + 1) (n + 2)) := by
 refine okF F sc_law_body (fun _ _ _ _ _ _ us hl => match us, hl with | [_, _, _, _], _ => rfl) (fun ds k h => ?_) (fun f cdv A outer s H E ds kk hr h => ?_)
 ·obtain ⟨_, _, _, _, rfl, _⟩ := h
  rfl
 exact bodyS_core F n j hj C_law_next C_law_leaf C_law_body C_law_call C_law_reckons f cdv A outer s H E ds kk hr h
theorem ok_bodies {ah as : Addr} (F : DefT K mg "_law_body" s_law_body) (Fc : DefT K mg "_law_call" s_law_call) (Fr : DefT K mg "_law_reckons" s_law_reckons) (zl : mg "len" = none) (zs : mg "sorted" = none)
  (C_law_next : Cal P w K mg base 1 "_law_next" ["_law_h", "_law_many_here"] (some (ah, as)) (M_next ah)) (C_law_leaf : Cal P w K mg base 2 "_law_leaf" ["_law_h", "_law_e", "_law_kind_here"] (some (ah, as)) (M_leaf ah)) :
  ∀ n : Nat, Cal P w K mg base (3 + 2 * n) "_law_body" ["_law_h", "_law_e", "_law_kind_here", "_law_deep_here"] (some (ah, as)) (M_gen ah n (n + 1)) := by
 intro n
 induction n with
 | zero => exact ok_body0 F Fc Fr C_law_next C_law_leaf
 | succ n ih => exact ok_bodyS F n (3 + 2 * n) (by omega) C_law_next C_law_leaf ih (ok_call Fc zl zs n _ (by omega) C_law_next C_law_leaf ih) (ok_reck Fr n _ (by omega) C_law_next ih)
def M_gens (ah : Addr) : List D → (D → Prop) → Prop := fun ds k => M_gen ah 1 2 ds k ∨ M_gen ah 2 3 ds k ∨ M_gen ah 3 4 ds k
theorem ok_body123 {ah as : Addr} (F : DefT K mg "_law_body" s_law_body) (Fc : DefT K mg "_law_call" s_law_call) (Fr : DefT K mg "_law_reckons" s_law_reckons) (zl : mg "len" = none) (zs : mg "sorted" = none)
  (C_law_next : Cal P w K mg base 1 "_law_next" ["_law_h", "_law_many_here"] (some (ah, as)) (M_next ah)) (C_law_leaf : Cal P w K mg base 2 "_law_leaf" ["_law_h", "_law_e", "_law_kind_here"] (some (ah, as)) (M_leaf ah)) :
  Cal P w K mg base 9 "_law_body" ["_law_h", "_law_e", "_law_kind_here", "_law_deep_here"] (some (ah, as)) (M_gens ah) := by
 have I := fun n => ok_bodies F Fc Fr zl zs C_law_next C_law_leaf n
 have c := fun n => ok_call Fc zl zs n (3 + 2 * n) (by omega) C_law_next C_law_leaf (I n)
 have r := fun n => ok_reck Fr n (3 + 2 * n) (by omega) C_law_next (I n)
 refine okF F sc_law_body (fun _ _ _ _ _ _ us hl => match us, hl with | [_, _, _, _], _ => rfl) (fun ds k h => ?_) (fun f cdv A outer s H E ds kk hr h => ?_)
 ·rcases h with ⟨_, _, _, _, rfl, _⟩ | ⟨_, _, _, _, rfl, _⟩ | ⟨_, _, _, _, rfl, _⟩ <;> rfl
 rcases h with h | h | h
 ·exact bodyS_core F 0 3 (by omega) C_law_next C_law_leaf (I 0) (c 0) (r 0) f cdv A outer s H E ds kk (hr.mono (by omega)) h
 ·exact bodyS_core F 1 5 (by omega) C_law_next C_law_leaf (I 1) (c 1) (r 1) f cdv A outer s H E ds kk (hr.mono (by omega)) h
 ·exact bodyS_core F 2 7 (by omega) C_law_next C_law_leaf (I 2) (c 2) (r 2) f cdv A outer s H E ds kk (hr.mono (by omega)) h
end
end Pr
set_option Elab.async false
set_option linter.all false
set_option maxRecDepth 100000
set_option maxHeartbeats 2000000
namespace Pr
open PySem L2 PD
variable [Tabs]
abbrev s_law_mix : Stmt := top 56
abbrev N_law_mix : List Str := ["_law_script", "_law_seed", "_law_mixed", "_law_cell"]
theorem sc_law_mix : FnScope N_law_mix ["_law_script", "_law_seed"] (defScope s_law_mix) := ⟨rfl, rfl, rfl, by decide +kernel, rfl, by decide +kernel, by decide +kernel⟩
abbrev s_law_calls : Stmt := top 63
abbrev N_law_calls : List Str := ["_law_body_here", "_law_found", "_law_arm", "_law_deed"]
theorem sc_law_calls : FnScope N_law_calls ["_law_body_here"] (defScope s_law_calls) := ⟨rfl, rfl, rfl, by decide +kernel, rfl, by decide +kernel, by decide +kernel⟩
abbrev s_law_used : Stmt := top 64
abbrev N_law_used : List Str := ["_law_body_here", "_law_found", "_law_arm"]
theorem sc_law_used : FnScope N_law_used ["_law_body_here"] (defScope s_law_used) := ⟨rfl, rfl, rfl, by decide +kernel, rfl, by decide +kernel, by decide +kernel⟩
section
variable {P : Program} {w : World} {K : PySem.W.Frag} {mg : Str → Option Value} {base : Heap}
theorem tg_toD (b : B) : tgD b.toD = some .tup := by cases b <;> rfl
end
end Pr
set_option Elab.async false
set_option linter.all false
set_option maxRecDepth 100000
set_option maxHeartbeats 2000000
open PySem L2 PD
local macro_rules | `(tactic| walk_at "D5f2f") => `(tactic| (first
 | with_reducible refine s_seq ?_ | with_reducible refine s_ret ?_ | with_reducible refine s_if ?_
 | with_reducible refine d_var (by with_unfolding_all rfl) ?_ | with_reducible refine d_cK (by assumption) ?_ | with_reducible refine d_c (by with_unfolding_all rfl) ?_
 | with_reducible refine d_op ?_ | with_reducible refine d_test ?_ | with_reducible refine d_cons ?_ | with_reducible refine d_nil ?_ | with_reducible refine d_cb ?_ | with_reducible refine d_call ?_ | with_reducible refine d_callP ?_ | with_reducible refine d_callV (fun _ => RelL.cons Rel.int RelL.nil) ?_
 | with_reducible refine br_t (by assumption) ?_ | with_reducible refine br_f (by assumption) ?_ | with_reducible refine br_t (by with_unfolding_all rfl) ?_ | with_reducible refine br_f (by with_unfolding_all rfl) ?_
 | with_reducible refine ⟨_, rfl, ?_⟩ | with_reducible refine ⟨_, _, rfl, ?_⟩ | with_reducible refine ⟨_, _, _, _, rfl, ?_⟩ | with_reducible refine ⟨_, rfl, ?_, ?_⟩
 | with_reducible refine r_I0 (by with_unfolding_all rfl) ?_ | with_reducible refine r_eqS ?_ | with_reducible refine r_eqI ?_ | with_reducible refine r_neI ?_ | with_reducible refine r_neS ?_ | with_reducible refine r_isN ?_ | with_reducible refine r_notN ?_ | with_reducible refine r_in0 ?_ | with_reducible refine r_in1 ?_ | with_reducible refine r_in2 ?_ | with_reducible refine r_in3 ?_ | with_reducible refine s_setD ?_ | with_reducible refine d_dc ?_
 | with_reducible refine r_ix (.inr (r_ixT (by with_unfolding_all rfl) ?_)) | with_reducible refine r_ix (.inl (r_ixL (by with_unfolding_all rfl) ?_)) | with_reducible refine c_lenS (.inr rfl) ?_ | with_reducible refine c_lenS (.inl rfl) ?_
 | with_reducible refine s_next ?_ | with_reducible refine d_andV ?_ | with_reducible refine d_orV ?_ | with_reducible refine d_notV ?_
 | with_reducible refine d_un ?_ | with_reducible refine d_tB ?_ | with_reducible refine d_and ?_ | with_reducible refine d_or ?_ | with_reducible refine d_not ?_
 | with_reducible refine d_yes ?_ | with_reducible refine d_ifE ?_
 | with_reducible refine d_tup ?_ | with_reducible refine d_lst ?_ | with_reducible refine d_slT1 ?_ | with_reducible refine d_slT3 ?_ | with_reducible refine d_slT13 ?_ | with_reducible refine d_slT ?_ | with_reducible refine o_no ?_ | with_reducible refine o_part ?_ | with_reducible refine d_chain ?_ | with_reducible refine d_truth ?_
 | with_reducible refine s_setL ?_ | with_reducible refine s_set ?_ | with_reducible refine s_for ?_ | with_reducible refine i_zipT ?_ | with_reducible refine i_tup ?_ | with_reducible refine i_list ?_
 | with_reducible refine g_name ?_ | with_reducible refine g_nameV (by decide) ?_ | with_reducible refine gs_cons ?_ | with_reducible refine gs_nil ?_ | ((with_reducible refine g_tid ?_); refine g_tup rfl ?_) | with_reducible refine s_aug (by with_unfolding_all rfl) ?_ | with_reducible refine s_asg ?_ | with_reducible refine s_drop ?_
 | with_reducible refine d_callLP (by with_unfolding_all rfl) ?_ | with_reducible refine d_lc ?_ | with_reducible refine forW_cons ?_ | with_reducible refine forW_nil ?_ | ((with_reducible refine forW_id ?_); refine forW_pair ?_) | ((with_reducible refine forW_id ?_); refine forW_pnil ?_) | with_reducible refine lcW_cons ?_ | with_reducible refine lcW_nil ?_
 | with_reducible refine d_dget ?_ | with_reducible refine d_dget1 ?_ | with_reducible refine d_dget2 ?_ | with_reducible refine d_kget ?_
 | with_reducible refine r_eq (by with_unfolding_all rfl) (by with_unfolding_all rfl) (by with_unfolding_all rfl) ?_ | with_reducible refine r_ne (by with_unfolding_all rfl) (by with_unfolding_all rfl) (by with_unfolding_all rfl) ?_
 | with_reducible refine u_I (by with_unfolding_all rfl) ?_
 | with_reducible refine c_bool (by with_unfolding_all rfl) ?_ | with_reducible refine c_int (by with_unfolding_all rfl) ?_ | with_reducible refine c_str (by with_unfolding_all rfl) ?_ | with_reducible refine c_tup (by with_unfolding_all rfl) ?_ | with_reducible refine c_lst (by with_unfolding_all rfl) ?_
 | with_reducible refine And.intro (show List.length _ ≤ 100000 by simp) ?_ | with_reducible refine truOk_tup ?_ | with_reducible refine truOk_lst ?_ | with_reducible assumption | with_reducible refine ⟨fun _ => ?_, fun _ => ?_⟩ | dsimp only | fail "stop"))
namespace Pr
open PySem L2 PD
variable [Tabs]
local macro_rules | `(tactic| walk_at "d1") => `(tactic| walk_at "D5f2f")
local macro_rules | `(tactic| walk_at "d") => `(tactic| repeat' walk_at "d1")
def B.uses : B → List Str
 | .cel c => [c]
 | .set c x => c :: x.uses
 | .call _ x => x.uses
 | .op1 _ x => x.uses
 | .op2 _ x y => x.uses ++ y.uses
 | .ite x y z => x.uses ++ y.uses ++ z.uses
 | _ => []
def addNew (xs ys : List Str) : List Str := xs ++ ys.filter fun s => !decide (s ∈ xs)
def B.called : B → List Str
 | .set _ x => addNew [] x.called
 | .call d x => addNew [d] x.called
 | .op1 _ x => addNew [] x.called
 | .op2 _ x y => addNew (addNew [] x.called) y.called
 | .ite x y z => addNew (addNew (addNew [] x.called) y.called) z.called
 | _ => []
theorem uses_len (b : B) : b.uses.length ≤ b.size := by
 induction b <;> simp only [B.uses, B.size, List.length_cons, List.length_append, List.length_nil] <;> omega
theorem addNew_len (xs ys : List Str) : (addNew xs ys).length ≤ xs.length + ys.length := by
 unfold addNew
 rw [List.length_append]
 exact Nat.add_le_add_left (List.length_filter_le _ _) _
theorem mem_addNew {s : Str} {xs ys : List Str} : s ∈ addNew xs ys ↔ s ∈ xs ∨ s ∈ ys := by
 unfold addNew
 rw [List.mem_append, List.mem_filter]
 by_cases h : s ∈ xs <;> simp [h]
theorem called_len (b : B) : b.called.length ≤ b.size := by
 induction b with
 | op2 w x y hx hy =>
  have h1 := addNew_len [] x.called
  have h2 := addNew_len (addNew [] x.called) y.called
  simp only [B.called, B.size, List.length_nil] at *
  omega
 | ite x y z hx hy hz =>
  have h1 := addNew_len [] x.called
  have h2 := addNew_len (addNew [] x.called) y.called
  have h3 := addNew_len (addNew (addNew [] x.called) y.called) z.called
  simp only [B.called, B.size, List.length_nil] at *
  omega
 | call d x hx =>
  have h1 := addNew_len [d] x.called
  simp only [B.called, B.size, List.length_cons, List.length_nil] at *
  omega
 | set c x hx =>
  have h1 := addNew_len [] x.called
  simp only [B.called, B.size, List.length_nil] at *
  omega
 | op1 c x hx =>
  have h1 := addNew_len [] x.called
  simp only [B.called, B.size, List.length_nil] at *
  omega
 | _ => simp [B.called]
section
variable {P : Program} {w : World} {K : PySem.W.Frag} {mg : Str → Option Value} {base : Heap}
def M_used (n : Nat) : List D → (D → Prop) → Prop := fun ds k => ∃ b : B, ds = [b.toD] ∧ b.ok ∧ b.depth ≤ n ∧ b.size ≤ 20000 ∧ k (.lst (strsOf b.uses))
def M_lcalls (n : Nat) : List D → (D → Prop) → Prop := fun ds k => ∃ b : B, ds = [b.toD] ∧ b.ok ∧ b.depth ≤ n ∧ b.size ≤ 20000 ∧ k (.lst (strsOf b.called))
theorem m_used {n : Nat} {b : B} {k : D → Prop} (h0 : b.ok) (h1 : b.depth ≤ n) (h2 : b.size ≤ 20000) (h : k (.lst (strsOf b.uses))) : M_used n [b.toD] k := ⟨b, rfl, h0, h1, h2, h⟩
theorem m_lcalls {n : Nat} {b : B} {k : D → Prop} (h0 : b.ok) (h1 : b.depth ≤ n) (h2 : b.size ≤ 20000) (h : k (.lst (strsOf b.called))) : M_lcalls n [b.toD] k := ⟨b, rfl, h0, h1, h2, h⟩
theorem w1_ne : ∀ v ∈ w1S, decide (v ∈ ([("cell" : Str), ("set" : Str)] : List Str)) = false ∧ decide (v = ("call" : Str)) = false := by decide +kernel
theorem w2_ne : ∀ v ∈ w2S, decide (v ∈ ([("cell" : Str), ("set" : Str)] : List Str)) = false ∧ decide (v = ("call" : Str)) = false := by decide +kernel
local macro_rules | `(tactic| walk_at "wk1") => `(tactic| (first | with_reducible refine m_used (by assumption) (by omega) (by omega) ?_ | with_reducible refine m_lcalls (by assumption) (by omega) (by omega) ?_ | refine c_tup (tg_toD _) ?_ | (refine ⟨(show _ ≤ 50000 by simp), ?_⟩) | (refine ⟨_, rfl, (by simp; omega), ?_⟩) | with_reducible refine l_lst ?_ | (with_reducible refine s_extDS (i := 1) (by with_unfolding_all rfl) ?_) | (with_reducible refine s_keep (i := 1) (by with_unfolding_all rfl) (s_ret ?_)) | (refine ⟨rfl, ?_⟩) | walk_at "d1" | fail "x"))
local macro_rules | `(tactic| walk_at "wk") => `(tactic| repeat' walk_at "wk1")
theorem ok_used (F : DefT K mg "_law_used" s_law_used) (zi : mg "isinstance" = none) (zt : mg "tuple" = none) : ∀ n : Nat, Cal P w K mg base (n + 1) "_law_used" ["_law_body_here"] none (M_used n) := by
 intro n
 induction n with
 | zero =>
  refine okF F sc_law_used (fun _ _ _ _ _ _ us hl => match us, hl with | [_], _ => rfl) (fun ds k h => ?_) (fun f cdv A outer s H E ds kk hr h => ?_)
  ·obtain ⟨_, rfl, _⟩ := h
   rfl
  ·obtain ⟨b, _, _, h, _⟩ := h
   have := depth_pos b
   omega
 | succ n ih =>
  have C_law_used := ih
  refine okF F sc_law_used (fun _ _ _ _ _ _ us hl => match us, hl with | [_], _ => rfl) (fun ds k h => ?_) (fun f cdv A outer s H E ds kk hr h => ?_)
  ·obtain ⟨_, rfl, _⟩ := h
   rfl
  obtain ⟨b, rfl, ho, hd, hz, q⟩ := h
  have T : Unit := ()
  refine ⟨_, (pss_cons (ps_set (i := 1) sc_law_used.nd rfl (by first | exact Or.inl rfl | exact Or.inr rfl) (pe_ifExp (pt_cmpR (r := rIn K false) op_in_seq (pe_ix (r := rIx K) ix_seq (pv 0) pe_int (fun _ _ => rfl)) (pe_tup (pa_cons pe_str (pa_cons pe_str pa_nil))) rfl) (pe_lst (pa_cons (pe_ix (r := rIx K) ix_seq (pv 0) pe_int (fun _ _ => rfl)) pa_nil)) (pe_lst pa_nil)))
   (pss_cons (ps_for PassesOwn.never rfl (pi_tup (pe_slice (r := rSlA K) sl_tupA (pv 0) (po_some pe_int) po_none)) (pg_name (i := 2) sc_law_used.nd rfl (by first | exact Or.inl rfl | exact Or.inr rfl)) (pss_one (ps_if (pt_val (pe_callB (r := rIsi K) (id := "isinstance")  call_isi (by rfl) zi (by decide +kernel) (pa_cons (pv 2) (pa_cons (pe_bty (n := "tuple") rfl zt (by decide +kernel)) pa_nil)))) (pss_one (ps_expr (pe_bm PySem.F.plainAttrs_list PySem.F.slot_list_extend PySem.F.type_list_extend mt_extend (pv 1) (pa_cons (pe_calK (K := K) rfl C_law_used (hr.mono (by first | decide | omega)) rfl (pa_cons (pv 2) pa_nil)) pa_nil)))) pss_nil)))
   (pss_one (ps_ret (pv 1))))), ?_⟩
  try dsimp only [cxOf]
  change dS _ _ _ [Sl.d _, Sl.un, Sl.un] _
  have lx := uses_len
  cases b <;> simp only [B.depth] at hd <;> simp only [B.size] at hz <;> (try simp only [B.ok] at ho) <;> dsimp only [B.toD] <;> dsimp only [B.uses] at q
  case cel c =>
   refine s_seq (s_ownS [c] (l_ifE ?_))
   refine d_test (d_op (d_op (d_var rfl ?_)))
   refine d_c rfl ?_
   refine r_ix (.inr (r_ixT rfl ?_))
   refine d_tup (d_cons (d_c rfl ?_))
   refine d_cons (d_c rfl ?_)
   refine d_nil (And.intro (show List.length _ ≤ 100000 by simp) ?_)
   dsimp only
   rotate_left
   refine r_in0 (ss := ["cell", "set"]) ⟨_, rfl, fun e => ?_, fun e => absurd e (by decide)⟩
   refine l_lst (d_cons (d_op (d_var rfl ?_)))
   refine d_c rfl ?_
   refine r_ix (.inr (r_ixT rfl ?_))
   refine d_nil (And.intro (show List.length _ ≤ 100000 by simp) ?_)
   (refine ⟨rfl, ?_⟩)
   refine s_seq (s_for (i_tup (d_slT1 (d_var rfl ?_))))
   refine ⟨_, _, rfl, ⟨_, rfl, ?_⟩⟩
   with_reducible refine forW_cons ?_
   refine g_name (s_if (d_tB (d_cb (d_cons (d_var rfl ?_)))))
   refine d_cons (d_c rfl ?_)
   refine d_nil (c_tup (by with_unfolding_all rfl) ?_)
   refine ⟨_, rfl, (br_f (by with_unfolding_all rfl) ?_)⟩
   refine s_next ?_
   with_reducible refine forW_nil ?_
   (with_reducible refine s_keep (i := 1) (by with_unfolding_all rfl) (s_ret ?_))
   refine d_var rfl ?_
   with_reducible assumption
  case set c x =>
   obtain ⟨_, _⟩ := ho
   have lx := lx x
   refine s_seq (s_ownS [c] (l_ifE ?_))
   refine d_test (d_op (d_op (d_var rfl ?_)))
   refine d_c rfl ?_
   refine r_ix (.inr (r_ixT rfl ?_))
   refine d_tup (d_cons (d_c rfl ?_))
   refine d_cons (d_c rfl ?_)
   refine d_nil (And.intro (show List.length _ ≤ 100000 by simp) ?_)
   dsimp only
   rotate_left
   refine r_in0 (ss := ["cell", "set"]) ⟨_, rfl, fun e => ?_, fun e => absurd e (by decide)⟩
   refine l_lst (d_cons (d_op (d_var rfl ?_)))
   refine d_c rfl ?_
   refine r_ix (.inr (r_ixT rfl ?_))
   refine d_nil (And.intro (show List.length _ ≤ 100000 by simp) ?_)
   (refine ⟨rfl, ?_⟩)
   refine s_seq (s_for (i_tup (d_slT1 (d_var rfl ?_))))
   refine ⟨_, _, rfl, ⟨_, rfl, ?_⟩⟩
   with_reducible refine forW_cons ?_
   refine g_name (s_if (d_tB (d_cb (d_cons (d_var rfl ?_)))))
   refine d_cons (d_c rfl ?_)
   refine d_nil (c_tup (by with_unfolding_all rfl) ?_)
   refine ⟨_, rfl, (br_f (by with_unfolding_all rfl) ?_)⟩
   refine s_next ?_
   with_reducible refine forW_cons ?_
   refine g_name (s_if (d_tB (d_cb (d_cons (d_var rfl ?_)))))
   refine d_cons (d_c rfl ?_)
   refine d_nil ?_
   refine c_tup (tg_toD _) ⟨_, rfl, (br_t (by with_unfolding_all rfl) ?_)⟩
   (with_reducible refine s_extDS (i := 1) (by with_unfolding_all rfl) ?_)
   refine d_call (d_cons (d_var rfl ?_))
   refine d_nil (m_used (by assumption) (by omega) (by omega) ?_)
   (refine ⟨_, rfl, (by simp; omega), ?_⟩)
   with_reducible refine forW_nil ?_
   (with_reducible refine s_keep (i := 1) (by with_unfolding_all rfl) (s_ret ?_))
   refine d_var rfl ?_
   dsimp only
   rotate_left
   exact q
  case call c x =>
   obtain ⟨_, _⟩ := ho
   have lx := lx x
   refine s_seq (s_ownS [] (l_ifE ?_))
   refine d_test (d_op (d_op (d_var rfl ?_)))
   refine d_c rfl ?_
   refine r_ix (.inr (r_ixT rfl ?_))
   refine d_tup (d_cons (d_c rfl ?_))
   refine d_cons (d_c rfl ?_)
   refine d_nil (And.intro (show List.length _ ≤ 100000 by simp) ?_)
   dsimp only
   rotate_left
   refine r_in0 (ss := ["cell", "set"]) ⟨_, rfl, fun e => absurd e (by decide), fun e => ?_⟩
   refine l_lst (d_nil (And.intro (show List.length _ ≤ 100000 by simp) ?_))
   (refine ⟨rfl, ?_⟩)
   refine s_seq (s_for (i_tup (d_slT1 (d_var rfl ?_))))
   refine ⟨_, _, rfl, ⟨_, rfl, ?_⟩⟩
   with_reducible refine forW_cons ?_
   refine g_name (s_if (d_tB (d_cb (d_cons (d_var rfl ?_)))))
   refine d_cons (d_c rfl ?_)
   refine d_nil (c_tup (by with_unfolding_all rfl) ?_)
   refine ⟨_, rfl, (br_f (by with_unfolding_all rfl) ?_)⟩
   refine s_next ?_
   with_reducible refine forW_cons ?_
   refine g_name (s_if (d_tB (d_cb (d_cons (d_var rfl ?_)))))
   refine d_cons (d_c rfl ?_)
   refine d_nil ?_
   refine c_tup (tg_toD _) ⟨_, rfl, (br_t (by with_unfolding_all rfl) ?_)⟩
   (with_reducible refine s_extDS (i := 1) (by with_unfolding_all rfl) ?_)
   refine d_call (d_cons (d_var rfl ?_))
   refine d_nil (m_used (by assumption) (by omega) (by omega) ?_)
   (refine ⟨_, rfl, (by simp; omega), ?_⟩)
   with_reducible refine forW_nil ?_
   (with_reducible refine s_keep (i := 1) (by with_unfolding_all rfl) (s_ret ?_))
   refine d_var rfl ?_
   dsimp only
   rotate_left
   exact q
  case op1 v x =>
   obtain ⟨hv, _⟩ := ho
   have nv := (w1_ne v hv).1
   have lx := lx x
   refine s_seq (s_ownS [] (l_ifE ?_))
   refine d_test (d_op (d_op (d_var rfl ?_)))
   refine d_c rfl ?_
   refine r_ix (.inr (r_ixT rfl ?_))
   refine d_tup (d_cons (d_c rfl ?_))
   refine d_cons (d_c rfl ?_)
   refine d_nil (And.intro (show List.length _ ≤ 100000 by simp) ?_)
   dsimp only
   rotate_left
   refine r_in0 (ss := ["cell", "set"]) ⟨_, rfl, fun e => (by rw [nv] at e; cases e), fun e => ?_⟩
   refine l_lst (d_nil (And.intro (show List.length _ ≤ 100000 by simp) ?_))
   (refine ⟨rfl, ?_⟩)
   refine s_seq (s_for (i_tup (d_slT1 (d_var rfl ?_))))
   refine ⟨_, _, rfl, ⟨_, rfl, ?_⟩⟩
   with_reducible refine forW_cons ?_
   refine g_name (s_if (d_tB (d_cb (d_cons (d_var rfl ?_)))))
   refine d_cons (d_c rfl ?_)
   refine d_nil ?_
   refine c_tup (tg_toD _) ⟨_, rfl, (br_t (by with_unfolding_all rfl) ?_)⟩
   (with_reducible refine s_extDS (i := 1) (by with_unfolding_all rfl) ?_)
   refine d_call (d_cons (d_var rfl ?_))
   refine d_nil (m_used (by assumption) (by omega) (by omega) ?_)
   (refine ⟨_, rfl, (by simp; omega), ?_⟩)
   with_reducible refine forW_nil ?_
   (with_reducible refine s_keep (i := 1) (by with_unfolding_all rfl) (s_ret ?_))
   refine d_var rfl ?_
   dsimp only
   rotate_left
   exact q
  case op2 v x y =>
   obtain ⟨hv, _, _⟩ := ho
   have nv := (w2_ne v hv).1
   have l1 := lx x
   have l2 := lx y
   refine s_seq (s_ownS [] (l_ifE ?_))
   refine d_test (d_op (d_op (d_var rfl ?_)))
   refine d_c rfl ?_
   refine r_ix (.inr (r_ixT rfl ?_))
   refine d_tup (d_cons (d_c rfl ?_))
   refine d_cons (d_c rfl ?_)
   refine d_nil (And.intro (show List.length _ ≤ 100000 by simp) ?_)
   dsimp only
   rotate_left
   refine r_in0 (ss := ["cell", "set"]) ⟨_, rfl, fun e => (by rw [nv] at e; cases e), fun e => ?_⟩
   refine l_lst (d_nil (And.intro (show List.length _ ≤ 100000 by simp) ?_))
   (refine ⟨rfl, ?_⟩)
   refine s_seq (s_for (i_tup (d_slT1 (d_var rfl ?_))))
   refine ⟨_, _, rfl, ⟨_, rfl, ?_⟩⟩
   with_reducible refine forW_cons ?_
   refine g_name (s_if (d_tB (d_cb (d_cons (d_var rfl ?_)))))
   refine d_cons (d_c rfl ?_)
   refine d_nil ?_
   refine c_tup (tg_toD _) ⟨_, rfl, (br_t (by with_unfolding_all rfl) ?_)⟩
   (with_reducible refine s_extDS (i := 1) (by with_unfolding_all rfl) ?_)
   refine d_call (d_cons (d_var rfl ?_))
   refine d_nil (m_used (by assumption) (by omega) (by omega) ?_)
   (refine ⟨_, rfl, (by simp; omega), ?_⟩)
   with_reducible refine forW_cons ?_
   refine g_name (s_if (d_tB (d_cb (d_cons (d_var rfl ?_)))))
   refine d_cons (d_c rfl ?_)
   refine d_nil ?_
   refine c_tup (tg_toD _) ⟨_, rfl, (br_t (by with_unfolding_all rfl) ?_)⟩
   (with_reducible refine s_extDS (i := 1) (by with_unfolding_all rfl) ?_)
   refine d_call (d_cons (d_var rfl ?_))
   refine d_nil (m_used (by assumption) (by omega) (by omega) ?_)
   (refine ⟨_, rfl, (by simp; omega), ?_⟩)
   with_reducible refine forW_nil ?_
   (with_reducible refine s_keep (i := 1) (by with_unfolding_all rfl) (s_ret ?_))
   refine d_var rfl ?_
   dsimp only
   rotate_left
   exact q
  case ite x y z =>
   obtain ⟨_, _, _⟩ := ho
   have l1 := lx x
   have l2 := lx y
   have l3 := lx z
   refine s_seq (s_ownS [] (l_ifE ?_))
   refine d_test (d_op (d_op (d_var rfl ?_)))
   refine d_c rfl ?_
   refine r_ix (.inr (r_ixT rfl ?_))
   refine d_tup (d_cons (d_c rfl ?_))
   refine d_cons (d_c rfl ?_)
   refine d_nil (And.intro (show List.length _ ≤ 100000 by simp) ?_)
   dsimp only
   rotate_left
   refine r_in0 (ss := ["cell", "set"]) ⟨_, rfl, fun e => absurd e (by decide), fun e => ?_⟩
   refine l_lst (d_nil (And.intro (show List.length _ ≤ 100000 by simp) ?_))
   (refine ⟨rfl, ?_⟩)
   refine s_seq (s_for (i_tup (d_slT1 (d_var rfl ?_))))
   refine ⟨_, _, rfl, ⟨_, rfl, ?_⟩⟩
   with_reducible refine forW_cons ?_
   refine g_name (s_if (d_tB (d_cb (d_cons (d_var rfl ?_)))))
   refine d_cons (d_c rfl ?_)
   refine d_nil ?_
   refine c_tup (tg_toD _) ⟨_, rfl, (br_t (by with_unfolding_all rfl) ?_)⟩
   (with_reducible refine s_extDS (i := 1) (by with_unfolding_all rfl) ?_)
   refine d_call (d_cons (d_var rfl ?_))
   refine d_nil (m_used (by assumption) (by omega) (by omega) ?_)
   (refine ⟨_, rfl, (by simp; omega), ?_⟩)
   with_reducible refine forW_cons ?_
   refine g_name (s_if (d_tB (d_cb (d_cons (d_var rfl ?_)))))
   refine d_cons (d_c rfl ?_)
   refine d_nil ?_
   refine c_tup (tg_toD _) ⟨_, rfl, (br_t (by with_unfolding_all rfl) ?_)⟩
   (with_reducible refine s_extDS (i := 1) (by with_unfolding_all rfl) ?_)
   refine d_call (d_cons (d_var rfl ?_))
   refine d_nil (m_used (by assumption) (by omega) (by omega) ?_)
   (refine ⟨_, rfl, (by simp; omega), ?_⟩)
   with_reducible refine forW_cons ?_
   refine g_name (s_if (d_tB (d_cb (d_cons (d_var rfl ?_)))))
   refine d_cons (d_c rfl ?_)
   refine d_nil ?_
   refine c_tup (tg_toD _) ⟨_, rfl, (br_t (by with_unfolding_all rfl) ?_)⟩
   (with_reducible refine s_extDS (i := 1) (by with_unfolding_all rfl) ?_)
   refine d_call (d_cons (d_var rfl ?_))
   refine d_nil (m_used (by assumption) (by omega) (by omega) ?_)
   (refine ⟨_, rfl, (by simp; omega), ?_⟩)
   with_reducible refine forW_nil ?_
   (with_reducible refine s_keep (i := 1) (by with_unfolding_all rfl) (s_ret ?_))
   refine d_var rfl ?_
   dsimp only
   rotate_left
   exact q
  all_goals
   refine s_seq (s_ownS [] (l_ifE ?_))
   walk_at "wk"
   refine r_in0 (ss := ["cell", "set"]) ⟨_, rfl, fun e => absurd e (by decide), fun e => ?_⟩
   walk_at "wk"
theorem ok_lcalls (F : DefT K mg "_law_calls" s_law_calls) (zi : mg "isinstance" = none) (zt : mg "tuple" = none) : ∀ n : Nat, Cal P w K mg base (n + 1) "_law_calls" ["_law_body_here"] none (M_lcalls n) := by
 intro n
 induction n with
 | zero =>
  refine okF F sc_law_calls (fun _ _ _ _ _ _ us hl => match us, hl with | [_], _ => rfl) (fun ds k h => ?_) (fun f cdv A outer s H E ds kk hr h => ?_)
  ·obtain ⟨_, rfl, _⟩ := h
   rfl
  ·obtain ⟨b, _, _, h, _⟩ := h
   have := depth_pos b
   omega
 | succ n ih =>
  have C_law_calls := ih
  refine okF F sc_law_calls (fun _ _ _ _ _ _ us hl => match us, hl with | [_], _ => rfl) (fun ds k h => ?_) (fun f cdv A outer s H E ds kk hr h => ?_)
  ·obtain ⟨_, rfl, _⟩ := h
   rfl
  obtain ⟨b, rfl, ho, hd, hz, q⟩ := h
  have T : Unit := ()
  refine ⟨_, (pss_cons (ps_set (i := 1) sc_law_calls.nd rfl (by first | exact Or.inl rfl | exact Or.inr rfl) (pe_ifExp (pt_cmpR op_eq (pe_ix (r := rIx K) ix_seq (pv 0) pe_int (fun _ _ => rfl)) pe_str (nomark _)) (pe_lst (pa_cons (pe_ix (r := rIx K) ix_seq (pv 0) pe_int (fun _ _ => rfl)) pa_nil)) (pe_lst pa_nil)))
   (pss_cons (ps_for PassesOwn.never rfl (pi_tup (pe_slice (r := rSlA K) sl_tupA (pv 0) (po_some pe_int) po_none)) (pg_name (i := 2) sc_law_calls.nd rfl (by first | exact Or.inl rfl | exact Or.inr rfl)) (pss_one (ps_if (pt_val (pe_callB (r := rIsi K) (id := "isinstance")  call_isi (by rfl) zi (by decide +kernel) (pa_cons (pv 2) (pa_cons (pe_bty (n := "tuple") rfl zt (by decide +kernel)) pa_nil)))) (pss_one (ps_expr (pe_bm PySem.F.plainAttrs_list PySem.F.slot_list_extend PySem.F.type_list_extend mt_extend (pv 1) (pa_cons (pe_lc (own := [("_law_deed", 3)]) (g := gName 3) rfl sc_law_calls.nd (pi_list (pe_calK (K := K) rfl C_law_calls (hr.mono (by first | decide | omega)) rfl (pa_cons (pv 2) pa_nil))) (blkOk_by (own := [("_law_deed", 3)]) (N := N_law_calls) (sc := defScope s_law_calls) (by decide +kernel)) (fun _ _ _ _ _ => (pg_name (i := 3) sc_law_calls.nd rfl (by first | exact Or.inl rfl | exact Or.inr rfl))) (fun _ _ _ _ _ => (pts_one (pt_cmpR (r := rIn K true) op_notIn_seq (pv 3) (pv 1) rfl))) (fun _ _ _ _ _ => (pv 3))) pa_nil)))) pss_nil)))
   (pss_one (ps_ret (pv 1))))), ?_⟩
  try dsimp only [cxOf]
  change dS _ _ _ [Sl.d _, Sl.un, Sl.un, Sl.un] _
  have lx := called_len
  cases b <;> simp only [B.depth] at hd <;> simp only [B.size] at hz <;> (try simp only [B.ok] at ho) <;> dsimp only [B.toD] <;> dsimp only [B.called] at q
  case call c x =>
   obtain ⟨_, _⟩ := ho
   have lx_ := lx x
   have f1 := addNew_len [c] x.called
   have f2 := f1
   have f3 := f1
   dsimp only [List.length_cons, List.length_nil] at f1 f2 f3
   refine s_seq (s_ownS [c] (l_ifE ?_))
   refine d_test (d_op (d_op (d_var rfl ?_)))
   refine d_c rfl ?_
   refine r_ix (.inr (r_ixT rfl ?_))
   refine d_c rfl ?_
   refine r_eqS ⟨_, rfl, (br_t (by with_unfolding_all rfl) ?_)⟩
   refine l_lst (d_cons (d_op (d_var rfl ?_)))
   refine d_c rfl ?_
   refine r_ix (.inr (r_ixT rfl ?_))
   refine d_nil (And.intro (show List.length _ ≤ 100000 by simp) ?_)
   (refine ⟨rfl, ?_⟩)
   refine s_seq (s_for (i_tup (d_slT1 (d_var rfl ?_))))
   refine ⟨_, _, rfl, ⟨_, rfl, ?_⟩⟩
   with_reducible refine forW_cons ?_
   refine g_name (s_if (d_tB (d_cb (d_cons (d_var rfl ?_)))))
   refine d_cons (d_c rfl ?_)
   refine d_nil (c_tup (by with_unfolding_all rfl) ?_)
   refine ⟨_, rfl, (br_f (by with_unfolding_all rfl) ?_)⟩
   refine s_next ?_
   with_reducible refine forW_cons ?_
   refine g_name (s_if (d_tB (d_cb (d_cons (d_var rfl ?_)))))
   refine d_cons (d_c rfl ?_)
   refine d_nil ?_
   refine c_tup (tg_toD _) ⟨_, rfl, (br_t (by with_unfolding_all rfl) ?_)⟩
   (with_reducible refine s_extDS (i := 1) (by with_unfolding_all rfl) ?_)
   refine d_lc (i_list (d_call (d_cons (d_var rfl ?_))))
   refine d_nil (m_lcalls (by assumption) (by omega) (by omega) ?_)
   refine ⟨_, rfl, ?_⟩
   dsimp only
   rotate_left
   refine ⟨by rw [strsOf, List.length_map]; omega, ?_⟩
   refine lcW_txt _ (fun s kk hk => g_nameV (by decide) (hk _ (fun kb h => d_test (d_nin1 (i := 1) (by with_unfolding_all rfl) (d_var rfl ⟨s, rfl, _, rfl, h⟩))) (fun _ k h => d_var rfl h))) _ [] ⟨_, rfl, (by rw [← List.length_append]; first | exact Nat.le_trans f1 (by omega) | exact Nat.le_trans f2 (by omega) | exact Nat.le_trans f3 (by omega)), ?_⟩
   with_reducible refine forW_nil ?_
   (with_reducible refine s_keep (i := 1) (by with_unfolding_all rfl) (s_ret ?_))
   refine d_var rfl ?_
   dsimp only
   rotate_left
   exact q
  case set c x =>
   obtain ⟨_, _⟩ := ho
   have lx_ := lx x
   have f1 := addNew_len [] x.called
   have f2 := f1
   have f3 := f1
   rw [List.length_nil] at f1
   refine s_seq (s_ownS [] (l_ifE ?_))
   refine d_test (d_op (d_op (d_var rfl ?_)))
   refine d_c rfl ?_
   refine r_ix (.inr (r_ixT rfl ?_))
   refine d_c rfl ?_
   refine r_eqS ⟨_, rfl, (br_f (by with_unfolding_all rfl) ?_)⟩
   refine l_lst (d_nil (And.intro (show List.length _ ≤ 100000 by simp) ?_))
   (refine ⟨rfl, ?_⟩)
   refine s_seq (s_for (i_tup (d_slT1 (d_var rfl ?_))))
   refine ⟨_, _, rfl, ⟨_, rfl, ?_⟩⟩
   with_reducible refine forW_cons ?_
   refine g_name (s_if (d_tB (d_cb (d_cons (d_var rfl ?_)))))
   refine d_cons (d_c rfl ?_)
   refine d_nil (c_tup (by with_unfolding_all rfl) ?_)
   refine ⟨_, rfl, (br_f (by with_unfolding_all rfl) ?_)⟩
   refine s_next ?_
   with_reducible refine forW_cons ?_
   refine g_name (s_if (d_tB (d_cb (d_cons (d_var rfl ?_)))))
   refine d_cons (d_c rfl ?_)
   refine d_nil ?_
   refine c_tup (tg_toD _) ⟨_, rfl, (br_t (by with_unfolding_all rfl) ?_)⟩
   (with_reducible refine s_extDS (i := 1) (by with_unfolding_all rfl) ?_)
   refine d_lc (i_list (d_call (d_cons (d_var rfl ?_))))
   refine d_nil (m_lcalls (by assumption) (by omega) (by omega) ?_)
   refine ⟨_, rfl, ?_⟩
   dsimp only
   rotate_left
   refine ⟨by rw [strsOf, List.length_map]; omega, ?_⟩
   refine lcW_txt _ (fun s kk hk => g_nameV (by decide) (hk _ (fun kb h => d_test (d_nin1 (i := 1) (by with_unfolding_all rfl) (d_var rfl ⟨s, rfl, _, rfl, h⟩))) (fun _ k h => d_var rfl h))) _ [] ⟨_, rfl, (by rw [← List.length_append]; first | exact Nat.le_trans f1 (by omega) | exact Nat.le_trans f2 (by omega) | exact Nat.le_trans f3 (by omega)), ?_⟩
   with_reducible refine forW_nil ?_
   (with_reducible refine s_keep (i := 1) (by with_unfolding_all rfl) (s_ret ?_))
   refine d_var rfl ?_
   dsimp only
   rotate_left
   exact q
  case op1 v x =>
   obtain ⟨hv, _⟩ := ho
   have lx_ := lx x
   have f1 := addNew_len [] x.called
   have f2 := f1
   have f3 := f1
   rw [List.length_nil] at f1
   refine s_seq (s_ownS [] (l_ifE ?_))
   have nv := (w1_ne v hv).2
   refine d_test (d_op (d_op (d_var rfl ?_)))
   refine d_c rfl ?_
   refine r_ix (.inr (r_ixT rfl ?_))
   refine d_c rfl ?_
   refine r_eqS ⟨_, rfl, (br_f (by assumption) ?_)⟩
   refine l_lst (d_nil (And.intro (show List.length _ ≤ 100000 by simp) ?_))
   (refine ⟨rfl, ?_⟩)
   refine s_seq (s_for (i_tup (d_slT1 (d_var rfl ?_))))
   refine ⟨_, _, rfl, ⟨_, rfl, ?_⟩⟩
   with_reducible refine forW_cons ?_
   refine g_name (s_if (d_tB (d_cb (d_cons (d_var rfl ?_)))))
   refine d_cons (d_c rfl ?_)
   refine d_nil ?_
   refine c_tup (tg_toD _) ⟨_, rfl, (br_t (by with_unfolding_all rfl) ?_)⟩
   (with_reducible refine s_extDS (i := 1) (by with_unfolding_all rfl) ?_)
   refine d_lc (i_list (d_call (d_cons (d_var rfl ?_))))
   refine d_nil (m_lcalls (by assumption) (by omega) (by omega) ?_)
   refine ⟨_, rfl, ?_⟩
   dsimp only
   rotate_left
   all_goals try (exfalso; rename_i e; rw [nv] at e; cases e; done)
   refine ⟨by rw [strsOf, List.length_map]; omega, ?_⟩
   refine lcW_txt _ (fun s kk hk => g_nameV (by decide) (hk _ (fun kb h => d_test (d_nin1 (i := 1) (by with_unfolding_all rfl) (d_var rfl ⟨s, rfl, _, rfl, h⟩))) (fun _ k h => d_var rfl h))) _ [] ⟨_, rfl, (by rw [← List.length_append]; first | exact Nat.le_trans f1 (by omega) | exact Nat.le_trans f2 (by omega) | exact Nat.le_trans f3 (by omega)), ?_⟩
   with_reducible refine forW_nil ?_
   (with_reducible refine s_keep (i := 1) (by with_unfolding_all rfl) (s_ret ?_))
   refine d_var rfl ?_
   dsimp only
   rotate_left
   exact q
  case op2 v x y =>
   obtain ⟨hv, _, _⟩ := ho
   have lx_ := lx x
   have ly_ := lx y
   have f1 := addNew_len [] x.called
   have f2 := addNew_len (addNew [] x.called) y.called
   have f3 := f1
   rw [List.length_nil] at f1
   refine s_seq (s_ownS [] (l_ifE ?_))
   have nv := (w2_ne v hv).2
   refine d_test (d_op (d_op (d_var rfl ?_)))
   refine d_c rfl ?_
   refine r_ix (.inr (r_ixT rfl ?_))
   refine d_c rfl ?_
   refine r_eqS ⟨_, rfl, (br_f (by assumption) ?_)⟩
   refine l_lst (d_nil (And.intro (show List.length _ ≤ 100000 by simp) ?_))
   (refine ⟨rfl, ?_⟩)
   refine s_seq (s_for (i_tup (d_slT1 (d_var rfl ?_))))
   refine ⟨_, _, rfl, ⟨_, rfl, ?_⟩⟩
   with_reducible refine forW_cons ?_
   refine g_name (s_if (d_tB (d_cb (d_cons (d_var rfl ?_)))))
   refine d_cons (d_c rfl ?_)
   refine d_nil ?_
   refine c_tup (tg_toD _) ⟨_, rfl, (br_t (by with_unfolding_all rfl) ?_)⟩
   (with_reducible refine s_extDS (i := 1) (by with_unfolding_all rfl) ?_)
   refine d_lc (i_list (d_call (d_cons (d_var rfl ?_))))
   refine d_nil (m_lcalls (by assumption) (by omega) (by omega) ?_)
   refine ⟨_, rfl, ?_⟩
   dsimp only
   rotate_left
   all_goals try (exfalso; rename_i e; rw [nv] at e; cases e; done)
   refine ⟨by rw [strsOf, List.length_map]; omega, ?_⟩
   refine lcW_txt _ (fun s kk hk => g_nameV (by decide) (hk _ (fun kb h => d_test (d_nin1 (i := 1) (by with_unfolding_all rfl) (d_var rfl ⟨s, rfl, _, rfl, h⟩))) (fun _ k h => d_var rfl h))) _ [] ⟨_, rfl, (by rw [← List.length_append]; first | exact Nat.le_trans f1 (by omega) | exact Nat.le_trans f2 (by omega) | exact Nat.le_trans f3 (by omega)), ?_⟩
   with_reducible refine forW_cons ?_
   refine g_name (s_if (d_tB (d_cb (d_cons (d_var rfl ?_)))))
   refine d_cons (d_c rfl ?_)
   refine d_nil ?_
   refine c_tup (tg_toD _) ⟨_, rfl, (br_t (by with_unfolding_all rfl) ?_)⟩
   (with_reducible refine s_extDS (i := 1) (by with_unfolding_all rfl) ?_)
   refine d_lc (i_list (d_call (d_cons (d_var rfl ?_))))
   refine d_nil (m_lcalls (by assumption) (by omega) (by omega) ?_)
   refine ⟨_, rfl, ?_⟩
   dsimp only
   rotate_left
   refine ⟨by rw [strsOf, List.length_map]; omega, ?_⟩
   refine lcW_txt _ (fun s kk hk => g_nameV (by decide) (hk _ (fun kb h => d_test (d_nin1 (i := 1) (by with_unfolding_all rfl) (d_var rfl ⟨s, rfl, _, rfl, h⟩))) (fun _ k h => d_var rfl h))) _ [] ⟨_, rfl, (by rw [← List.length_append]; first | exact Nat.le_trans f1 (by omega) | exact Nat.le_trans f2 (by omega) | exact Nat.le_trans f3 (by omega)), ?_⟩
   with_reducible refine forW_nil ?_
   (with_reducible refine s_keep (i := 1) (by with_unfolding_all rfl) (s_ret ?_))
   refine d_var rfl ?_
   dsimp only
   rotate_left
   exact q
  case ite x y z =>
   obtain ⟨_, _, _⟩ := ho
   have lx_ := lx x
   have ly_ := lx y
   have lz_ := lx z
   have f1 := addNew_len [] x.called
   have f2 := addNew_len (addNew [] x.called) y.called
   have f3 := addNew_len (addNew (addNew [] x.called) y.called) z.called
   rw [List.length_nil] at f1
   refine s_seq (s_ownS [] (l_ifE ?_))
   refine d_test (d_op (d_op (d_var rfl ?_)))
   refine d_c rfl ?_
   refine r_ix (.inr (r_ixT rfl ?_))
   refine d_c rfl ?_
   refine r_eqS ⟨_, rfl, (br_f (by with_unfolding_all rfl) ?_)⟩
   refine l_lst (d_nil (And.intro (show List.length _ ≤ 100000 by simp) ?_))
   (refine ⟨rfl, ?_⟩)
   refine s_seq (s_for (i_tup (d_slT1 (d_var rfl ?_))))
   refine ⟨_, _, rfl, ⟨_, rfl, ?_⟩⟩
   with_reducible refine forW_cons ?_
   refine g_name (s_if (d_tB (d_cb (d_cons (d_var rfl ?_)))))
   refine d_cons (d_c rfl ?_)
   refine d_nil ?_
   refine c_tup (tg_toD _) ⟨_, rfl, (br_t (by with_unfolding_all rfl) ?_)⟩
   (with_reducible refine s_extDS (i := 1) (by with_unfolding_all rfl) ?_)
   refine d_lc (i_list (d_call (d_cons (d_var rfl ?_))))
   refine d_nil (m_lcalls (by assumption) (by omega) (by omega) ?_)
   refine ⟨_, rfl, ?_⟩
   dsimp only
   rotate_left
   refine ⟨by rw [strsOf, List.length_map]; omega, ?_⟩
   refine lcW_txt _ (fun s kk hk => g_nameV (by decide) (hk _ (fun kb h => d_test (d_nin1 (i := 1) (by with_unfolding_all rfl) (d_var rfl ⟨s, rfl, _, rfl, h⟩))) (fun _ k h => d_var rfl h))) _ [] ⟨_, rfl, (by rw [← List.length_append]; first | exact Nat.le_trans f1 (by omega) | exact Nat.le_trans f2 (by omega) | exact Nat.le_trans f3 (by omega)), ?_⟩
   with_reducible refine forW_cons ?_
   refine g_name (s_if (d_tB (d_cb (d_cons (d_var rfl ?_)))))
   refine d_cons (d_c rfl ?_)
   refine d_nil ?_
   refine c_tup (tg_toD _) ⟨_, rfl, (br_t (by with_unfolding_all rfl) ?_)⟩
   (with_reducible refine s_extDS (i := 1) (by with_unfolding_all rfl) ?_)
   refine d_lc (i_list (d_call (d_cons (d_var rfl ?_))))
   refine d_nil (m_lcalls (by assumption) (by omega) (by omega) ?_)
   refine ⟨_, rfl, ?_⟩
   dsimp only
   rotate_left
   refine ⟨by rw [strsOf, List.length_map]; omega, ?_⟩
   refine lcW_txt _ (fun s kk hk => g_nameV (by decide) (hk _ (fun kb h => d_test (d_nin1 (i := 1) (by with_unfolding_all rfl) (d_var rfl ⟨s, rfl, _, rfl, h⟩))) (fun _ k h => d_var rfl h))) _ [] ⟨_, rfl, (by rw [← List.length_append]; first | exact Nat.le_trans f1 (by omega) | exact Nat.le_trans f2 (by omega) | exact Nat.le_trans f3 (by omega)), ?_⟩
   with_reducible refine forW_cons ?_
   refine g_name (s_if (d_tB (d_cb (d_cons (d_var rfl ?_)))))
   refine d_cons (d_c rfl ?_)
   refine d_nil ?_
   refine c_tup (tg_toD _) ⟨_, rfl, (br_t (by with_unfolding_all rfl) ?_)⟩
   (with_reducible refine s_extDS (i := 1) (by with_unfolding_all rfl) ?_)
   refine d_lc (i_list (d_call (d_cons (d_var rfl ?_))))
   refine d_nil (m_lcalls (by assumption) (by omega) (by omega) ?_)
   refine ⟨_, rfl, ?_⟩
   dsimp only
   rotate_left
   refine ⟨by rw [strsOf, List.length_map]; omega, ?_⟩
   refine lcW_txt _ (fun s kk hk => g_nameV (by decide) (hk _ (fun kb h => d_test (d_nin1 (i := 1) (by with_unfolding_all rfl) (d_var rfl ⟨s, rfl, _, rfl, h⟩))) (fun _ k h => d_var rfl h))) _ [] ⟨_, rfl, (by rw [← List.length_append]; first | exact Nat.le_trans f1 (by omega) | exact Nat.le_trans f2 (by omega) | exact Nat.le_trans f3 (by omega)), ?_⟩
   with_reducible refine forW_nil ?_
   (with_reducible refine s_keep (i := 1) (by with_unfolding_all rfl) (s_ret ?_))
   refine d_var rfl ?_
   dsimp only
   rotate_left
   exact q
  all_goals
   refine s_seq (s_ownS [] (l_ifE ?_))
   walk_at "wk"
end
end Pr
set_option Elab.async false
set_option linter.all false
set_option maxRecDepth 100000
set_option maxHeartbeats 2000000
namespace Pr
open PySem L2 PD
variable [Tabs]
section
variable {P : Program} {w : World} {K : PySem.W.Frag} {mg : Str → Option Value} {base : Heap}
end
end Pr
set_option Elab.async false
set_option linter.all false
set_option maxRecDepth 100000
set_option maxHeartbeats 2000000
namespace Pr
open PySem L2 PD
variable [Tabs]
section
variable {P : Program} {w : World} {K : PySem.W.Frag} {mg : Str → Option Value} {base : Heap}
def Pt.toF (p : Pt) : D := .tup [.str p.name, .tup (p.deeds.map Dd.toD), .tup (p.asks.map askD), .tpf (p.cells.map celD)]
theorem weak_toF (p : Pt) : Weak K p.toF p.toD := fun G v r => by
 obtain ⟨a, vs, rfl, h, r⟩ := rel_tup r
 refine .tup h ?_
 cases r with
 | cons r1 r =>
 cases r with
 | cons r2 r =>
 cases r with
 | cons r3 r =>
 cases r with
 | cons r4 r => exact .cons r1 (.cons r2 (.cons r3 (.cons (Rel.weak r4) r)))
end
end Pr
set_option Elab.async false
set_option linter.all false
set_option maxRecDepth 100000
set_option maxHeartbeats 2000000
namespace Pr
open PySem L2 PD
variable [Tabs]
theorem kind_mono {takes : Str} {calls calls' : CT} {cells cells' : ET} : ∀ (b : B) (t : Str), b.kind takes calls cells = some t → (∀ x ∈ b.called, ∀ v, lookS calls x = some v → lookS calls' x = some v) →
  (∀ c ∈ b.uses, ∀ v, lookS cells c = some v → lookS cells' c = some v) → b.kind takes calls' cells' = some t := by
 intro b
 induction b with
 | num n => intro t e _ _; exact e
 | tru n => intro t e _ _; exact e
 | emp => intro t e _ _; exact e
 | arg => intro t e _ _; exact e
 | cel c => intro t e _ h; exact h c (by simp [B.uses]) _ e
 | set c x ih =>
  intro t e h1 h2
  simp only [B.kind] at e ⊢
  cases hx : x.kind takes calls cells with
  | none => rw [hx] at e; cases e
  | some k =>
   rw [hx] at e
   rw [ih k hx (fun y hy => h1 y (by simp only [B.called]; exact mem_addNew.mpr (.inr hy))) fun y hy => h2 y (by simp only [B.uses]; exact List.mem_cons_of_mem _ hy)]
   dsimp only at e ⊢
   by_cases hl : lookS cells c = some k
   ·rw [if_pos hl] at e
    rw [if_pos (h2 c (by simp [B.uses]) _ hl)]
    exact e
   ·rw [if_neg hl] at e; cases e
 | call d x ih =>
  intro t e h1 h2
  simp only [B.kind] at e ⊢
  cases hx : x.kind takes calls cells with
  | none => rw [hx] at e; cases e
  | some k =>
   rw [hx] at e
   rw [ih k hx (fun y hy => h1 y (by simp only [B.called]; exact mem_addNew.mpr (.inr hy))) fun y hy => h2 y hy]
   dsimp only at e ⊢
   cases hl : lookS calls d with
   | none => rw [hl] at e; cases e
   | some p =>
    rw [hl] at e
    rw [h1 d (by simp only [B.called]; exact mem_addNew.mpr (.inl (by simp))) _ hl]
    exact e
 | op1 v x ih =>
  intro t e h1 h2
  simp only [B.kind] at e ⊢
  cases hx : x.kind takes calls cells with
  | none => rw [hx] at e; cases e
  | some k =>
   rw [hx] at e
   rw [ih k hx (fun y hy => h1 y (by simp only [B.called]; exact mem_addNew.mpr (.inr hy))) fun y hy => h2 y hy]
   exact e
 | op2 v x y ihx ihy =>
  intro t e h1 h2
  simp only [B.kind] at e ⊢
  cases hx : x.kind takes calls cells with
  | none => rw [hx] at e; cases e
  | some k =>
   cases hy : y.kind takes calls cells with
   | none => rw [hx, hy] at e; cases e
   | some l =>
    rw [hx, hy] at e
    rw [ihx k hx (fun z hz => h1 z (by simp only [B.called]; exact mem_addNew.mpr (.inl (mem_addNew.mpr (.inr hz))))) fun z hz => h2 z (by simp only [B.uses]; exact List.mem_append_left _ hz),
     ihy l hy (fun z hz => h1 z (by simp only [B.called]; exact mem_addNew.mpr (.inr hz))) fun z hz => h2 z (by simp only [B.uses]; exact List.mem_append_right _ hz)]
    exact e
 | ite x y w ihx ihy ihw =>
  intro t e h1 h2
  simp only [B.kind] at e ⊢
  cases hx : x.kind takes calls cells with
  | none => rw [hx] at e; cases e
  | some k =>
   cases hy : y.kind takes calls cells with
   | none => rw [hx, hy] at e; cases e
   | some l =>
    cases hw : w.kind takes calls cells with
    | none => rw [hx, hy, hw] at e; cases e
    | some m =>
     rw [hx, hy, hw] at e
     rw [ihx k hx (fun z hz => h1 z (by simp only [B.called]; exact mem_addNew.mpr (.inl (mem_addNew.mpr (.inl (mem_addNew.mpr (.inr hz))))))) fun z hz => h2 z (by simp only [B.uses]; exact List.mem_append_left _ (List.mem_append_left _ hz)),
      ihy l hy (fun z hz => h1 z (by simp only [B.called]; exact mem_addNew.mpr (.inl (mem_addNew.mpr (.inr hz))))) fun z hz => h2 z (by simp only [B.uses]; exact List.mem_append_left _ (List.mem_append_right _ hz)),
      ihw m hw (fun z hz => h1 z (by simp only [B.called]; exact mem_addNew.mpr (.inr hz))) fun z hz => h2 z (by simp only [B.uses]; exact List.mem_append_right _ hz)]
     exact e
theorem size_pow : ∀ b : B, 2 * b.size + 1 ≤ 3 ^ b.depth := by
 intro b
 have up : ∀ {i j : Nat}, i ≤ j → 3 ^ i ≤ 3 ^ j := fun h => Nat.pow_le_pow_right (by omega) h
 induction b with
 | op1 v x ih => simp only [B.size, B.depth, Nat.pow_succ]; omega
 | set v x ih => simp only [B.size, B.depth, Nat.pow_succ]; omega
 | call v x ih => simp only [B.size, B.depth, Nat.pow_succ]; omega
 | op2 v x y ihx ihy =>
  simp only [B.size, B.depth, Nat.pow_succ]
  have h1 := up (Nat.le_max_left x.depth y.depth)
  have h2 := up (Nat.le_max_right x.depth y.depth)
  omega
 | ite x y z ihx ihy ihz =>
  simp only [B.size, B.depth, Nat.pow_succ]
  have h1 := up (Nat.le_trans (Nat.le_max_left x.depth y.depth) (Nat.le_max_left _ z.depth))
  have h2 := up (Nat.le_trans (Nat.le_max_right x.depth y.depth) (Nat.le_max_left _ z.depth))
  have h3 := up (Nat.le_max_right (max x.depth y.depth) z.depth)
  omega
 | _ => simp [B.size, B.depth]
theorem size40 {b : B} (h : b.depth ≤ 4) : b.size ≤ 40 := by
 have h1 := size_pow b
 have h2 : 3 ^ b.depth ≤ 3 ^ 4 := Nat.pow_le_pow_right (by omega) h
 omega
section
variable {K : PySem.W.Frag} {hs : Option (Addr × Addr)} {ρ : List Sl} {te : TE} {tt : TT} {g : TG}
theorem lcW_dem {js : List Nat} {kl : List D → Prop} (must : Str → Bool) (f : Str → D) (P : Str → Prop) (h : ∀ s, P s → ∀ kk : List Sl → Prop, (∀ ρ', (∀ kb : Bool → Prop, kb true → (must s = false → kb false) → dT K hs tt ρ' kb) → (∀ k : D → Prop, k (f s) → dE K hs te ρ' k) → kk ρ') → dG K hs g (some js) (.str s) ρ kk) :
  ∀ (ss : List Str) (acc : List D), (∀ s ∈ ss, P s) → (∀ zs : List Str, zs.Sublist ss → (∀ s ∈ ss, must s = true → s ∈ zs) → kl (acc ++ zs.map f)) → lcW K hs g js tt te ρ kl (strsOf ss) acc
 | [], acc, _, q => by
  have := q [] (List.Sublist.refl _) (fun s hs => by cases hs)
  show kl acc
  simpa using this
 | s :: r, acc, hp, q => by
  refine h s (hp s List.mem_cons_self) _ fun ρ' h1 h2 => h1 _ ⟨fun _ => h2 _ ?_, fun e => (by cases e)⟩ fun em => ⟨fun e => (by cases e), fun _ => ?_⟩
  ·refine lcW_dem must f P h r _ (fun x hx => hp x (List.mem_cons_of_mem _ hx)) fun zs z1 z2 => ?_
   have := q (s :: zs) (z1.cons_cons s) fun x hx hm => by
    rcases List.mem_cons.mp hx with rfl | hx
    ·exact List.mem_cons_self
    ·exact List.mem_cons_of_mem _ (z2 x hx hm)
   rw [List.append_assoc]
   exact this
  ·refine lcW_dem must f P h r _ (fun x hx => hp x (List.mem_cons_of_mem _ hx)) fun zs z1 z2 => ?_
   exact q zs (z1.cons s) fun x hx hm => by
    rcases List.mem_cons.mp hx with rfl | hx
    ·rw [em] at hm; cases hm
    ·exact z2 x hx hm
end
end Pr
set_option Elab.async false
set_option linter.all false
set_option maxRecDepth 100000
set_option maxHeartbeats 2000000
namespace Pr
open PySem L2 PD
variable [Tabs]
abbrev s_law_part : Stmt := top 65
abbrev N_law_part : List Str := ["_law_h", "_law_name", "_law_own", "_law_others", "_law_sig", "_law_cells", "_law_deeds", "_law_met", "_law_used_here", "_law_given", "_law_deed", "_law_e", "_law_body_here", "_law_asks", "_law_some", "_law_cell"]
theorem sc_law_part : FnScope N_law_part ["_law_h", "_law_name", "_law_own", "_law_others", "_law_sig", "_law_cells"] (defScope s_law_part) := ⟨rfl, rfl, rfl, by decide +kernel, rfl, by decide +kernel, by decide +kernel⟩
def Pt.fine (p : Pt) : Prop := p.wrong = none ∧ ∀ d ∈ p.deeds, d.body.depth ≤ 4
structure SigOk (sig : CT) : Prop where
 all : ∀ x ∈ deedsS, ∃ t u, lookS sig x = some (t, u) ∧ t ∈ kindsS ∧ u ∈ kindsS
structure CellOk (cells : ET) : Prop where
 n : (cells.map (·.1)).Nodup
 c : ∀ p ∈ cells, p.1 ∈ cellsS ∧ p.2 ∈ kindsS
 len : cells.length ≤ 4
def sigOf (sig : CT) (x : Str) : Str × Str := (lookS sig x).getD ("", "")
def celOf (cells : ET) (x : Str) : Str := (lookS cells x).getD ""
theorem SigOk.of {sig : CT} (h : SigOk sig) {x : Str} (hx : x ∈ deedsS) : lookS sig x = some (sigOf sig x) ∧ (sigOf sig x).1 ∈ kindsS ∧ (sigOf sig x).2 ∈ kindsS := by
 obtain ⟨t, u, e, h1, h2⟩ := h.all x hx
 unfold sigOf
 rw [e]
 exact ⟨rfl, h1, h2⟩
theorem CellOk.of {cells : ET} (h : CellOk cells) {x : Str} (hx : x ∈ cells.map (·.1)) : lookS cells x = some (celOf cells x) ∧ x ∈ cellsS ∧ celOf cells x ∈ kindsS := by
 obtain ⟨p, hp, rfl⟩ := List.mem_map.mp hx
 have e := look_in h.n hp
 unfold celOf
 rw [e]
 exact ⟨rfl, (h.c p hp).1, (h.c p hp).2⟩
def givenOf (sig : CT) (names : List Str) : CT := names.map fun x => (x, sigOf sig x)
theorem given_names {sig : CT} {names : List Str} : (givenOf sig names).map (·.1) = names := by
 unfold givenOf
 rw [List.map_map]
 exact (List.map_congr_left fun _ _ => rfl).trans (List.map_id names)
theorem look_given {sig : CT} {names : List Str} (nd : names.Nodup) {x : Str} (hx : x ∈ names) : lookS (givenOf sig names) x = some (sigOf sig x) :=
 look_in (by rw [given_names]; exact nd) (List.mem_map.mpr ⟨x, hx, rfl⟩)
structure PInv (sig given : CT) (cells : ET) (done : List Str) (dds : List Dd) (met used : List Str) : Prop where
 names : dds.map Dd.name = done
 each : ∀ d ∈ dds, d.takes = (sigOf sig d.name).1 ∧ d.tells = (sigOf sig d.name).2 ∧ Gen d.takes given cells d.tells 4 d.body
 m : ∀ d ∈ dds, ∀ x ∈ d.body.called, x ∈ met
 u : ∀ d ∈ dds, ∀ x ∈ d.body.uses, x ∈ used
 ml : met.length ≤ 40 * dds.length
 ul : used.length ≤ 40 * dds.length
theorem PInv.add {sig given : CT} {cells : ET} {done : List Str} {dds : List Dd} {met used : List Str} (h : PInv sig given cells done dds met used) {x : Str} {b : B} (hb : Gen (sigOf sig x).1 given cells (sigOf sig x).2 4 b) :
  PInv sig given cells (done ++ [x]) (dds ++ [⟨x, (sigOf sig x).1, (sigOf sig x).2, b⟩]) (met ++ b.called) (used ++ b.uses) := by
 have s40 := size40 hb.2.1
 refine ⟨by rw [List.map_append, h.names]; rfl, fun d hd => ?_, fun d hd y hy => ?_, fun d hd y hy => ?_, ?_, ?_⟩
 ·rcases List.mem_append.mp hd with e | e
  ·exact h.each d e
  ·rw [List.mem_singleton.mp e]
   exact ⟨rfl, rfl, hb⟩
 ·rcases List.mem_append.mp hd with e | e
  ·exact List.mem_append_left _ (h.m d e y hy)
  ·rw [List.mem_singleton.mp e] at hy
   exact List.mem_append_right _ hy
 ·rcases List.mem_append.mp hd with e | e
  ·exact List.mem_append_left _ (h.u d e y hy)
  ·rw [List.mem_singleton.mp e] at hy
   exact List.mem_append_right _ hy
 ·have := called_len b
  have := h.ml
  rw [List.length_append, List.length_append, List.length_singleton]; omega
 ·have := uses_len b
  have := h.ul
  rw [List.length_append, List.length_append, List.length_singleton]; omega
theorem firstWrong_none {calls : CT} {cells : ET} : ∀ {r : List Dd}, (∀ d ∈ r, d.body.kind d.takes calls cells = some d.tells) → firstWrong calls cells r = none
 | [], _ => rfl
 | d :: r, h => by
  simp only [firstWrong]
  rw [if_pos (h d List.mem_cons_self)]
  exact firstWrong_none fun x hx => h x (List.mem_cons_of_mem _ hx)
theorem part_good {name : Str} {own others ys ys2 ys3 zs cs met used : List Str} {sig : CT} {cells : ET} {dds : List Dd} (hn : name ∈ partsS) (ho : ∀ x ∈ own, x ∈ deedsS) (ht : ∀ x ∈ others, x ∈ deedsS) (nd : (own ++ others).Nodup) (hs : SigOk sig) (hc : CellOk cells)
  (y1 : ys.Perm own) (y2 : PyProof.Rows.sortedS ys = true) (iv : PInv sig (givenOf sig (own ++ others)) cells ys dds met used)
  (a1 : ys2.Perm others) (a2 : PyProof.Rows.sortedS ys2 = true) (a3 : zs.Sublist ys2) (a4 : ∀ s ∈ ys2, s ∈ met → s ∈ zs)
  (c1 : ys3.Perm (cells.map (·.1))) (c2 : PyProof.Rows.sortedS ys3 = true) (c3 : cs.Sublist ys3) (c4 : ∀ s ∈ ys3, s ∈ used → s ∈ cs) :
  (⟨name, dds, givenOf sig zs, cs.map fun c => (c, celOf cells c)⟩ : Pt).ok ∧ (⟨name, dds, givenOf sig zs, cs.map fun c => (c, celOf cells c)⟩ : Pt).fine := by
 have nd1 := (List.nodup_append.mp nd).1
 have nd2 := (List.nodup_append.mp nd).2.1
 have nd3 := (List.nodup_append.mp nd).2.2
 have l8 : (own ++ others).length ≤ 8 := PT.nodup_le nd (m := deedsS) fun x hx => (List.mem_append.mp hx).elim (ho x) (ht x)
 rw [List.length_append] at l8
 have ny : ys.Nodup := (y1.nodup_iff).mpr nd1
 have ny2 : ys2.Nodup := (a1.nodup_iff).mpr nd2
 have ny3 : ys3.Nodup := (c1.nodup_iff).mpr hc.n
 have ld : dds.length = own.length := by
  have := congrArg List.length iv.names
  rw [List.length_map] at this
  rw [this, y1.length_eq]
 have lz : zs.length ≤ others.length := by
  have := a3.length_le
  rw [a1.length_eq] at this
  exact this
 have lc : cs.length ≤ 4 := by
  have := c3.length_le
  rw [c1.length_eq, List.length_map] at this
  exact Nat.le_trans this hc.len
 have mo : ∀ d ∈ dds, d.name ∈ own := fun d hd => y1.mem_iff.mp (by rw [← iv.names]; exact List.mem_map.mpr ⟨d, hd, rfl⟩)
 have mz : ∀ x ∈ zs, x ∈ others := fun x hx => a1.mem_iff.mp (a3.subset hx)
 have mc : ∀ x ∈ cs, x ∈ cells.map (·.1) := fun x hx => c1.mem_iff.mp (c3.subset hx)
 have ec : (cs.map fun c => (c, celOf cells c)).map (·.1) = cs := by
  rw [List.map_map]
  exact (List.map_congr_left fun _ _ => rfl).trans (List.map_id cs)
 have hp : (⟨name, dds, givenOf sig zs, cs.map fun c => (c, celOf cells c)⟩ : Pt).ok := {
  n := hn
  d8 := by show dds.length ≤ 8; omega
  d := fun d hd => by
   obtain ⟨e1, e2, hb⟩ := iv.each d hd
   have so := hs.of (ho _ (mo d hd))
   have s40 := size40 hb.2.1
   have d4 := hb.2.1
   exact ⟨ho _ (mo d hd), by rw [e1]; exact so.2.1, by rw [e2]; exact so.2.2, hb.1, by omega, by omega⟩
  dup := by
   show (dds.map Dd.name).Pairwise up
   rw [iv.names]
   exact sorted_up y2 ny
  a8 := by show (givenOf sig zs).length ≤ 8; unfold givenOf; rw [List.length_map]; omega
  a := fun a ha => by
   obtain ⟨x, hx, rfl⟩ := List.mem_map.mp ha
   have so := hs.of (ht _ (mz x hx))
   exact ⟨ht _ (mz x hx), so.2.1, so.2.2⟩
  aup := by
   show ((givenOf sig zs).map (·.1)).Pairwise up
   rw [given_names]
   exact (sorted_up a2 ny2).sublist a3
  apart := fun a ha => by
   obtain ⟨x, hx, rfl⟩ := List.mem_map.mp ha
   intro hm
   obtain ⟨d, hd, e⟩ := List.mem_map.mp hm
   exact nd3 _ (mo d hd) _ (mz x hx) e
  c4 := by show (cs.map _).length ≤ 4; rw [List.length_map]; exact lc
  c := fun c hc' => by
   obtain ⟨x, hx, rfl⟩ := List.mem_map.mp hc'
   have so := hc.of (mc x hx)
   exact ⟨so.2.1, so.2.2⟩
  cup := by
   show ((cs.map fun c => (c, celOf cells c)).map (·.1)).Pairwise up
   rw [ec]
   exact (sorted_up c2 ny3).sublist c3 }
 refine ⟨hp, ?_, fun d hd => (iv.each d hd).2.2.2.1⟩
 unfold Pt.wrong
 refine firstWrong_none fun d hd => ?_
 obtain ⟨e1, e2, hb⟩ := iv.each d hd
 have ndc := calls_nodup hp
 refine kind_mono d.body d.tells hb.2.2 (fun x hx v hv => ?_) (fun x hx v hv => ?_)
 ·have hx' : x ∈ own ++ others := by
   have := look_mem hv
   rw [← given_names (sig := sig) (names := own ++ others)]
   exact List.mem_map.mpr ⟨_, this, rfl⟩
  rw [look_given nd hx'] at hv
  cases hv
  refine look_in ?_ ?_
  ·unfold Pt.calls
   rw [List.map_append, List.map_map]
   exact ndc
  ·unfold Pt.calls
   rcases List.mem_append.mp hx' with h | h
   ·have : x ∈ dds.map Dd.name := by rw [iv.names]; exact y1.mem_iff.mpr h
    obtain ⟨d', hd', e⟩ := List.mem_map.mp this
    obtain ⟨f1, f2, _⟩ := iv.each d' hd'
    refine List.mem_append_left _ (List.mem_map.mpr ⟨d', hd', ?_⟩)
    rw [f1, f2, e]
   ·exact List.mem_append_right _ (List.mem_map.mpr ⟨x, a4 x (a1.mem_iff.mpr h) (iv.m d hd x hx), rfl⟩)
 ·have hm := look_mem hv
  have hx' : x ∈ cells.map (·.1) := List.mem_map.mpr ⟨_, hm, rfl⟩
  rw [(hc.of hx').1] at hv
  cases hv
  refine look_in ?_ ?_
  ·show ((cs.map fun c => (c, celOf cells c)).map (·.1)).Nodup
   rw [ec]
   exact ny3.sublist c3
  ·exact List.mem_map.mpr ⟨x, c4 x (c1.mem_iff.mpr hx') (iv.u d hd x hx), rfl⟩
end Pr
set_option Elab.async false
set_option linter.all false
set_option maxRecDepth 100000
set_option maxHeartbeats 2000000
namespace Pr
open PySem L2 PD
variable [Tabs]
section
variable {P : Program} {w : World} {K : PySem.W.Frag} {mg : Str → Option Value} {base : Heap}
def M_lpart (ah : Addr) : List D → (D → Prop) → Prop := fun ds k => ∃ (name : Str) (own others : List Str) (sig : CT) (cells : ET), ds = [.adr ah, .str name, .lst (strsOf own), .lst (strsOf others), ctD sig, etD cells] ∧ name ∈ partsS ∧ (∀ x ∈ own, x ∈ deedsS) ∧ (∀ x ∈ others, x ∈ deedsS) ∧ (own ++ others).Nodup ∧
 SigOk sig ∧ CellOk cells ∧ ∀ p : Pt, p.ok → p.fine → p.name = name → k p.toF
theorem m_gens {ah : Addr} {takes : Str} {calls : CT} {cells : ET} {kind : Str} {i : Int} {k : D → Prop} (h0 : 1 ≤ i) (h3 : i ≤ 3) (hg : EnvG takes calls cells) (hk : kind ∈ kindsS) (h : ∀ b : B, Gen takes calls cells kind 4 b → k b.toD) : M_gens ah [.adr ah, eD takes calls cells, .str kind, .int i] k := by
 have : i = 1 ∨ i = 2 ∨ i = 3 := by omega
 rcases this with rfl | rfl | rfl
 ·exact .inl (m_gen rfl hg hk fun b hb => h b (hb.up (by omega)))
 ·exact .inr (.inl (m_gen rfl hg hk fun b hb => h b (hb.up (by omega))))
 ·exact .inr (.inr (m_gen rfl hg hk h))
theorem ok_lpart {ah as : Addr} (F : DefT K mg "_law_part" s_law_part) (zd : mg "dict" = none) (zs : mg "sorted" = none) (zt : mg "tuple" = none) (C_law_next : Cal P w K mg base 1 "_law_next" ["_law_h", "_law_many_here"] (some (ah, as)) (M_next ah))
  (C_law_body : Cal P w K mg base 9 "_law_body" ["_law_h", "_law_e", "_law_kind_here", "_law_deep_here"] (some (ah, as)) (M_gens ah)) (C_law_calls : Cal P w K mg base 5 "_law_calls" ["_law_body_here"] none (M_lcalls 4)) (C_law_used : Cal P w K mg base 5 "_law_used" ["_law_body_here"] none (M_used 4)) :
  Cal P w K mg base 10 "_law_part" ["_law_h", "_law_name", "_law_own", "_law_others", "_law_sig", "_law_cells"] (some (ah, as)) (M_lpart ah) := by
 refine okF F sc_law_part (fun _ _ _ _ _ _ us hl => match us, hl with | [_, _, _, _, _, _], _ => rfl) (fun ds k h => ?_) (fun f cdv A outer s H E ds kk hr h => ?_)
 ·obtain ⟨_, _, _, _, _, rfl, _⟩ := h
  rfl
 obtain ⟨name, own, others, sig, cells, rfl, hn, ho, ht, nd, hs, hc, q⟩ := h
 have hu := hu_of hr
 have l8 : (own ++ others).length ≤ 8 := PT.nodup_le nd (m := deedsS) fun x hx => (List.mem_append.mp hx).elim (ho x) (ht x)
 rw [List.length_append] at l8
 refine ⟨_, (pss_cons (ps_set (i := 6) sc_law_part.nd rfl (by first | exact Or.inl rfl | exact Or.inr rfl) (pe_lst pa_nil))
   (pss_cons (ps_set (i := 7) sc_law_part.nd rfl (by first | exact Or.inl rfl | exact Or.inr rfl) (pe_lst pa_nil))
   (pss_cons (ps_set (i := 8) sc_law_part.nd rfl (by first | exact Or.inl rfl | exact Or.inr rfl) (pe_lst pa_nil))
   (pss_cons (ps_set (i := 9) sc_law_part.nd rfl (by first | exact Or.inl rfl | exact Or.inr rfl) (pe_frz (pe_callTy (r := PD.rDictL K) (T := "dict")  (call_dictP rfl) (by rfl) zd (by decide +kernel) (pa_cons (pe_lc (own := [("_law_deed", 10)]) (g := gName 10) (tt := tYes) rfl sc_law_part.nd (pi_list (pe_op op_cat (pv 2) (pv 3))) (blkOk_by (own := [("_law_deed", 10)]) (N := N_law_part) (sc := defScope s_law_part) (by decide +kernel)) (fun _ _ _ _ _ => (pg_name (i := 10) sc_law_part.nd rfl (by first | exact Or.inl rfl | exact Or.inr rfl))) (fun _ _ _ _ _ => pts_nil) (fun _ _ _ _ _ => (pe_tup (pa_cons (pv 10) (pa_cons (pe_dget hu (pv 4) (pv 10) (fun _ _ => rfl)) pa_nil))))) pa_nil))))
   (pss_cons (ps_for PassesOwn.never rfl (pi_list (pe_callB (r := rSortedS K) (id := "sorted") cr_sortedS (by rfl) zs (by decide +kernel) (pa_cons (pv 2) pa_nil))) (pg_name (i := 10) sc_law_part.nd rfl (by first | exact Or.inl rfl | exact Or.inr rfl)) (pss_cons (ps_set (i := 11) sc_law_part.nd rfl (by first | exact Or.inl rfl | exact Or.inr rfl) (pe_frz (pe_disp (pps_cons pe_str (pe_ix (r := rIx K) ix_seq (pe_dget hu (pv 4) (pv 10) (fun _ _ => rfl)) pe_int (fun _ _ => rfl)) (pps_cons pe_str (pv 9) (pps_cons pe_str (pv 5) pps_nil))) (by rfl) (by rfl) (fun z => by cases z) (by decide))))
   (pss_cons (ps_set (i := 12) sc_law_part.nd rfl (by first | exact Or.inl rfl | exact Or.inr rfl) (pe_calK (K := K) rfl C_law_body (hr.mono (by first | decide | omega)) rfl (pa_cons (pv 0) (pa_cons (pv 11) (pa_cons (pe_ix (r := rIx K) ix_seq (pe_dget hu (pv 4) (pv 10) (fun _ _ => rfl)) pe_int (fun _ _ => rfl)) (pa_cons (pe_op op_add pe_int (pe_calK (K := K) rfl C_law_next (hr.mono (by first | decide | omega)) rfl (pa_cons (pv 0) (pa_cons pe_int pa_nil)))) pa_nil))))))
   (pss_cons (ps_expr (pe_bm PySem.F.plainAttrs_list PySem.F.slot_list_append PySem.F.type_list_append mt_append (pv 6) (pa_cons (pe_op (r := rCatA K) op_catA (pe_op (r := rCatA K) op_catA (pe_tup (pa_cons (pv 10) pa_nil)) (pe_dget hu (pv 4) (pv 10) (fun _ _ => rfl))) (pe_tup (pa_cons (pv 12) pa_nil))) pa_nil)))
   (pss_cons (ps_set (i := 7) sc_law_part.nd rfl (by first | exact Or.inl rfl | exact Or.inr rfl) (pe_op op_cat (pv 7) (pe_calK (K := K) rfl C_law_calls (hr.mono (by first | decide | omega)) rfl (pa_cons (pv 12) pa_nil))))
   (pss_one (ps_set (i := 8) sc_law_part.nd rfl (by first | exact Or.inl rfl | exact Or.inr rfl) (pe_op op_cat (pv 8) (pe_calK (K := K) rfl C_law_used (hr.mono (by first | decide | omega)) rfl (pa_cons (pv 12) pa_nil))))))))))
   (pss_cons (ps_setLc (i := 13) (own := [("_law_deed", 10)]) (g := gName 10) rfl sc_law_part.nd rfl rfl (sw_true rfl rfl rfl (by decide +kernel)) (pi_list (pe_callB (r := rSortedS K) (id := "sorted") cr_sortedS (by rfl) zs (by decide +kernel) (pa_cons (pv 3) pa_nil))) (blkOk_by (own := [("_law_deed", 10)]) (N := N_law_part) (sc := defScope s_law_part) (by decide +kernel)) (fun _ _ _ _ _ => (pg_name (i := 10) sc_law_part.nd rfl (by first | exact Or.inl rfl | exact Or.inr rfl))) (fun _ _ _ _ _ => (pts_one (PW.pt (pw_or (pt_cmpR (r := rIn K false) op_in_seq (pv 10) (pv 7) rfl) (pw_or1 (pt_cmpR op_eq (pe_calK (K := K) rfl C_law_next (hr.mono (by first | decide | omega)) rfl (pa_cons (pv 0) (pa_cons pe_int pa_nil))) pe_int (nomark _))))))) (fun _ _ _ _ _ => (pe_op (r := rCatA K) op_catA (pe_tup (pa_cons (pv 10) pa_nil)) (pe_dget hu (pv 4) (pv 10) (fun _ _ => rfl)))))
   (pss_cons (ps_setLc (i := 14) (own := [("_law_cell", 15)]) (g := gName 15) rfl sc_law_part.nd rfl rfl (sw_true rfl rfl rfl (by decide +kernel)) (pi_list (pe_callB (r := rSortD) (id := "sorted") (call_sortedD rfl) (by rfl) zs (by decide +kernel) (pa_cons (pv 5) pa_nil))) (blkOk_by (own := [("_law_cell", 15)]) (N := N_law_part) (sc := defScope s_law_part) (by decide +kernel)) (fun _ _ _ _ _ => (pg_name (i := 15) sc_law_part.nd rfl (by first | exact Or.inl rfl | exact Or.inr rfl))) (fun _ _ _ _ _ => (pts_one (PW.pt (pw_or (pt_cmpR (r := rIn K false) op_in_seq (pv 15) (pv 8) rfl) (pw_or1 (pt_cmpR op_eq (pe_calK (K := K) rfl C_law_next (hr.mono (by first | decide | omega)) rfl (pa_cons (pv 0) (pa_cons pe_int pa_nil))) pe_int (nomark _))))))) (fun _ _ _ _ _ => (pe_tup (pa_cons (pv 15) (pa_cons (pe_dget hu (pv 5) (pv 15) (fun _ _ => rfl)) pa_nil)))))
   (pss_one (ps_ret (pe_tup (pa_cons (pv 1) (pa_cons (pe_callTy (r := rTupQ K) (T := "tuple")  call_tuple_of (by rfl) zt (by decide +kernel) (pa_cons (pv 6) pa_nil)) (pa_cons (pe_callTy (r := rTupQ K) (T := "tuple")  call_tuple_of (by rfl) zt (by decide +kernel) (pa_cons (pv 13) pa_nil)) (pa_cons (pe_callTy (r := PD.rTupF K) (T := "tuple")  PD.cr_tupF (by rfl) zt (by decide +kernel) (pa_cons (pv 14) pa_nil)) pa_nil)))))))))))))), ?_⟩
 try dsimp only [cxOf]
 change dS _ _ _ [Sl.d _, Sl.d _, Sl.d _, Sl.d _, Sl.d _, Sl.d _, Sl.un, Sl.un, Sl.un, Sl.un, Sl.un, Sl.un, Sl.un, Sl.un, Sl.un, Sl.un] _
 have hsig : ∀ x ∈ deedsS, lookD (sig.map fun p => (p.1, D.tup [.str p.2.1, .str p.2.2])) x = some (.tup [.str (sigOf sig x).1, .str (sigOf sig x).2]) := fun x hx => by
  rw [look_map (fun p : Str × Str => D.tup [.str p.1, .str p.2]), (hs.of hx).1]
  rfl
 have hcel : ∀ x ∈ cells.map (·.1), lookD (cells.map fun p => (p.1, D.str p.2)) x = some (.str (celOf cells x)) := fun x hx => by
  rw [look_map D.str, (hc.of hx).1]
  rfl
 have mem : ∀ x ∈ own ++ others, x ∈ deedsS := fun x hx => (List.mem_append.mp hx).elim (ho x) (ht x)
 have hg : ∀ x ∈ own, EnvG (sigOf sig x).1 (givenOf sig (own ++ others)) cells := fun x hx => {
  t := (hs.of (ho x hx)).2.1
  c := fun p hp => by
   obtain ⟨y, hy, rfl⟩ := List.mem_map.mp hp
   exact (hs.of (mem y hy)).2
  e := fun p hp => (hc.c p hp).2
  cn := fun p hp => by
   obtain ⟨y, hy, rfl⟩ := List.mem_map.mp hp
   exact mem y hy
  en := fun p hp => (hc.c p hp).1
  clen := by unfold givenOf; rw [List.length_map, List.length_append]; exact l8
  elen := hc.len
  cnd := by rw [given_names]; exact nd
  ecd := hc.n }
 refine s_seq (s_own (l_lst (d_nil ⟨by simp, ?_⟩)))
 refine s_seq (s_set (d_lst (d_nil ⟨by simp, ?_⟩)))
 refine s_seq (s_set (d_lst (d_nil ⟨by simp, ?_⟩)))
 refine s_seq (s_set (d_dictL (d_lc (i_list (d_ofL (l_cat (d_var rfl (d_var rfl ⟨_, _, rfl, rfl, (by simp only [strsOf, List.length_map]; omega), ⟨_, rfl, (by simp only [strsOf, List.length_append, List.length_map]; omega), ?_⟩⟩))))))))
 refine lcW_fun (P := fun d => ∃ x ∈ deedsS, d = .str x) (p := fun _ => true) (f := fun d => match d with | .str x => .tup [.str x, .tup [.str (sigOf sig x).1, .str (sigOf sig x).2]] | _ => .non) (fun d hd kx hk => g_nameV (by decide) (hk _ (fun kb q => d_yes q) (fun _ k q => ?_))) _ [] ?_ ?_
 ·obtain ⟨x, hx, rfl⟩ := hd
  exact d_tup (d_cons (d_var rfl (d_cons (d_dget (d_var rfl (d_var rfl ⟨_, _, _, rfl, rfl, hsig x hx, d_nil ⟨by simp, q⟩⟩))))))
 ·intro d hd
  rw [show strsOf own ++ strsOf others = strsOf (own ++ others) by simp [strsOf]] at hd
  obtain ⟨x, hx, rfl⟩ := List.mem_map.mp hd
  exact ⟨x, mem x hx, rfl⟩
 have ef : (strsOf own ++ strsOf others).filter (fun _ => true) = strsOf own ++ strsOf others := List.filter_eq_self.mpr fun _ _ => rfl
 rw [List.nil_append, ef]
 have e : (strsOf own ++ strsOf others).map (fun d => match d with | .str x => D.tup [.str x, .tup [.str (sigOf sig x).1, .str (sigOf sig x).2]] | _ => .non) = ((givenOf sig (own ++ others)).map fun q => (q.1, D.tup [.str q.2.1, .str q.2.2])).map PD.prD := by
  unfold givenOf strsOf
  rw [← List.map_append, List.map_map, List.map_map, List.map_map]
  rfl
 rw [e]
 refine ⟨_, rfl, ?_⟩
 have ndg : ((([] : List (Str × D)) ++ (givenOf sig (own ++ others)).map fun q => (q.1, D.tup [.str q.2.1, .str q.2.2])).map (·.1)).Nodup := by
  rw [List.nil_append, List.map_map]
  have := nd
  rw [← given_names (sig := sig) (names := own ++ others)] at this
  exact this
 rw [mergeD_new ndg, List.nil_append]
 let I : List Str → List Sl → Prop := fun done ρ' => ∃ (dds : List Dd) (met used : List Str) (s10 s11 s12 : Sl), PInv sig (givenOf sig (own ++ others)) cells done dds met used ∧
  ρ' = [.d (.adr ah), .d (.str name), .d (.lst (strsOf own)), .d (.lst (strsOf others)), .d (ctD sig), .d (etD cells), .own (dds.map Dd.toD), .d (.lst (strsOf met)), .d (.lst (strsOf used)), .d (ctD (givenOf sig (own ++ others))), s10, s11, s12, .un, .un, .un]
 refine s_cut (I := fun ρ' => ∃ ys : List Str, ys.Perm own ∧ PyProof.Rows.sortedS ys = true ∧ I ys ρ') (s_for (i_list (d_ofL (l_sortedL (d_var rfl ⟨own, rfl, by omega, fun ys y1 y2 => ⟨_, rfl, ?_⟩⟩))))) ?_
 ·have loop : ∀ (r done : List Str) (ρ : List Sl), ys = done ++ r → I done ρ → forW K (some (ah, as)) (gName 10) (tSeq (tAsg (tFrz (tDisp [(tC (V.str "takes"), tOp (rIx K) (tDGet (tVar 4) (tVar 10)) (tC (V.int 0))), (tC (V.str "deeds"), tVar 9), (tC (V.str "cells"), tVar 5)])) (gName 11)) (tSeq (tAsg (tCall (spD K (some (ah, as)) (M_gens ah)) [] E0 (tCons (tVar 0) (tCons (tVar 11) (tCons (tOp (rIx K) (tDGet (tVar 4) (tVar 10)) (tC (V.int 1))) (tCons (tOp (rI0 fun i j => .int (i + j)) (tC (V.int 1)) (tCall (spD K (some (ah, as)) (M_next ah)) [] E0 (tCons (tVar 0) (tCons (tC (V.int 3)) tNil)))) tNil))))) (gName 12))
     (tSeq (tDrop (tBM K "list" rAppend (tVar 6) (tCons (tOp (rCatA K) (tOp (rCatA K) (tTup (tCons (tVar 10) tNil)) (tDGet (tVar 4) (tVar 10))) (tTup (tCons (tVar 12) tNil))) tNil))) (tSeq (tAsg (tOp rCat (tVar 7) (tCall (spD K none (M_lcalls 4)) [] E0 (tCons (tVar 12) tNil))) (gName 7)) (tAsg (tOp rCat (tVar 8) (tCall (spD K none (M_used 4)) [] E0 (tCons (tVar 12) tNil))) (gName 8))))))
     { nx := fun ρ' => ∃ ys : List Str, ys.Perm own ∧ PyProof.Rows.sortedS ys = true ∧ I ys ρ', rt := kk } (strsOf r) ρ := by
   intro r
   induction r with
   | nil =>
    rintro done ρ e hI
    rw [List.append_nil] at e
    subst e
    exact ⟨ys, y1, y2, hI⟩
   | cons x r ih =>
    rintro done ρ e ⟨dds, met, used, s10, s11, s12, iv, rfl⟩
    have hx : x ∈ own := y1.mem_iff.mp (by rw [e]; simp)
    have hxd := ho x hx
    have lk := hsig x hxd
    have so := hs.of hxd
    have ll : dds.length ≤ 8 := by
     have h1 := congrArg List.length iv.names
     have h2 := congrArg List.length e
     have h3 := y1.length_eq
     rw [List.length_map] at h1
     rw [List.length_append] at h2
     omega
    have m1 := iv.ml
    have m2 := iv.ul
    refine forW_cons (g_name ?_)
    refine s_seq (s_set (d_disp ?_))
    refine dP_cons (d_c rfl ⟨_, rfl, d_op (d_dget (d_var rfl (d_var rfl ⟨_, _, _, rfl, rfl, lk, d_c rfl (r_ix (.inr (r_ixT (show atI _ ((0 : Nat) : Int) = _ from atI_nat rfl) ?_)))⟩)))⟩)
    refine dP_cons (d_c rfl ⟨_, rfl, d_var rfl (dP_cons (d_c rfl ⟨_, rfl, d_var rfl (dP_nil ⟨by simp, ?_⟩)⟩))⟩)
    refine s_seq (s_set (d_call ?_))
    refine d_cons (d_var rfl (d_cons (d_var rfl (d_cons ?_))))
    refine d_op (d_dget (d_var rfl (d_var rfl ⟨_, _, _, rfl, rfl, lk, d_c rfl ?_⟩)))
    refine r_ix (.inr (r_ixT (show atI _ ((1 : Nat) : Int) = _ from atI_nat rfl) ?_))
    refine d_cons (d_op (d_c rfl ?_))
    refine d_next rfl (by decide) (by decide) fun r3 r0 r1 => r_I0 rfl (d_nil ?_)
    refine (show M_gens ah [.adr ah, eD (sigOf sig x).1 (givenOf sig (own ++ others)) cells, .str (sigOf sig x).2, .int (1 + r3)] _ from m_gens (by omega) (by omega) (hg x hx) so.2.2 fun b hb => ?_)
    have s40 := size40 hb.2.1
    have c40 := called_len b
    have u40 := uses_len b
    refine s_seq (s_app (i := 6) rfl (by rw [List.length_map]; omega) ?_)
    refine d_op (d_op (d_tup (d_cons (d_var rfl (d_nil ⟨by simp, ?_⟩)))))
    refine d_dget (d_var rfl (d_var rfl ⟨_, _, _, rfl, rfl, lk, r_catA (by simp) ?_⟩))
    refine d_tup (d_cons (d_var rfl (d_nil ⟨by simp, r_catA (by simp) ?_⟩)))
    refine s_seq (s_set (d_ofL (l_cat (d_var rfl ?_))))
    refine d_callP (d_cons (d_var rfl (d_nil (m_lcalls hb.1 hb.2.1 (by omega) ⟨_, _, rfl, rfl, (by simp only [strsOf, List.length_map]; omega), ?_⟩))))
    refine s_set (d_ofL (l_cat (d_var rfl ?_)))
    refine d_callP (d_cons (d_var rfl (d_nil (m_used hb.1 hb.2.1 (by omega) ⟨_, _, rfl, rfl, (by simp only [strsOf, List.length_map]; omega), ?_⟩))))
    have e1 : strsOf (met ++ b.called) = strsOf met ++ strsOf b.called := by simp [strsOf]
    have e2 : strsOf (used ++ b.uses) = strsOf used ++ strsOf b.uses := by simp [strsOf]
    have e3 : (dds ++ [(⟨x, (sigOf sig x).1, (sigOf sig x).2, b⟩ : Dd)]).map Dd.toD = dds.map Dd.toD ++ [Dd.toD ⟨x, (sigOf sig x).1, (sigOf sig x).2, b⟩] := by simp
    refine ih (done ++ [x]) _ (by rw [e]; simp) ⟨dds ++ [⟨x, (sigOf sig x).1, (sigOf sig x).2, b⟩], met ++ b.called, used ++ b.uses, .d (.str x), .d (eD (sigOf sig x).1 (givenOf sig (own ++ others)) cells), .d b.toD, iv.add hb, ?_⟩
    rw [e1, e2, e3]
    rfl
  exact loop ys [] _ rfl ⟨[], [], [], _, _, _, ⟨rfl, fun d hd => (by cases hd), fun d hd => (by cases hd), fun d hd => (by cases hd), by simp, by simp⟩, rfl⟩
 rintro ρ' ⟨ys, y1, y2, dds, met, used, s10, s11, s12, iv, rfl⟩
 refine s_seq (s_setL (i_list (d_ofL (l_sortedL (d_var rfl ⟨others, rfl, by omega, fun ys2 a1 a2 => ⟨_, rfl, (by simp only [strsOf, List.length_map]; rw [a1.length_eq]; omega), ?_⟩⟩)))))
 refine lcW_dem (fun s => decide (s ∈ met)) (fun x => D.tup [.str x, .str (sigOf sig x).1, .str (sigOf sig x).2]) (fun x => x ∈ deedsS) (fun x hx kx hk => g_nameV (by decide) (hk _ (fun kb h1 h2 => ?_) (fun k qk => ?_))) ys2 [] (fun x hx => ht x (a1.mem_iff.mp hx)) fun zs a3 a4 => ?_
 ·refine d_or (d_test (d_op (d_var rfl (d_var rfl (r_in2 ⟨_, rfl, fun e => h1, fun e => ?_⟩)))))
  refine d_test (d_op (d_next rfl (by decide) (by decide) fun r r0 r1 => d_c rfl (r_eqI ⟨_, rfl, ?_⟩)))
  by_cases er : r = 0
  ·rw [decide_eq_true er]; exact h1
  ·rw [decide_eq_false er]; exact h2 e
 ·exact d_op (d_tup (d_cons (d_var rfl (d_nil ⟨by simp, d_dget (d_var rfl (d_var rfl ⟨_, _, _, rfl, rfl, hsig x hx, r_catA (by simp) qk⟩))⟩))))
 refine s_seq (s_setL (i_list (d_ofL (l_sortedD (d_var rfl ⟨_, rfl, (by rw [List.length_map]; have := hc.len; omega), fun ys3 c1 c2 => ⟨_, rfl, (by simp only [strsOf, List.length_map]; rw [c1.length_eq, List.length_map, List.length_map]; have := hc.len; omega), ?_⟩⟩)))))
 have c1' : ys3.Perm (cells.map (·.1)) := by
  rw [List.map_map] at c1
  exact c1
 refine lcW_dem (fun s => decide (s ∈ used)) (fun x => D.tup [.str x, .str (celOf cells x)]) (fun x => x ∈ cells.map (·.1)) (fun x hx kx hk => g_nameV (by decide) (hk _ (fun kb h1 h2 => ?_) (fun k qk => ?_))) ys3 [] (fun x hx => c1'.mem_iff.mp hx) fun cs c3 c4 => ?_
 ·refine d_or (d_test (d_op (d_var rfl (d_var rfl (r_in2 ⟨_, rfl, fun e => h1, fun e => ?_⟩)))))
  refine d_test (d_op (d_next rfl (by decide) (by decide) fun r r0 r1 => d_c rfl (r_eqI ⟨_, rfl, ?_⟩)))
  by_cases er : r = 0
  ·rw [decide_eq_true er]; exact h1
  ·rw [decide_eq_false er]; exact h2 e
 ·exact d_tup (d_cons (d_var rfl (d_cons (d_dget (d_var rfl (d_var rfl ⟨_, _, _, rfl, rfl, hcel x hx, d_nil ⟨by simp, qk⟩⟩))))))
 have pg := part_good hn ho ht nd hs hc y1 y2 iv a1 a2 a3 (fun s h1 h2 => a4 s h1 (decide_eq_true h2)) c1' c2 c3 (fun s h1 h2 => c4 s h1 (decide_eq_true h2))
 refine s_keep (i := 6) rfl (s_ret (d_tup (d_cons (d_var rfl (d_cons (d_cb (d_cons (d_var rfl (d_nil (c_tuple (.inl rfl) ?_))))))))))
 refine d_cons (d_cb (d_cons (d_var rfl (d_nil (c_tuple (.inl rfl) (d_cons (d_tupF (d_var rfl ⟨_, rfl, d_nil ⟨by simp, ?_⟩⟩))))))))
 have fin := q _ pg.1 pg.2 rfl
 unfold Pt.toF givenOf at fin
 simp only [List.map_map] at fin
 exact fin
end
end Pr
set_option Elab.async false
set_option linter.all false
set_option maxRecDepth 100000
set_option maxHeartbeats 2000000
namespace Pr
open PySem L2 PD
variable [Tabs]
abbrev s_law_shelf : Stmt := top 66
abbrev N_law_shelf : List Str := ["_law_h", "_law_kinds", "_law_sig", "_law_deed", "_law_cells", "_law_cell", "_law_many_here", "_law_owners", "_law_k", "_law_turn", "_law_every", "_law_own", "_law_found", "_law_others"]
theorem sc_law_shelf : FnScope N_law_shelf ["_law_h"] (defScope s_law_shelf) := ⟨rfl, rfl, rfl, by decide +kernel, rfl, by decide +kernel, by decide +kernel⟩
section
variable {K : PySem.W.Frag} {hs : Option (Addr × Addr)} {ρ : List Sl} {te : TE} {tt : TT} {g : TG} {k : D → Prop}
theorem lcW_draw {α : Type} {js : List Nat} {kl : List D → Prop} (Q : α → Prop) (f : Str → α → D) (P : Str → Prop) (h : ∀ s, P s → ∀ kk : List Sl → Prop, (∀ ρ', (∀ kb : Bool → Prop, kb true → dT K hs tt ρ' kb) → (∀ k : D → Prop, (∀ x, Q x → k (f s x)) → dE K hs te ρ' k) → kk ρ') → dG K hs g (some js) (.str s) ρ kk) :
  ∀ (ss : List Str) (acc : List D), (∀ s ∈ ss, P s) → (∀ ps : List (Str × α), ps.map (·.1) = ss → (∀ p ∈ ps, Q p.2) → kl (acc ++ ps.map fun p => f p.1 p.2)) → lcW K hs g js tt te ρ kl (strsOf ss) acc
 | [], acc, _, q => by
  have := q [] rfl (fun s hs => by cases hs)
  show kl acc
  simpa using this
 | s :: r, acc, hp, q => by
  refine h s (hp s List.mem_cons_self) _ fun ρ' h1 h2 => h1 _ ⟨fun _ => h2 _ fun x hx => ?_, fun e => (by cases e)⟩
  refine lcW_draw Q f P h r _ (fun x hx => hp x (List.mem_cons_of_mem _ hx)) fun ps p1 p2 => ?_
  have := q ((s, x) :: ps) (by rw [List.map_cons, p1]) fun p hp => by
   rcases List.mem_cons.mp hp with rfl | hp
   ·exact hx
   ·exact p2 p hp
  rw [List.append_assoc]
  exact this
theorem lcW_may {js : List Nat} {kl : List D → Prop} (ok : Str → Bool) (P : Str → Prop) (h : ∀ s, P s → ∀ kk : List Sl → Prop, (∀ ρ', (∀ kb : Bool → Prop, (ok s = true → kb true) → kb false → dT K hs tt ρ' kb) → (∀ k : D → Prop, k (.str s) → dE K hs te ρ' k) → kk ρ') → dG K hs g (some js) (.str s) ρ kk) :
  ∀ (ss acc : List Str), (∀ s ∈ ss, P s) → (∀ zs : List Str, zs.Sublist ss → (∀ s ∈ zs, ok s = true) → kl (strsOf (acc ++ zs))) → lcW K hs g js tt te ρ kl (strsOf ss) (strsOf acc)
 | [], acc, _, q => by
  have := q [] (List.Sublist.refl _) (fun s hs => by cases hs)
  show kl _
  simpa using this
 | s :: r, acc, hp, q => by
  refine h s (hp s List.mem_cons_self) _ fun ρ' h1 h2 => h1 _ (fun eo => ⟨fun _ => h2 _ ?_, fun e => (by cases e)⟩) ⟨fun e => (by cases e), fun _ => ?_⟩
  ·have e1 : strsOf acc ++ [.str s] = strsOf (acc ++ [s]) := by simp [strsOf]
   rw [e1]
   refine lcW_may ok P h r _ (fun x hx => hp x (List.mem_cons_of_mem _ hx)) fun zs z1 z2 => ?_
   have := q (s :: zs) (z1.cons_cons s) fun x hx => by
    rcases List.mem_cons.mp hx with rfl | hx
    ·exact eo
    ·exact z2 x hx
   rw [List.append_assoc]
   exact this
  ·exact lcW_may ok P h r _ (fun x hx => hp x (List.mem_cons_of_mem _ hx)) fun zs z1 z2 => q zs (z1.cons s) z2
theorem d_slS {tl th : TO} (h : dE K hs te ρ fun x => dO K hs tl ρ fun l => dO K hs th ρ fun u => ∃ z, x = .str z ∧ z.length ≤ 100000 ∧ k (.str (cutS z l u))) : dE K hs (tSl rSlS te tl th) ρ k := fun H0 σ G H Q f R z =>
 h H0 σ G H _ f R fun v G1 H1 x s1 r1 h1 => h1 H0 σ G1 H1 _ s1.fr (R.step s1) fun l G2 H2 s2 h2 => h2 H0 σ G2 H2 _ s2.fr (R.step (s1.trans s2)) fun hi G3 H3 s3 ⟨y, e, hl, q⟩ => by
  subst e
  exact ⟨y, rel_str r1, sz hl, z _ G3 H3 _ ((s1.trans s2).trans s3) .str q⟩
theorem abc : (("abcdefgh" : Str).cps.toList.map sgn) = strsOf deedsS := by
 have e : (("abcdefgh" : Str).cps.toList.map fun c => (⟨#[c]⟩ : Str)) = deedsS := by decide +kernel
 unfold strsOf
 rw [← e, List.map_map]
 rfl
theorem pqrs : (("pqrs" : Str).cps.toList.map sgn) = strsOf cellsS := by
 have e : (("pqrs" : Str).cps.toList.map fun c => (⟨#[c]⟩ : Str)) = cellsS := by decide +kernel
 unfold strsOf
 rw [← e, List.map_map]
 rfl
theorem abc_in {lo hi : Option Int} : ∀ d ∈ (cutS ("abcdefgh" : Str) lo hi).cps.toList.map sgn, ∃ s ∈ deedsS, d = .str s := fun d hd => by
 obtain ⟨c, hc, rfl⟩ := List.mem_map.mp hd
 have hc' : c ∈ ("abcdefgh" : Str).cps.toList := by
  unfold cutS at hc
  exact List.mem_of_mem_drop (List.mem_of_mem_take (by simpa using hc))
 have : sgn c ∈ strsOf deedsS := by
  rw [← abc]
  exact List.mem_map.mpr ⟨c, hc', rfl⟩
 obtain ⟨s, hs, e⟩ := List.mem_map.mp this
 exact ⟨s, hs, e.symm⟩
theorem d_kind {ah : Addr} {X : XK} {i j : Nat} (e1 : ρ[i]? = some (.d (.lst (strsOf kindsS)))) (e2 : ρ[j]? = some (.d (.adr ah))) (q : ∀ o ∈ kindsS, k (.str o)) :
  dE K hs (tOp (rIx K) (tVar i) (tCall (spD K hs (M_next ah)) [] X (tCons (tVar j) (tCons (tC (.int 3)) tNil)))) ρ k :=
 d_op (d_var e1 (d_next e2 (by decide) (by decide) fun r r0 r1 => r_pick r0 (by simpa [strsOf, kindsS] using r1) fun d hd => by
  obtain ⟨o, ho, rfl⟩ := List.mem_map.mp hd
  exact q o ho))
theorem sig_ok {ps : List (Str × (Str × Str))} (h : ps.map (·.1) = deedsS) (hk : ∀ p ∈ ps, p.2.1 ∈ kindsS ∧ p.2.2 ∈ kindsS) : SigOk ps := ⟨fun x hx => by
 rw [← h] at hx
 obtain ⟨p, hp, rfl⟩ := List.mem_map.mp hx
 have nd : (ps.map (·.1)).Nodup := by rw [h]; decide
 exact ⟨p.2.1, p.2.2, look_in nd hp, hk p hp⟩⟩
theorem cel_ok {ps : List (Str × Str)} (h : ps.map (·.1) = cellsS) (hk : ∀ p ∈ ps, p.2 ∈ kindsS) : CellOk ps := ⟨by rw [h]; decide, fun p hp => ⟨by rw [← h]; exact List.mem_map.mpr ⟨p, hp, rfl⟩, hk p hp⟩, by
 have := congrArg List.length h
 rw [List.length_map] at this
 rw [this]; decide⟩
theorem d_sigs {ah : Addr} {X : XK} {i j l : Nat} {js : List Nat} (hj : l ∈ js) (e1 : (wipeR ρ js)[i]? = some (.d (.lst (strsOf kindsS)))) (e2 : (wipeR ρ js)[j]? = some (.d (.adr ah))) (hl : l < (wipeR ρ js).length) (n1 : l ≠ i) (n2 : l ≠ j) (q : ∀ sig : CT, SigOk sig → k (ctD sig)) :
  dE K hs (tFrz (tCB (rDictL K) (tCons (tLc (iStr (tC (.str "abcdefgh"))) (gName l) tYes (tTup (tCons (tVar l) (tCons (tTup (tCons (tOp (rIx K) (tVar i) (tCall (spD K hs (M_next ah)) [] X (tCons (tVar j) (tCons (tC (.int 3)) tNil)))) (tCons (tOp (rIx K) (tVar i) (tCall (spD K hs (M_next ah)) [] X (tCons (tVar j) (tCons (tC (.int 3)) tNil)))) tNil))) tNil))) js) tNil))) ρ k := by
 refine d_dictL (d_lc (i_str (d_c rfl ⟨_, rfl, by decide, ?_⟩)))
 rw [abc]
 refine lcW_draw (α := Str × Str) (fun p => p.1 ∈ kindsS ∧ p.2 ∈ kindsS) (fun s p => D.tup [.str s, .tup [.str p.1, .str p.2]]) (fun _ => True) (fun s _ kk hk => g_nameV hj (hk _ (fun kb h => d_yes h) fun k qk => ?_)) deedsS [] (fun _ _ => trivial) fun ps p1 p2 => ?_
 ·have a1 : ((wipeR ρ js).set l (.d (.str s)))[i]? = some (.d (.lst (strsOf kindsS))) := by rw [List.getElem?_set_ne n1]; exact e1
  have a2 : ((wipeR ρ js).set l (.d (.str s)))[j]? = some (.d (.adr ah)) := by rw [List.getElem?_set_ne n2]; exact e2
  exact d_tup (d_cons (d_var (get_set hl) (d_cons (d_tup (d_cons (d_kind a1 a2 fun o1 h1 => d_cons (d_kind a1 a2 fun o2 h2 => d_nil ⟨by simp, d_nil ⟨by simp, qk (o1, o2) ⟨h1, h2⟩⟩⟩)))))))
 ·refine ⟨ps.map fun p => (p.1, D.tup [.str p.2.1, .str p.2.2]), by rw [List.map_map]; rfl, ?_⟩
  rw [mergeD_new (by rw [List.nil_append, List.map_map]; show (ps.map (·.1)).Nodup; rw [p1]; decide), List.nil_append]
  exact q ps (sig_ok p1 p2)
theorem d_cels {ah : Addr} {X : XK} {i j l : Nat} {js : List Nat} (hj : l ∈ js) (e1 : (wipeR ρ js)[i]? = some (.d (.lst (strsOf kindsS)))) (e2 : (wipeR ρ js)[j]? = some (.d (.adr ah))) (hl : l < (wipeR ρ js).length) (n1 : l ≠ i) (n2 : l ≠ j) (q : ∀ cells : ET, CellOk cells → k (etD cells)) :
  dE K hs (tFrz (tCB (rDictL K) (tCons (tLc (iStr (tC (.str "pqrs"))) (gName l) tYes (tTup (tCons (tVar l) (tCons (tOp (rIx K) (tVar i) (tCall (spD K hs (M_next ah)) [] X (tCons (tVar j) (tCons (tC (.int 3)) tNil)))) tNil))) js) tNil))) ρ k := by
 refine d_dictL (d_lc (i_str (d_c rfl ⟨_, rfl, by decide, ?_⟩)))
 rw [pqrs]
 refine lcW_draw (α := Str) (fun p => p ∈ kindsS) (fun s p => D.tup [.str s, .str p]) (fun _ => True) (fun s _ kk hk => g_nameV hj (hk _ (fun kb h => d_yes h) fun k qk => ?_)) cellsS [] (fun _ _ => trivial) fun ps p1 p2 => ?_
 ·have a1 : ((wipeR ρ js).set l (.d (.str s)))[i]? = some (.d (.lst (strsOf kindsS))) := by rw [List.getElem?_set_ne n1]; exact e1
  have a2 : ((wipeR ρ js).set l (.d (.str s)))[j]? = some (.d (.adr ah)) := by rw [List.getElem?_set_ne n2]; exact e2
  exact d_tup (d_cons (d_var (get_set hl) (d_cons (d_kind a1 a2 fun o1 h1 => d_nil ⟨by simp, qk o1 h1⟩))))
 ·refine ⟨ps.map fun p => (p.1, D.str p.2), by rw [List.map_map]; rfl, ?_⟩
  rw [mergeD_new (by rw [List.nil_append, List.map_map]; show (ps.map (·.1)).Nodup; rw [p1]; decide), List.nil_append]
  exact q ps (cel_ok p1 p2)
end
section
variable {P : Program} {w : World} {K : PySem.W.Frag} {mg : Str → Option Value} {base : Heap}
theorem m_lpart {ah : Addr} {name : Str} {own others : List Str} {sig : CT} {cells : ET} {k : D → Prop} (h1 : name ∈ partsS) (h2 : ∀ x ∈ own, x ∈ deedsS) (h3 : ∀ x ∈ others, x ∈ deedsS) (h4 : (own ++ others).Nodup) (h5 : SigOk sig) (h6 : CellOk cells) (h : ∀ p : Pt, p.ok → p.fine → p.name = name → k p.toF) :
  M_lpart ah [.adr ah, .str name, .lst (strsOf own), .lst (strsOf others), ctD sig, etD cells] k := ⟨name, own, others, sig, cells, rfl, h1, h2, h3, h4, h5, h6, h⟩
end
end Pr
set_option Elab.async false
set_option linter.all false
set_option maxRecDepth 100000
set_option maxHeartbeats 2000000
namespace Pr
open PySem L2 PD
variable [Tabs]
def NotOwn : Sl → Prop
 | .ow _ => False
 | _ => True
theorem flat_of {ρ : List Sl} (h : ∀ s ∈ ρ, NotOwn s) : Flat ρ := fun i ds e => h _ (List.mem_of_getElem? e)
def GoodO (m : Int) (oss : List (List Str)) : Prop := (oss.length : Int) = m ∧ ∀ os ∈ oss, os.Nodup ∧ (∀ x ∈ os, x ∈ deedsS) ∧ os.length ≤ 4
theorem GoodO.put {m : Int} {oss : List (List Str)} (h : GoodO m oss) {k : Nat} {os : List Str} {s : Str} (e : oss[k]? = some os) (hs : s ∈ deedsS) (n : s ∉ os) (l : (os.length : Int) < 4) : GoodO m (oss.set k (os ++ [s])) := by
 refine ⟨by rw [List.length_set]; exact h.1, fun o ho => ?_⟩
 rcases List.mem_or_eq_of_mem_set ho with z | z
 ·exact h.2 o z
 ·subst z
  obtain ⟨h1, h2, h3⟩ := h.2 os (List.mem_of_getElem? e)
  refine ⟨List.nodup_append.mpr ⟨h1, by simp, fun a ha b hb e => ?_⟩, fun x hx => ?_, by simp; omega⟩
  ·rw [List.mem_singleton.mp hb] at e
   exact n (e ▸ ha)
  ·rcases List.mem_append.mp hx with z | z
   ·exact h2 x z
   ·rw [List.mem_singleton.mp z]; exact hs
section
variable {P : Program} {w : World} {K : PySem.W.Frag} {mg : Str → Option Value} {base : Heap}
def M_shelf (ah : Addr) : List D → (D → Prop) → Prop := fun ds k => ds = [.adr ah] ∧ ∀ ps : List Pt, ps.length ≤ 6 → 1 ≤ ps.length → (∀ p ∈ ps, p.ok ∧ p.fine) → ps.map Pt.name = partsS.take ps.length → k (.lst (ps.map Pt.toF))
theorem m_shelf {ah : Addr} {k : D → Prop} (h : ∀ ps : List Pt, ps.length ≤ 6 → 1 ≤ ps.length → (∀ p ∈ ps, p.ok ∧ p.fine) → ps.map Pt.name = partsS.take ps.length → k (.lst (ps.map Pt.toF))) : M_shelf ah [.adr ah] k := ⟨rfl, h⟩
theorem r_pickP {hs : Option (Addr × Addr)} {r : Int} {k : D → Prop} (h0 : 0 ≤ r) (h1 : r < 6) (q : ∀ s ∈ partsS, partsS[r.toNat]? = some s → k (.str s)) : dR K hs rIxS (.str "ABCDEF") (.int r) k := fun G H v u Q f r1 r2 z => by
 have e : (("ABCDEF" : Str).cps.toList.map fun c => (⟨#[c]⟩ : Str)) = partsS := by decide +kernel
 have el : ("ABCDEF" : Str).cps.toList.length = 6 := by decide +kernel
 have hq : r.toNat < ("ABCDEF" : Str).cps.toList.length := by rw [el]; omega
 rw [rel_str r1, rel_int r2]
 refine ⟨_, r, ("ABCDEF" : Str).cps.toList[r.toNat], rfl, rfl, by decide, atI_get (j := r.toNat) (by omega) (List.getElem?_eq_getElem hq), z _ G H _ f.refl .str ?_⟩
 have e2 : partsS[r.toNat]? = some ⟨#[("ABCDEF" : Str).cps.toList[r.toNat]]⟩ := by
  rw [← e, List.getElem?_map, List.getElem?_eq_getElem hq]
  rfl
 exact q _ (List.mem_of_getElem? e2) e2
theorem r_two {hs : Option (Addr × Addr)} {r : Int} {x y : D} {k : D → Prop} (h0 : 0 ≤ r) (h1 : r < 2) (q : k x) (q2 : k y) : dR K hs (rIx K) (.lst [x, y]) (.int r) k := r_pick h0 (by simpa using h1) fun d hd => by
 simp only [List.mem_cons, List.not_mem_nil, or_false] at hd
 rcases hd with rfl | rfl
 ·exact q
 ·exact q2
theorem ok_shelf {ah as : Addr} (F : DefT K mg "_law_shelf" s_law_shelf) (zd : mg "dict" = none) (zr : mg "range" = none) (zn : mg "len" = none) (C_law_next : Cal P w K mg base 1 "_law_next" ["_law_h", "_law_many_here"] (some (ah, as)) (M_next ah))
  (C_law_part : Cal P w K mg base 10 "_law_part" ["_law_h", "_law_name", "_law_own", "_law_others", "_law_sig", "_law_cells"] (some (ah, as)) (M_lpart ah)) : Cal P w K mg base 11 "_law_shelf" ["_law_h"] (some (ah, as)) (M_shelf ah) := by
 refine okF F sc_law_shelf (fun _ _ _ _ _ _ us hl => match us, hl with | [_], _ => rfl) (fun ds k h => ?_) (fun f cdv A outer s H E ds kk hr h => ?_)
 ·obtain ⟨rfl, _⟩ := h
  rfl
 obtain ⟨rfl, q⟩ := h
 have hu := hu_of hr
 refine ⟨_, (pss_cons (ps_set (i := 1) sc_law_shelf.nd rfl (by first | exact Or.inl rfl | exact Or.inr rfl) (pe_lst (pa_cons pe_str (pa_cons pe_str (pa_cons pe_str pa_nil)))))
   (pss_cons (ps_set (i := 2) sc_law_shelf.nd rfl (by first | exact Or.inl rfl | exact Or.inr rfl) (pe_frz (pe_callTy (r := PD.rDictL K) (T := "dict")  (call_dictP rfl) (by rfl) zd (by decide +kernel) (pa_cons (pe_lc (own := [("_law_deed", 3)]) (g := gName 3) (tt := tYes) rfl sc_law_shelf.nd (pi_str pe_str) (blkOk_by (own := [("_law_deed", 3)]) (N := N_law_shelf) (sc := defScope s_law_shelf) (by decide +kernel)) (fun _ _ _ _ _ => (pg_name (i := 3) sc_law_shelf.nd rfl (by first | exact Or.inl rfl | exact Or.inr rfl))) (fun _ _ _ _ _ => pts_nil) (fun _ _ _ _ _ => (pe_tup (pa_cons (pv 3) (pa_cons (pe_tup (pa_cons (pe_ix (r := rIx K) ix_seq (pv 1) (pe_calK (K := K) rfl C_law_next (hr.mono (by first | decide | omega)) rfl (pa_cons (pv 0) (pa_cons pe_int pa_nil))) (fun _ _ => rfl)) (pa_cons (pe_ix (r := rIx K) ix_seq (pv 1) (pe_calK (K := K) rfl C_law_next (hr.mono (by first | decide | omega)) rfl (pa_cons (pv 0) (pa_cons pe_int pa_nil))) (fun _ _ => rfl)) pa_nil))) pa_nil))))) pa_nil))))
   (pss_cons (ps_set (i := 4) sc_law_shelf.nd rfl (by first | exact Or.inl rfl | exact Or.inr rfl) (pe_frz (pe_callTy (r := PD.rDictL K) (T := "dict")  (call_dictP rfl) (by rfl) zd (by decide +kernel) (pa_cons (pe_lc (own := [("_law_cell", 5)]) (g := gName 5) (tt := tYes) rfl sc_law_shelf.nd (pi_str pe_str) (blkOk_by (own := [("_law_cell", 5)]) (N := N_law_shelf) (sc := defScope s_law_shelf) (by decide +kernel)) (fun _ _ _ _ _ => (pg_name (i := 5) sc_law_shelf.nd rfl (by first | exact Or.inl rfl | exact Or.inr rfl))) (fun _ _ _ _ _ => pts_nil) (fun _ _ _ _ _ => (pe_tup (pa_cons (pv 5) (pa_cons (pe_ix (r := rIx K) ix_seq (pv 1) (pe_calK (K := K) rfl C_law_next (hr.mono (by first | decide | omega)) rfl (pa_cons (pv 0) (pa_cons pe_int pa_nil))) (fun _ _ => rfl)) pa_nil))))) pa_nil))))
   (pss_cons (ps_set (i := 6) sc_law_shelf.nd rfl (by first | exact Or.inl rfl | exact Or.inr rfl) (pe_op op_add pe_int (pe_calK (K := K) rfl C_law_next (hr.mono (by first | decide | omega)) rfl (pa_cons (pv 0) (pa_cons (pe_ix (r := rIx K) ix_seq (pe_lst (pa_cons pe_int (pa_cons pe_int pa_nil))) (pe_calK (K := K) rfl C_law_next (hr.mono (by first | decide | omega)) rfl (pa_cons (pv 0) (pa_cons pe_int pa_nil))) (fun _ _ => rfl)) pa_nil)))))
   (pss_cons (ps_set (i := 7) sc_law_shelf.nd rfl (by first | exact Or.inl rfl | exact Or.inr rfl) (pe_lc (own := [("_law_k", 8)]) (g := gName 8) (tt := tYes) rfl sc_law_shelf.nd (pi_range1 rfl zr (pa_cons (pv 6) pa_nil)) (blkOk_by (own := [("_law_k", 8)]) (N := N_law_shelf) (sc := defScope s_law_shelf) (by decide +kernel)) (fun _ _ _ _ _ => (pg_name (i := 8) sc_law_shelf.nd rfl (by first | exact Or.inl rfl | exact Or.inr rfl))) (fun _ _ _ _ _ => pts_nil) (fun _ _ _ _ _ => (pe_lst pa_nil))))
   (pss_cons (ps_for PassesOwn.never rfl (pi_str (pe_slice sl_str pe_str po_none (po_some (pe_op op_add pe_int (pe_calK (K := K) rfl C_law_next (hr.mono (by first | decide | omega)) rfl (pa_cons (pv 0) (pa_cons pe_int pa_nil))))))) (pg_name (i := 3) sc_law_shelf.nd rfl (by first | exact Or.inl rfl | exact Or.inr rfl)) (pss_one (ps_for PassesOwn.never rfl (pi_range1 rfl zr (pa_cons (pe_ix (r := rIx K) ix_seq (pe_lst (pa_cons pe_int (pa_cons pe_int (pa_cons pe_int (pa_cons pe_int pa_nil))))) (pe_calK (K := K) rfl C_law_next (hr.mono (by first | decide | omega)) rfl (pa_cons (pv 0) (pa_cons pe_int pa_nil))) (fun _ _ => rfl)) pa_nil)) (pg_name (i := 9) sc_law_shelf.nd rfl (by first | exact Or.inl rfl | exact Or.inr rfl)) (pss_cons (ps_set (i := 8) sc_law_shelf.nd rfl (by first | exact Or.inl rfl | exact Or.inr rfl) (pe_calK (K := K) rfl C_law_next (hr.mono (by first | decide | omega)) rfl (pa_cons (pv 0) (pa_cons (pv 6) pa_nil))))
   (pss_one (ps_if (PW.pt (pw_and (pt_cmpR (r := rIn K true) op_notIn_seq (pv 3) (pe_ix (r := rIx K) ix_seq (pv 7) (pv 8) (fun _ _ => rfl)) rfl) (pw_and1 (pt_cmpR op_lt (pe_callB (r := rLenQ K) (id := "len")  call_len_seq (by rfl) zn PySem.boot_len (pa_cons (pe_ix (r := rIx K) ix_seq (pv 7) (pv 8) (fun _ _ => rfl)) pa_nil)) pe_int (nomark _))))) (pss_one (ps_expr (pe_bm PySem.F.plainAttrs_list PySem.F.slot_list_append PySem.F.type_list_append mt_append (pe_ix (r := rIx K) ix_seq (pv 7) (pv 8) (fun _ _ => rfl)) (pa_cons (pv 3) pa_nil)))) pss_nil))))))
   (pss_cons (ps_set (i := 10) sc_law_shelf.nd rfl (by first | exact Or.inl rfl | exact Or.inr rfl) (pe_lst pa_nil))
   (pss_cons (ps_for PassesOwn.never rfl (pi_list (pv 7)) (pg_name (i := 11) sc_law_shelf.nd rfl (by first | exact Or.inl rfl | exact Or.inr rfl)) (pss_one (ps_set (i := 10) sc_law_shelf.nd rfl (by first | exact Or.inl rfl | exact Or.inr rfl) (pe_op op_cat (pv 10) (pe_lc (own := [("_law_deed", 3)]) (g := gName 3) rfl sc_law_shelf.nd (pi_list (pv 11)) (blkOk_by (own := [("_law_deed", 3)]) (N := N_law_shelf) (sc := defScope s_law_shelf) (by decide +kernel)) (fun _ _ _ _ _ => (pg_name (i := 3) sc_law_shelf.nd rfl (by first | exact Or.inl rfl | exact Or.inr rfl))) (fun _ _ _ _ _ => (pts_one (pt_cmpR (r := rIn K true) op_notIn_seq (pv 3) (pv 10) rfl))) (fun _ _ _ _ _ => (pv 3)))))))
   (pss_cons (ps_set (i := 12) sc_law_shelf.nd rfl (by first | exact Or.inl rfl | exact Or.inr rfl) (pe_lst pa_nil))
   (pss_cons (ps_for PassesOwn.never rfl (pi_range1 rfl zr (pa_cons (pv 6) pa_nil)) (pg_name (i := 8) sc_law_shelf.nd rfl (by first | exact Or.inl rfl | exact Or.inr rfl)) (pss_cons (ps_setLc (i := 13) (own := [("_law_deed", 3)]) (g := gName 3) rfl sc_law_shelf.nd rfl rfl (sw_true rfl rfl rfl (by decide +kernel)) (pi_list (pv 10)) (blkOk_by (own := [("_law_deed", 3)]) (N := N_law_shelf) (sc := defScope s_law_shelf) (by decide +kernel)) (fun _ _ _ _ _ => (pg_name (i := 3) sc_law_shelf.nd rfl (by first | exact Or.inl rfl | exact Or.inr rfl))) (fun _ _ _ _ _ => (pts_one (PW.pt (pw_and (pt_cmpR (r := rIn K true) op_notIn_seq (pv 3) (pe_ix (r := rIx K) ix_seq (pv 7) (pv 8) (fun _ _ => rfl)) rfl) (pw_and1 (pt_cmpR op_eq (pe_calK (K := K) rfl C_law_next (hr.mono (by first | decide | omega)) rfl (pa_cons (pv 0) (pa_cons pe_int pa_nil))) pe_int (nomark _))))))) (fun _ _ _ _ _ => (pv 3)))
   (pss_one (ps_expr (pe_bm PySem.F.plainAttrs_list PySem.F.slot_list_append PySem.F.type_list_append mt_append (pv 12) (pa_cons (pe_calK (K := K) rfl C_law_part (hr.mono (by first | decide | omega)) rfl (pa_cons (pv 0) (pa_cons (pe_ix ix_str pe_str (pv 8) (fun _ _ => rfl)) (pa_cons (pe_ix (r := rIx K) ix_seq (pv 7) (pv 8) (fun _ _ => rfl)) (pa_cons (pv 13) (pa_cons (pv 2) (pa_cons (pv 4) pa_nil))))))) pa_nil))))))
   (pss_one (ps_ret (pv 12))))))))))))), ?_⟩
 try dsimp only [cxOf]
 change dS _ _ _ [Sl.d _, Sl.un, Sl.un, Sl.un, Sl.un, Sl.un, Sl.un, Sl.un, Sl.un, Sl.un, Sl.un, Sl.un, Sl.un, Sl.un] _
 refine s_seq (s_set (d_lst (d_cons (d_c rfl (d_cons (d_c rfl (d_cons (d_c rfl (d_nil ⟨by simp, ?_⟩)))))))))
 change dS K _ _ [.d (.adr ah), .d (.lst (strsOf kindsS)), .un, .un, .un, .un, .un, .un, .un, .un, .un, .un, .un, .un] _
 refine s_seq (s_set (d_sigs (by decide) rfl rfl (show 3 < 14 by decide) (by decide) (by decide) fun sig hsig => ?_))
 change dS K _ _ [.d (.adr ah), .d (.lst (strsOf kindsS)), .d (ctD sig), .un, .un, .un, .un, .un, .un, .un, .un, .un, .un, .un] _
 refine s_seq (s_set (d_cels (by decide) rfl rfl (show 5 < 14 by decide) (by decide) (by decide) fun cells hcel => ?_))
 change dS K _ _ [.d (.adr ah), .d (.lst (strsOf kindsS)), .d (ctD sig), .un, .d (etD cells), .un, .un, .un, .un, .un, .un, .un, .un, .un] _
 refine s_cut (I := fun ρ' => ∃ m : Int, 1 ≤ m ∧ m ≤ 6 ∧ ρ' = [.d (.adr ah), .d (.lst (strsOf kindsS)), .d (ctD sig), .un, .d (etD cells), .un, .d (.int m), .un, .un, .un, .un, .un, .un, .un]) ?_ ?_
 ·refine s_set (d_op (d_c rfl (d_call (d_cons (d_var rfl (d_cons (d_op (d_lst (d_cons (d_c rfl (d_cons (d_c rfl (d_nil ⟨by simp, ?_⟩))))))))))))) 
  refine d_next rfl (by decide) (by decide) fun r r0 r1 => r_two r0 r1 ?_ ?_
  ·exact d_nil (m_next (by decide) (by decide) fun r2 a0 a1 => r_I0 rfl ⟨1 + r2, by omega, by omega, rfl⟩)
  ·exact d_nil (m_next (by decide) (by decide) fun r2 a0 a1 => r_I0 rfl ⟨1 + r2, by omega, by omega, rfl⟩)
 rintro _ ⟨m, m1, m6, rfl⟩
 refine s_own2 (i := 7) (j := 6) (jk := 8) (flat_of (by simp [NotOwn])) (show 7 < 14 by decide) rfl (by omega) (by omega) (fun p => ?_) rfl
 let I : List Sl → List (List Str) → Prop := fun ρ' oss => GoodO m oss ∧ ∃ s3 s8 s9, NotOwn s3 ∧ NotOwn s8 ∧ NotOwn s9 ∧ ρ' = [.d (.adr ah), .d (.lst (strsOf kindsS)), .d (ctD sig), s3, .d (etD cells), .un, .d (.int m), .d (.adr p), s8, s9, .un, .un, .un, .un]
 have step : ∀ (ρ' : List Sl) (oss : List (List Str)), I ρ' oss → Flat ρ' ∧ ρ'[7]? = some (.d (.adr p)) ∧ dS K (some (ah, as)) (tSeq (tAsg (tLst tNil) (gName 10)) (tSeq (tFor (iList K (tVar 7)) (gName 11) (tAsg (tOp rCat (tVar 10) (tLc (iList K (tVar 11)) (gName 3) (tTest (tOp (rIn K true) (tVar 3) (tVar 10))) (tVar 3) (List.map (fun x => x.snd) [(("_law_deed" : Str), 3)]))) (gName 10)))
   (tSeq (tAsg (tLst tNil) (gName 12)) (tSeq (tFor (iRng1 (tCons (tVar 6) tNil)) (gName 8) (tSeq (tAsg (tLc (iList K (tVar 10)) (gName 3) (tAnd (tTest (tOp (rIn K true) (tVar 3) (tOp (rIx K) (tVar 7) (tVar 8)))) (tTest (tOp rEq (tCall (spD K (some (ah, as)) (M_next ah)) [] E0 (tCons (tVar 0) (tCons (tC (.int 3)) tNil))) (tC (.int 0))))) (tVar 3) (List.map (fun x => x.snd) [(("_law_deed" : Str), 3)])) (gName 13))
    (tDrop (tBM K "list" rAppend (tVar 12) (tCons (tCall (spD K (some (ah, as)) (M_lpart ah)) [] E0 (tCons (tVar 0) (tCons (tOp rIxS (tC (.str "ABCDEF")) (tVar 8)) (tCons (tOp (rIx K) (tVar 7) (tVar 8)) (tCons (tVar 13) (tCons (tVar 2) (tCons (tVar 4) tNil))))))) tNil))))) (tRet (tVar 12)))))) (ρ'.set 7 (.d (.lst (oss.map fun os => .lst (strsOf os))))) { nx := fun _ => kk .non, rt := kk } := by
  rintro ρ' oss ⟨⟨gl, go⟩, s3, s8, s9, n3, n8, n9, rfl⟩
  refine ⟨flat_of (fun s hs => ?_), rfl, ?_⟩
  ·simp only [List.mem_cons, List.not_mem_nil, or_false] at hs
   rcases hs with rfl | rfl | rfl | rfl | rfl | rfl | rfl | rfl | rfl | rfl | rfl | rfl | rfl | rfl <;> first | trivial | assumption
  change dS K _ _ [.d (.adr ah), .d (.lst (strsOf kindsS)), .d (ctD sig), s3, .d (etD cells), .un, .d (.int m), .d (.lst (oss.map fun os => .lst (strsOf os))), s8, s9, .un, .un, .un, .un] _
  refine s_seq (s_set (d_lst (d_nil ⟨by simp, ?_⟩)))
  refine s_cut (I := fun ρ' => ∃ (every : List Str) (s8 s9 s11 : Sl), every.Nodup ∧ (∀ x ∈ every, x ∈ deedsS) ∧ ρ' = [.d (.adr ah), .d (.lst (strsOf kindsS)), .d (ctD sig), s3, .d (etD cells), .un, .d (.int m), .d (.lst (oss.map fun os => .lst (strsOf os))), s8, s9, .d (.lst (strsOf every)), s11, .un, .un]) (s_for (i_list (d_var rfl ⟨_, rfl, ?_⟩))) ?_
  ·refine forW_inv (fun r ρ' => (∀ d ∈ r, ∃ os ∈ oss, d = .lst (strsOf os)) ∧ ∃ (every : List Str) (s8 s9 s11 : Sl), every.Nodup ∧ (∀ x ∈ every, x ∈ deedsS) ∧ ρ' = [.d (.adr ah), .d (.lst (strsOf kindsS)), .d (ctD sig), s3, .d (etD cells), .un, .d (.int m), .d (.lst (oss.map fun os => .lst (strsOf os))), s8, s9, .d (.lst (strsOf every)), s11, .un, .un]) (fun ρ h => h.2) (fun d r ρ h => ?_) _ _ ⟨fun d hd => ?_, [], _, _, _, by simp, by simp, rfl⟩
   ·obtain ⟨hr', every, s8, s9, s11, e1, e2, rfl⟩ := h
    obtain ⟨os, hos, rfl⟩ := hr' d List.mem_cons_self
    obtain ⟨o1, o2, o3⟩ := go os hos
    have l8 : every.length ≤ 8 := PT.nodup_le e1 (m := deedsS) e2
    refine g_name (s_set (d_ofL (l_cat (d_var rfl (d_lc (i_list (d_var rfl ⟨_, rfl, by simp only [strsOf, List.length_map]; omega, ?_⟩)))))))
    refine lcW_txt (fun s => !decide (s ∈ every)) (fun s kx hk => g_nameV (by decide) (hk _ (fun kb hb => d_test (d_op (d_var rfl (d_var rfl (r_in3 ⟨_, rfl, hb⟩))))) (fun _ k qk => d_var rfl qk))) os [] ?_
    have lf := List.length_filter_le (fun s => !decide (s ∈ every)) os
    refine ⟨_, _, rfl, rfl, by simp only [strsOf, List.length_map, List.nil_append]; omega, fun d hd => hr' d (List.mem_cons_of_mem _ hd), every ++ os.filter fun s => !decide (s ∈ every), s8, s9, .d (.lst (strsOf os)), ?_, fun x hx => ?_, ?_⟩
    ·refine List.nodup_append.mpr ⟨e1, o1.sublist (List.filter_sublist), fun a ha b hb e => ?_⟩
     subst e
     have := (List.mem_filter.mp hb).2
     simp [ha] at this
    ·rcases List.mem_append.mp hx with z | z
     ·exact e2 x z
     ·exact o2 x (List.mem_filter.mp z).1
    ·have e3 : strsOf every ++ strsOf ([] ++ os.filter fun s => !decide (s ∈ every)) = strsOf (every ++ os.filter fun s => !decide (s ∈ every)) := by simp [strsOf]
     rw [e3]
     rfl
   ·obtain ⟨os, hos, rfl⟩ := List.mem_map.mp hd
    exact ⟨os, hos, rfl⟩
  rintro _ ⟨every, s8, s9, s11, e1, e2, rfl⟩
  have l8 : every.length ≤ 8 := PT.nodup_le e1 (m := deedsS) e2
  refine s_seq (s_own (l_lst (d_nil ⟨by simp, ?_⟩)))
  let J : List Sl → Prop := fun ρ' => ∃ (ps : List Pt) (s3 s8 s13 : Sl), ((∀ p ∈ ps, p.ok ∧ p.fine) ∧ ps.map Pt.name = partsS.take ps.length ∧ 1 ≤ ps.length) ∧ ρ' = [.d (.adr ah), .d (.lst (strsOf kindsS)), .d (ctD sig), s3, .d (etD cells), .un, .d (.int m), .d (.lst (oss.map fun os => .lst (strsOf os))), s8, s9, .d (.lst (strsOf every)), s11, .own (ps.map Pt.toF), s13] ∧ ps.length ≤ 6
  refine s_cut (I := J) (s_for (i_range1 (d_cons (d_var rfl (d_nil ⟨m, rfl, by omega, by omega, ?_⟩))))) ?_
  ·have loop : ∀ (n i : Nat) (ρ : List Sl), (i : Int) + n = m → (∃ (ps : List Pt) (s3 s8 s13 : Sl), ((∀ p ∈ ps, p.ok ∧ p.fine) ∧ ps.map Pt.name = partsS.take ps.length) ∧ ps.length = i ∧ ρ = [.d (.adr ah), .d (.lst (strsOf kindsS)), .d (ctD sig), s3, .d (etD cells), .un, .d (.int m), .d (.lst (oss.map fun os => .lst (strsOf os))), s8, s9, .d (.lst (strsOf every)), s11, .own (ps.map Pt.toF), s13]) →
     forW K (some (ah, as)) (gName 8) (tSeq (tAsg (tLc (iList K (tVar 10)) (gName 3) (tAnd (tTest (tOp (rIn K true) (tVar 3) (tOp (rIx K) (tVar 7) (tVar 8)))) (tTest (tOp rEq (tCall (spD K (some (ah, as)) (M_next ah)) [] E0 (tCons (tVar 0) (tCons (tC (.int 3)) tNil))) (tC (.int 0))))) (tVar 3) (List.map (fun x => x.snd) [(("_law_deed" : Str), 3)])) (gName 13))
    (tDrop (tBM K "list" rAppend (tVar 12) (tCons (tCall (spD K (some (ah, as)) (M_lpart ah)) [] E0 (tCons (tVar 0) (tCons (tOp rIxS (tC (.str "ABCDEF")) (tVar 8)) (tCons (tOp (rIx K) (tVar 7) (tVar 8)) (tCons (tVar 13) (tCons (tVar 2) (tCons (tVar 4) tNil))))))) tNil)))) { nx := J, rt := kk } ((List.range n).map fun (t : Nat) => D.int ((i : Int) + (t : Int))) ρ := by
    intro n
    induction n with
    | zero =>
     rintro i ρ hi ⟨ps, s3, s8, s13, h1, h2, rfl⟩
     exact ⟨ps, s3, s8, s13, ⟨h1.1, h1.2, by omega⟩, rfl, by omega⟩
    | succ n ih =>
     rintro i ρ hi ⟨ps, s3, s8, s13, h1, h2, rfl⟩
     have er : (List.range (n + 1)).map (fun (t : Nat) => D.int ((i : Int) + (t : Int))) = D.int ((i : Int) + ((0 : Nat) : Int)) :: (List.range n).map ((fun (t : Nat) => D.int ((i : Int) + (t : Int))) ∘ Nat.succ) := by rw [List.range_succ_eq_map, List.map_cons, List.map_map]
     rw [er]
     have hi' : i < oss.length := by omega
     have eo : (oss.map fun os => D.lst (strsOf os))[i]? = some (.lst (strsOf oss[i])) := by rw [List.getElem?_map, List.getElem?_eq_getElem hi']; rfl
     obtain ⟨o1, o2, o3⟩ := go oss[i] (List.getElem_mem hi')
     refine forW_cons (g_name ?_)
     refine s_seq (s_set (d_lc (i_list (d_var rfl ⟨_, rfl, by simp only [strsOf, List.length_map]; omega, ?_⟩))))
     refine lcW_may (fun s => !decide (s ∈ oss[i])) (fun x => x ∈ every) (fun x hx kx hk => g_nameV (by decide) (hk _ (fun kb g1 g2 => ?_) (fun k qk => d_var rfl qk))) every [] (fun x hx => hx) fun zs z1 z2 => ?_
     ·refine d_and (d_test (d_op (d_var rfl (d_op (d_var rfl (d_var rfl (r_ix (.inl (r_ixL (atI_get (j := i) (by simp) eo) (r_in3 ⟨_, rfl, fun e => ?_, fun _ => g2⟩))))))))))
      refine d_test (d_op (d_next rfl (by decide) (by decide) fun r r0 r1 => d_c rfl (r_eqI ⟨_, rfl, ?_⟩)))
      by_cases er : r = 0
      ·rw [decide_eq_true er]; exact g1 e
      ·rw [decide_eq_false er]; exact g2
     ·have nz : zs.Nodup := e1.sublist z1
      refine s_app (i := 12) rfl (by rw [List.length_map]; omega) (d_call (d_cons (d_var rfl (d_cons (d_op (d_c rfl (d_var rfl (r_pickP (by omega) (by omega) fun nm hnm enm => ?_))))))))
      refine d_cons (d_op (d_var rfl (d_var rfl (r_ix (.inl (r_ixL (atI_get (j := i) (by simp) eo) ?_))))))
      refine d_cons (d_var rfl (d_cons (d_var rfl (d_cons (d_var rfl (d_nil (m_lpart hnm o2 (fun x hx => e2 x (z1.subset (by simpa using hx))) ?_ hsig hcel fun p p1 p2 p3 => ?_)))))))
      ·rw [List.nil_append]
       refine List.nodup_append.mpr ⟨o1, nz, fun a ha b hb e => ?_⟩
       subst e
       have := z2 a hb
       simp [ha] at this
      ·have e5 : (List.range n).map ((fun (t : Nat) => D.int ((i : Int) + (t : Int))) ∘ Nat.succ) = (List.range n).map fun (t : Nat) => D.int (((i + 1 : Nat) : Int) + (t : Int)) := by
        refine List.map_congr_left fun t _ => ?_
        show D.int _ = D.int _
        congr 1
        omega
       rw [e5]
       have e6 : (ps ++ [p]).map Pt.toF = ps.map Pt.toF ++ [p.toF] := by simp
       refine ih (i + 1) _ (by omega) ⟨ps ++ [p], s3, .d (.int ((i : Int) + ((0 : Nat) : Int))), .d (.lst (strsOf ([] ++ zs))), ⟨fun x hx => ?_, ?_⟩, by simp [h2], ?_⟩
       ·rcases List.mem_append.mp hx with z | z
        ·exact h1.1 x z
        ·rw [List.mem_singleton.mp z]; exact ⟨p1, p2⟩
       ·rw [List.map_append, h1.2, List.length_append]
        show _ ++ [p.name] = _
        have e8 : ((i : Int) + ((0 : Nat) : Int)).toNat = ps.length := by omega
        rw [e8] at enm
        rw [p3, List.length_singleton, List.take_add_one, enm]
        rfl
       ·rw [e6]
        rfl
   exact loop m.toNat 0 _ (by omega) ⟨[], s3, s8, .un, ⟨fun p hp => (by cases hp), rfl⟩, rfl, rfl⟩
  rintro _ ⟨ps, s3, s8, s13, h1, rfl, h6⟩
  exact s_keep (i := 12) rfl (s_ret (d_var rfl (q ps h6 h1.2.2 h1.1 h1.2.1)))
 have start : I [.d (.adr ah), .d (.lst (strsOf kindsS)), .d (ctD sig), .un, .d (etD cells), .un, .d (.int m), .d (.adr p), .un, .un, .un, .un, .un, .un] (List.replicate m.toNat []) := ⟨⟨by simp; omega, fun os ho => by
  rw [(List.mem_replicate.mp ho).2]
  exact ⟨by simp, by simp, by simp⟩⟩, .un, .un, .un, trivial, trivial, trivial, rfl⟩
 have imp : ∀ (t : TS) (ρ : List Sl) (oss : List (List Str)) (nx nx' : List Sl → List (List Str) → Prop), dS2 K (some (ah, as)) p t ρ oss nx → (∀ ρ oss, nx ρ oss → nx' ρ oss) → dS2 K (some (ah, as)) p t ρ oss nx' := fun t ρ oss nx nx' h i G0 H0 Gb σ G H D s b R O z => h G0 H0 Gb σ G H D s b R O fun σ' G' H' ρ' oss' a b c d e => z σ' G' H' ρ' oss' a b c d (i _ _ e)
 refine imp _ _ _ I _ (o_for (Q := fun d => ∃ s ∈ deedsS, d = .str s) (i_str (d_slS (d_c rfl (o_no (o_part (d_op (d_c rfl (d_next rfl (by decide) (by decide) fun r r0 r1 => r_I0 rfl ⟨_, rfl, _, rfl, by decide, _, rfl, abc_in⟩)))))))) start fun d ρ oss hd hI => ?_) step
 obtain ⟨x, hx, rfl⟩ := hd
 obtain ⟨go, s3, s8, s9, n3, n8, n9, rfl⟩ := hI
 refine g_name (imp _ _ _ (fun ρ' oss => GoodO m oss ∧ ∃ s8 s9, NotOwn s8 ∧ NotOwn s9 ∧ ρ' = [.d (.adr ah), .d (.lst (strsOf kindsS)), .d (ctD sig), .d (.str x), .d (etD cells), .un, .d (.int m), .d (.adr p), s8, s9, .un, .un, .un, .un]) I (o_for (Q := fun _ => True) (i_range1 (d_cons (d_op (d_lst (d_cons (d_c rfl (d_cons (d_c rfl (d_cons (d_c rfl (d_cons (d_c rfl (d_nil ⟨by simp, ?_⟩))))))))))))) ⟨go, s8, s9, n8, n9, rfl⟩ fun d ρ oss _ hI => ?_) fun ρ' oss h => ?_)
 ·refine d_next rfl (by decide) (by decide) fun r r0 r1 => r_pick r0 (by simpa using r1) fun d hd => ?_
  have : ∃ n : Int, d = .int n ∧ 0 ≤ n ∧ n ≤ 2 := by
   simp only [List.mem_cons, List.not_mem_nil, or_false] at hd
   rcases hd with rfl | rfl | rfl | rfl
   ·exact ⟨1, rfl, by omega, by omega⟩
   ·exact ⟨1, rfl, by omega, by omega⟩
   ·exact ⟨1, rfl, by omega, by omega⟩
   ·exact ⟨2, rfl, by omega, by omega⟩
  obtain ⟨n, rfl, n0, n2⟩ := this
  exact d_nil ⟨n, rfl, by omega, by omega, fun _ _ => trivial⟩
 ·obtain ⟨go, s8, s9, n8, n9, rfl⟩ := hI
  refine g_name (o_seq (o_set (d_call ?_)))
  refine d_cons (d_var rfl (d_cons (d_var rfl (d_nil ?_))))
  refine m_next (by omega) (by omega) fun r r0 r1 => ?_
  refine o_put (ix := 3) (io := 7) (ik := 8) (s := x) (k := r) (flat_of ?_) rfl rfl rfl r0 (by rw [go.1]; exact r1) (by omega) fun os ho => ⟨fun n1 n2 => ⟨go.put ho hx n1 n2, .d (.int r), .d d, trivial, trivial, rfl⟩, ⟨go, .d (.int r), .d d, trivial, trivial, rfl⟩⟩
  intro s hs
  simp only [List.mem_cons, List.not_mem_nil, or_false, List.set] at hs
  rcases hs with rfl | rfl | rfl | rfl | rfl | rfl | rfl | rfl | rfl | rfl | rfl | rfl | rfl | rfl <;> first | trivial | assumption
 ·obtain ⟨go, s8, s9, n8, n9, rfl⟩ := h
  exact ⟨go, .d (.str x), s8, s9, trivial, n8, n9, rfl⟩
end
end Pr
set_option Elab.async false
set_option linter.all false
set_option maxRecDepth 100000
set_option maxHeartbeats 2000000
namespace Pr
open PySem L2 PD
variable [Tabs]
mutual
def txtD : D → Str
 | .tup (.str w :: ds) => Txt.join " " (w :: txtL ds)
 | .str s => s
 | .int i => toString i
 | .bl b => if b then "True" else "False"
 | _ => ""
def txtL : List D → List Str
 | [] => []
 | d :: ds => txtD d :: txtL ds
end
theorem txtL_map : ∀ ds : List D, txtL ds = ds.map txtD
 | [] => by simp only [txtL, List.map_nil]
 | d :: ds => by simp only [txtL, List.map_cons, txtL_map ds]
def atomD (d : D) : Prop := (∃ s : Str, d = .str s ∧ s.length ≤ 10) ∨ (∃ i : Int, d = .int i ∧ i.natAbs ≤ 99) ∨ ∃ b : Bool, d = .bl b
def nestOk : Nat → D → Prop
 | 0, _ => False
 | n + 1, d => ∃ w ds, d = .tup (.str w :: ds) ∧ w.length ≤ 10 ∧ ds.length ≤ 3 ∧ ∀ x ∈ ds, atomD x ∨ nestOk n x
theorem sum_le {l : List Str} {m : Nat} (h : ∀ x ∈ l, x.length ≤ m) : (l.map (·.length)).sum ≤ l.length * m := by
 induction l with
 | nil => simp
 | cons x r ih =>
  rw [List.map_cons, List.sum_cons, List.length_cons, Nat.succ_mul]
  have := h x List.mem_cons_self
  have := ih fun y hy => h y (List.mem_cons_of_mem _ hy)
  omega
theorem int_txt : ∀ i : Nat, i ≤ 99 → (toString (i : Int) : Str).length ≤ 10 ∧ (toString (-(i : Int)) : Str).length ≤ 10 := by
 intro i h
 have : ∀ j : Fin 100, (toString ((j.val : Nat) : Int) : Str).length ≤ 10 ∧ (toString (-((j.val : Nat) : Int)) : Str).length ≤ 10 := by decide +kernel
 exact this ⟨i, by omega⟩
theorem atom_len {d : D} (h : atomD d) : (txtD d).length ≤ 10 := by
 rcases h with ⟨s, rfl, h⟩ | ⟨i, rfl, h⟩ | ⟨b, rfl⟩
 ·simpa only [txtD] using h
 ·simp only [txtD]
  have := int_txt i.natAbs h
  rcases Int.natAbs_eq i with e | e
  ·rw [e]; exact this.1
  ·rw [e]; exact this.2
 ·simp only [txtD]
  cases b <;> decide
theorem join_le {sep : Str} {l : List Str} : (Txt.join sep l).length ≤ (l.map (·.length)).sum + l.length * sep.length := by
 show (PySem.Builtin.Str.glued sep l).length ≤ _
 rw [StrLaws.glued_eq_join]
 exact StrLaws.join_length_le sep l
theorem nest_len : ∀ (n : Nat) (d : D), nestOk n d → (txtD d).length ≤ 15 * 4 ^ n
 | 0, _, h => h.elim
 | n + 1, d, h => by
  obtain ⟨w, ds, rfl, hw, h3, hd⟩ := h
  simp only [txtD]
  refine Nat.le_trans join_le ?_
  have p : 1 ≤ 4 ^ n := Nat.pow_pos (by omega)
  have s1 : ((txtL ds).map (·.length)).sum ≤ (txtL ds).length * (15 * 4 ^ n) := sum_le fun x hx => by
   rw [txtL_map] at hx
   obtain ⟨y, hy, rfl⟩ := List.mem_map.mp hx
   rcases hd y hy with a | a
   ·have := atom_len a
    omega
   ·exact nest_len n y a
  have l1 : (txtL ds).length = ds.length := by rw [txtL_map, List.length_map]
  rw [l1] at s1
  rw [List.map_cons, List.sum_cons, List.length_cons, l1, show (" " : Str).length = 1 from by decide +kernel, Nat.mul_one]
  have s2 : ds.length * (15 * 4 ^ n) ≤ 3 * (15 * 4 ^ n) := Nat.mul_le_mul_right _ h3
  rw [Nat.pow_succ]
  omega
def M_written (n : Nat) : List D → (D → Prop) → Prop := fun ds k => ∃ d, ds = [d] ∧ nestOk n d ∧ n ≤ 10 ∧ k (.str (txtD d))
section
variable {P : Program} {w : World} {K : PySem.W.Frag} {mg : Str → Option Value} {base : Heap}
theorem ok_written (T : Txt w K mg) : ∀ n : Nat, Cal P w K mg base (n + 1) "written_nest" ["nest"] none (M_written n) := by
 intro n
 induction n with
 | zero =>
  refine okF T.f_written_nest sc_written_nest (fun _ _ _ _ _ _ us hl => match us, hl with | [_], _ => rfl) (fun ds k h => ?_) (fun f cdv A outer s H E ds kk hr h => ?_)
  ·obtain ⟨_, rfl, _⟩ := h
   rfl
  ·obtain ⟨b, _, h, _⟩ := h
   exact h.elim
 | succ n ih =>
  have C_written_nest := ih
  refine okF T.f_written_nest sc_written_nest (fun _ _ _ _ _ _ us hl => match us, hl with | [_], _ => rfl) (fun ds k h => ?_) (fun f cdv A outer s H E ds kk hr h => ?_)
  ·obtain ⟨_, rfl, _⟩ := h
   rfl
  obtain ⟨d, rfl, ⟨wd, rest, rfl, hw, h3, hd⟩, h8, q⟩ := h
  refine ⟨_, (pss_cons (ps_set (i := 1) sc_written_nest.nd rfl (by first | exact Or.inl rfl | exact Or.inr rfl) (pe_lst (pa_cons (pe_ix (r := rIx K) ix_seq (pv 0) pe_int (fun _ _ => rfl)) pa_nil)))
   (pss_cons (ps_for PassesOwn.never rfl (pi_tup (pe_slice (r := rSlA K) sl_tupA (pv 0) (po_some pe_int) po_none)) (pg_name (i := 2) sc_written_nest.nd rfl (by first | exact Or.inl rfl | exact Or.inr rfl)) (pss_one (ps_expr (pe_bm PySem.F.plainAttrs_list PySem.F.slot_list_append PySem.F.type_list_append mt_append (pv 1) (pa_cons (pe_ifExp (pt_val (pe_callB (r := rIsi K) (id := "isinstance")  call_isi (by rfl) T.z_isinstance (by decide +kernel) (pa_cons (pv 2) (pa_cons (pe_bty (n := "tuple") rfl T.z_tuple (by decide +kernel)) pa_nil)))) (pe_calK (K := K) rfl C_written_nest (hr.mono (by first | decide | omega)) rfl (pa_cons (pv 2) pa_nil)) (pe_callTy (r := PD.rStrV) (T := "str")  PD.cr_strV (by rfl) T.z_str (by decide +kernel) (pa_cons (pv 2) pa_nil))) pa_nil)))))
   (pss_one (ps_ret (pe_join pe_str (pv 1)))))), ?_⟩
  try dsimp only [cxOf]
  change dS _ _ _ [Sl.d _, Sl.un, Sl.un] _
  refine s_seq (s_ownS [wd] (l_lst (d_cons (d_op (d_var rfl (d_c rfl (r_ix (.inr (r_ixT (show atI _ ((0 : Nat) : Int) = _ from atI_nat rfl) (d_nil ⟨by simp, rfl, ?_⟩))))))))))
  refine s_seq (s_for (i_tup (d_slT1 (d_var rfl ⟨_, _, rfl, _, rfl, ?_⟩))))
  refine forW_inv (fun r ρ' => ∃ (done r' : List D) (s2 : Sl), rest = done ++ r' ∧ r = r' ∧ ρ' = [.d (.tup (.str wd :: rest)), .own (strsOf (wd :: done.map txtD)), s2]) ?_ ?_ _ _ ⟨[], rest, _, rfl, rfl, rfl⟩
  ·rintro ρ' ⟨done, r', s2, e, rfl, rfl⟩
   rw [List.append_nil] at e
   subst e
   refine s_keep (i := 1) rfl (s_ret (d_join (r := fun _ _ _ _ => True) (d_c rfl ⟨_, rfl, d_var rfl ⟨_, rfl, ?_, ?_⟩⟩)))
   ·have s1 : ((wd :: rest.map txtD).map (·.length)).sum ≤ (wd :: rest.map txtD).length * (15 * 4 ^ n) := sum_le fun x hx => by
     have p : 1 ≤ 4 ^ n := Nat.pow_pos (by omega)
     rcases List.mem_cons.mp hx with rfl | hx
     ·omega
     ·obtain ⟨y, hy, rfl⟩ := List.mem_map.mp hx
      rcases hd y hy with a | a
      ·have := atom_len a
       omega
      ·exact nest_len n y a
    have l1 : (wd :: rest.map txtD).length ≤ 4 := by rw [List.length_cons, List.length_map]; omega
    have p8 : 4 ^ n ≤ 4 ^ 9 := Nat.pow_le_pow_right (by omega) (by omega)
    have s2 : (wd :: rest.map txtD).length * (15 * 4 ^ n) ≤ 4 * (15 * 4 ^ n) := Nat.mul_le_mul_right _ l1
    rw [show (" " : Str).length = 1 from by decide +kernel, Nat.mul_one]
    omega
   ·rw [← txtL_map]
    simpa only [txtD] using q
  ·rintro d r ρ' ⟨done, r', s2, e, rfl, rfl⟩
   have hin : d ∈ rest := by rw [e]; simp
   have lr : (strsOf (wd :: done.map txtD)).length < 100000 := by
    have := congrArg List.length e
    simp only [List.length_append, List.length_cons, strsOf, List.length_map] at this ⊢
    omega
   have fin : ∀ s : Str, s = txtD d → (strsOf (wd :: done.map txtD) ++ [.str s]) = strsOf (wd :: (done ++ [d]).map txtD) := fun s e => by subst e; simp [strsOf]
   have inv : ∀ s : Str, s = txtD d → ∃ (done' r' : List D) (s2 : Sl), rest = done' ++ r' ∧ r = r' ∧ ([.d (.tup (.str wd :: rest)), .own (strsOf (wd :: done.map txtD) ++ [.str s]), .d d] : List Sl) = [.d (.tup (.str wd :: rest)), .own (strsOf (wd :: done'.map txtD)), s2] := fun s es => ⟨done ++ [d], r, .d d, by rw [e]; simp, rfl, by rw [fin s es]⟩
   refine g_name (s_app (i := 1) rfl lr (d_ifE ?_))
   rcases hd d hin with (⟨s, rfl, _⟩ | ⟨i, rfl, hi⟩ | ⟨b, rfl⟩) | a
   ·refine d_test (d_cb (d_cons (d_var rfl (d_cons (d_c rfl (d_nil (c_tup rfl ⟨_, rfl, ?_⟩)))))))
    refine ⟨fun e => (by cases e), fun _ => ?_⟩
    exact d_cb (d_cons (d_var rfl (d_nil (c_strS (inv _ (by simp only [txtD]))))))
   ·refine d_test (d_cb (d_cons (d_var rfl (d_cons (d_c rfl (d_nil (c_tup rfl ⟨_, rfl, ?_⟩)))))))
    refine ⟨fun e => (by cases e), fun _ => ?_⟩
    exact d_cb (d_cons (d_var rfl (d_nil (c_strI (Nat.lt_of_le_of_lt hi (by decide)) (inv _ (by simp only [txtD]))))))
   ·refine d_test (d_cb (d_cons (d_var rfl (d_cons (d_c rfl (d_nil (c_tup rfl ⟨_, rfl, ?_⟩)))))))
    refine ⟨fun e => (by cases e), fun _ => ?_⟩
    exact d_cb (d_cons (d_var rfl (d_nil (c_strB (inv _ (by simp only [txtD]))))))
   ·have tg : tgD d = some .tup := by
     cases n with
     | zero => exact a.elim
     | succ n => obtain ⟨w', ds', rfl, _⟩ := a; rfl
    refine d_test (d_cb (d_cons (d_var rfl (d_cons (d_c rfl (d_nil (c_tup tg ⟨_, rfl, ?_⟩)))))))
    refine ⟨fun _ => ?_, fun e => (by cases e)⟩
    exact d_call (d_cons (d_var rfl (d_nil ⟨d, rfl, a, by omega, inv _ rfl⟩)))
end
end Pr
set_option Elab.async false
set_option linter.all false
set_option maxRecDepth 100000
set_option maxHeartbeats 2000000
namespace Pr
open PySem L2 PD
variable [Tabs]
def B.ren (o n : Str) : B → B
 | .num i => .num i
 | .tru b => .tru b
 | .emp => .emp
 | .arg => .arg
 | .cel c => .cel c
 | .set c x => .set c (x.ren o n)
 | .call d x => .call (if d = o then n else d) (x.ren o n)
 | .op1 v x => .op1 v (x.ren o n)
 | .op2 v x y => .op2 v (x.ren o n) (y.ren o n)
 | .ite x y z => .ite (x.ren o n) (y.ren o n) (z.ren o n)
end Pr
set_option Elab.async false
set_option linter.all false
set_option maxRecDepth 100000
set_option maxHeartbeats 2000000
namespace Pr
open PySem L2 PD
variable [Tabs]
section
variable {K : PySem.W.Frag} {hs : Option (Addr × Addr)} {ρ : List Sl} {te tk tv : TE} {tt : TT} {g : TG}
theorem lcW_mem {α : Type} {js : List Nat} {kl : List D → Prop} (enc : α → D) (p : α → Bool) (f : α → D) (l0 : List α) (h : ∀ a ∈ l0, ∀ kk : List Sl → Prop, (∀ ρ', (∀ kb : Bool → Prop, kb (p a) → dT K hs tt ρ' kb) → (p a = true → ∀ k : D → Prop, k (f a) → dE K hs te ρ' k) → kk ρ') → dG K hs g (some js) (enc a) ρ kk)
  (q : kl ((l0.filter p).map f)) : lcW K hs g js tt te ρ kl (l0.map enc) [] := by
 have key : ∀ (l : List α) (acc : List D), (∀ a ∈ l, a ∈ l0) → kl (acc ++ (l.filter p).map f) → lcW K hs g js tt te ρ kl (l.map enc) acc := by
  intro l
  induction l with
  | nil => intro acc _ q; show kl acc; simpa using q
  | cons d r ih =>
   intro acc hl q
   refine h d (hl d List.mem_cons_self) _ fun ρ' h1 h2 => h1 _ ⟨fun e => h2 e _ ?_, fun e => ?_⟩
   ·refine ih (acc ++ [f d]) (fun a ha => hl a (List.mem_cons_of_mem _ ha)) ?_
    rw [List.filter_cons, if_pos e, List.map_cons] at q
    rw [List.append_assoc]
    exact q
   ·refine ih acc (fun a ha => hl a (List.mem_cons_of_mem _ ha)) ?_
    rw [List.filter_cons, e] at q
    exact q
 exact key l0 [] (fun a ha => ha) (by simpa using q)
end
end Pr
set_option Elab.async false
set_option linter.all false
set_option maxRecDepth 100000
set_option maxHeartbeats 4000000
open PySem L2 PD
local macro_rules | `(tactic| walk_at "Ded32") => `(tactic| (first
 | with_reducible refine s_seq ?_ | with_reducible refine s_ret ?_ | with_reducible refine s_if ?_
 | with_reducible refine d_var (by with_unfolding_all rfl) ?_ | with_reducible refine d_cK (by assumption) ?_ | with_reducible refine d_c (by with_unfolding_all rfl) ?_
 | with_reducible refine d_op ?_ | with_reducible refine d_test ?_ | with_reducible refine d_cons ?_ | with_reducible refine d_nil ?_ | with_reducible refine d_cb ?_ | with_reducible refine d_call ?_ | with_reducible refine d_callP ?_ | with_reducible refine d_callV (fun _ => RelL.cons Rel.int RelL.nil) ?_
 | with_reducible refine br_t (by assumption) ?_ | with_reducible refine br_f (by assumption) ?_ | with_reducible refine br_t (by with_unfolding_all rfl) ?_ | with_reducible refine br_f (by with_unfolding_all rfl) ?_
 | with_reducible refine ⟨_, rfl, ?_⟩ | with_reducible refine ⟨_, _, rfl, ?_⟩ | with_reducible refine ⟨_, _, _, _, rfl, ?_⟩ | with_reducible refine ⟨_, rfl, ?_, ?_⟩
 | with_reducible refine r_I0 (by with_unfolding_all rfl) ?_ | with_reducible refine r_eqS ?_ | with_reducible refine r_eqI ?_ | with_reducible refine r_neI ?_ | with_reducible refine r_neS ?_ | with_reducible refine r_isN ?_ | with_reducible refine r_notN ?_ | with_reducible refine r_inT ?_ | with_reducible refine r_inL ?_
 | with_reducible refine r_ix (.inr (r_ixT (by with_unfolding_all rfl) ?_)) | with_reducible refine r_ix (.inl (r_ixL (by with_unfolding_all rfl) ?_)) | with_reducible refine c_lenS (.inr rfl) ?_ | with_reducible refine c_lenS (.inl rfl) ?_
 | with_reducible refine s_next ?_ | with_reducible refine d_andV ?_ | with_reducible refine d_orV ?_ | with_reducible refine d_notV ?_
 | with_reducible refine d_un ?_ | with_reducible refine d_tB ?_ | with_reducible refine d_and ?_ | with_reducible refine d_or ?_ | with_reducible refine d_not ?_
 | with_reducible refine d_yes ?_ | with_reducible refine d_ifE ?_
 | with_reducible refine d_tup ?_ | with_reducible refine d_lst ?_ | with_reducible refine d_slT1 ?_ | with_reducible refine d_slT3 ?_ | with_reducible refine d_slT13 ?_ | with_reducible refine d_slT ?_ | with_reducible refine o_no ?_ | with_reducible refine o_part ?_ | with_reducible refine d_chain ?_ | with_reducible refine d_truth ?_
 | with_reducible refine s_setL ?_ | with_reducible refine s_set ?_ | with_reducible refine s_for ?_ | with_reducible refine i_zipT ?_ | with_reducible refine i_tup ?_ | with_reducible refine i_list ?_
 | with_reducible refine g_name ?_ | with_reducible refine g_nameV (by decide) ?_ | with_reducible refine gs_cons ?_ | with_reducible refine gs_nil ?_ | ((with_reducible refine g_tid ?_); refine g_tup rfl ?_) | with_reducible refine s_aug (by with_unfolding_all rfl) ?_ | with_reducible refine s_asg ?_ | with_reducible refine s_drop ?_
 | with_reducible refine d_callLP (by with_unfolding_all rfl) ?_ | with_reducible refine d_lc ?_ | with_reducible refine forW_cons ?_ | with_reducible refine forW_nil ?_ | ((with_reducible refine forW_id ?_); refine forW_pair ?_) | ((with_reducible refine forW_id ?_); refine forW_pnil ?_) | with_reducible refine lcW_cons ?_ | with_reducible refine lcW_nil ?_
 | with_reducible refine d_dget ?_ | with_reducible refine d_dget1 ?_ | with_reducible refine d_dget2 ?_ | with_reducible refine d_kget ?_
 | with_reducible refine r_eq (by with_unfolding_all rfl) (by with_unfolding_all rfl) (by with_unfolding_all rfl) ?_ | with_reducible refine r_ne (by with_unfolding_all rfl) (by with_unfolding_all rfl) (by with_unfolding_all rfl) ?_
 | with_reducible refine u_I (by with_unfolding_all rfl) ?_
 | with_reducible refine c_bool (by with_unfolding_all rfl) ?_ | with_reducible refine c_int (by with_unfolding_all rfl) ?_ | with_reducible refine c_str (by with_unfolding_all rfl) ?_ | with_reducible refine c_tup (by with_unfolding_all rfl) ?_ | with_reducible refine c_lst (by with_unfolding_all rfl) ?_
 | with_reducible refine And.intro (show List.length _ ≤ 100000 by simp) ?_ | with_reducible refine truOk_tup ?_ | with_reducible refine truOk_lst ?_ | with_reducible assumption | with_reducible refine ⟨fun _ => ?_, fun _ => ?_⟩ | dsimp only | fail "stop"))
namespace Pr
open PySem L2 PD NdefX LamX
variable [Tabs]
local macro_rules | `(tactic| walk_at "d1") => `(tactic| walk_at "Ded32")
local macro_rules | `(tactic| walk_at "d") => `(tactic| repeat' walk_at "d1")
inductive Tr where
 | part (p : Str) | wit (x y : Tr) | wo (x : Tr) (d : Str) | also (x : Tr) (d n : Str) | ren (x : Tr) (d n : Str) | over (x : Tr) (p : Str)
def Tr.toD : Tr → D
 | .part p => .tup [.str "part", .str p]
 | .wit x y => .tup [.str "with", x.toD, y.toD]
 | .wo x d => .tup [.str "without", x.toD, .str d]
 | .also x d n => .tup [.str "also", x.toD, .str d, .str n]
 | .ren x d n => .tup [.str "renamed", x.toD, .str d, .str n]
 | .over x p => .tup [.str "over", x.toD, .str p]
def Tr.size : Tr → Nat
 | .part _ => 1
 | .wit x y => x.size + y.size + 1
 | .wo x _ => x.size + 1
 | .also x _ _ => x.size + 1
 | .ren x _ _ => x.size + 1
 | .over x _ => x.size + 1
def Tr.depth : Tr → Nat
 | .part _ => 1
 | .wit x y => max x.depth y.depth + 1
 | .wo x _ => x.depth + 1
 | .also x _ _ => x.depth + 1
 | .ren x _ _ => x.depth + 1
 | .over x _ => x.depth + 1
def Tr.ok (ns : List Str) : Tr → Prop
 | .part p => p ∈ ns
 | .wit x y => x.ok ns ∧ y.ok ns
 | .wo x d => x.ok ns ∧ d ∈ deedsS
 | .also x d n => x.ok ns ∧ d ∈ deedsS ∧ n ∈ deedsS
 | .ren x d n => x.ok ns ∧ d ∈ deedsS ∧ n ∈ deedsS
 | .over x p => x.ok ns ∧ p ∈ ns
section
variable {P : Program} {w : World} {K : PySem.W.Frag} {mg : Str → Option Value} {base : Heap}
def M_tree_arms : List D → (D → Prop) → Prop := fun ds k => ∃ x ss, ds = [.str x] ∧ (x, ss) ∈ treeTab ∧ k (.tup (strsOf ss))
theorem ok_tree_arms (T : Txt w K mg) : Cal P w K mg base 1 "tree_arms" ["word"] none M_tree_arms := by
 refine okF T.f_tree_arms sc_tree_arms (fun _ _ _ _ _ _ us hl => match us, hl with | [_], _ => rfl) (fun ds k h => ?_) (fun f cdv A outer s H E ds kk hr h => ?_)
 ·obtain ⟨_, _, rfl, _⟩ := h
  rfl
 obtain ⟨x, ss, rfl, hm, q⟩ := h
 obtain ⟨aA, es, n, gA, kdA, hA⟩ := T.TREES.ex
 refine ⟨_, (pss_cons (ps_if (pt_not (pt_val (pe_callB (r := rIsi K) (id := "isinstance")  call_isi (by rfl) T.z_isinstance (by decide +kernel) (pa_cons (pv 0) (pa_cons (pe_bty (n := "str") rfl T.z_str (by decide +kernel)) pa_nil))))) (pss_one (ps_ret pe_non)) pss_nil)
   (pss_one (ps_ret (kd_get1 kdA rfl gA (pv 0) ⟨rfl, rfl, rfl, rfl⟩)))), ?_⟩
 try dsimp only [cxOf]
 walk_at "d"
 refine ⟨x, some (.tup (strsOf ss)), rfl, hA _ (List.mem_map.mpr ⟨_, hm, rfl⟩), q⟩
def M_fitsT (ss : List Str) : List D → (D → Prop) → Prop := fun ds k => (∃ c : Str, ds = [.str "part", .str c] ∧ k (.bl (decide (c ∈ ss)))) ∨ ∃ c : Str, ds = [.str "deed", .str c] ∧ k (.bl (decide (c ∈ deedsS)))
abbrev s_fits_tree : Stmt := (defBody s_check_tree).getD 1 (.Pass ⟨0, 0, 0, 0⟩)
abbrev fitF (cl : List (Str × Addr)) (c : Addr) : NF := NF.of s_fits_tree "fits_tree" (("check_tree" : Str) ++ (".<locals>." : Str) ++ "fits_tree") cl c
theorem ok_fitsT (T : Txt w K mg) (cl : List (Str × Addr)) (f c l : Addr) (ss : List Str) : NOk P w K mg base CX0 1 f (fitF cl c) ["sort", "arm"] ["names"] (spN K (M_fitsT ss) l ss) := by
 refine okN (N := ["sort", "arm", "names"]) (n := 0) (nscope_by (show nscB ["sort", "arm", "names"] ["sort", "arm"] ["names"] (C8.fnScope s_fits_tree) = true by decide +kernel)) (fun _ _ _ us hl => match us, hl with | [_, _], _ => rfl) (fun ds k h => ?_) (fun A outer s H E ds kk hr h => ?_)
 ·rcases h with ⟨_, rfl, _⟩ | ⟨_, rfl, _⟩ <;> rfl
 obtain ⟨aD, gD, rD⟩ := T.DEEDS.ex
 refine ⟨_, (pss_cons (ps_if (pt_cmpR op_eq (pv 0) pe_str (nomark _)) (pss_one (ps_ret (pe_cmpR (r := rIn K false) op_in_seq (pv 1) (pv 2) rfl))) pss_nil) (pss_one (ps_ret (pe_cmpR (r := rIn K false) op_in_seq (pv 1) (pe_gref rfl gD) rfl)))), ?_⟩
 rcases h with ⟨x, rfl, q⟩ | ⟨x, rfl, q⟩
 ·refine s_seq (s_if (d_test (d_op (d_var rfl (d_c rfl (r_eqS ⟨_, rfl, br_t rfl ?_⟩))))))
  exact s_ret (d_op (d_var rfl (d_var rfl (r_in2 q))))
 ·refine s_seq (s_if (d_test (d_op (d_var rfl (d_c rfl (r_eqS ⟨_, rfl, br_f rfl (s_next ?_)⟩))))))
  exact s_ret (d_op (d_var rfl (d_cK rD (r_in0 q))))
end
end Pr
set_option Elab.async false
set_option linter.all false
set_option maxRecDepth 100000
set_option maxHeartbeats 4000000
namespace Pr
open PySem L2 PD NdefX LamX
variable [Tabs]
theorem tsize_pos (b : Tr) : 1 ≤ b.size := by cases b <;> simp [Tr.size]
theorem tdepth_pos (b : Tr) : 1 ≤ b.depth := by cases b <;> simp [Tr.depth]
section
variable {P : Program} {w : World} {K : PySem.W.Frag} {mg : Str → Option Value} {base : Heap}
def M_sizeT (n : Nat) (fa f : Addr) (F : NF) (l : Addr) (ss : List Str) : List D → (D → Prop) → Prop := fun ds k => ∃ (b : Tr) (a : Int), ds = [b.toD, .adr fa, .clo f F l ss, .int a] ∧ b.ok ss ∧ 0 ≤ a ∧ a + b.depth ≤ 10 ∧ b.depth ≤ n ∧ k (.int (b.size : Nat))
theorem ok_sizeT {fa f l fs : Addr} {F : NF} {ss : List Str} {fda fds : FuncData} (T : Txt w K mg) (Ca : CalF P w K mg base 1 "tree_arms" ["word"] none M_tree_arms fa fda) (Fn : NOk P w K mg base CX0 1 f F ["sort", "arm"] ["names"] (spN K (M_fitsT ss) l ss))
  (hm : mg "size_of" = some (.ref fs)) (FD : FunD K "size_of" "size_of" (defArgs s_size_of) (defBody s_size_of) (defScope s_size_of) [.int 0] [] fs fds) (hk : PySem.W.keepIn K (.ref fs) = true) (hb : Binds K fds ["nest", "arms_of", "fits", "around"] []) :
  ∀ n : Nat, FnC P w K mg base (Caught F ["names"] [some (.ref l)]) (n + 3) fs fds ["nest", "arms_of", "fits", "around"] (spD K none (M_sizeT n fa f F l ss)) := by
 intro n
 induction n with
 | zero =>
  refine okC FD sc_size_of (fun ds k h => ?_) (fun cdv A outer s H E ds kk hr hC h => ?_)
  ·obtain ⟨_, _, rfl, _⟩ := h
   rfl
  ·obtain ⟨b, _, _, _, _, _, h, _⟩ := h
   have := tdepth_pos b
   omega
 | succ n ih =>
  refine okC FD sc_size_of (fun ds k h => ?_) (fun cdv A outer s H E ds kk hr hC h => ?_)
  ·obtain ⟨_, _, rfl, _⟩ := h
   rfl
  obtain ⟨b, a, rfl, hb', h0, h1, h2, q⟩ := h
  obtain ⟨tm, gM⟩ := T.AROUND
  refine ⟨_, (pss_cons (ps_if (PW.pt (pw_or (pt_cmpR op_gt (pv 3) (pe_gint rfl gM) (nomark _)) (pw_or (pt_not (pt_val (pe_callB (r := rIsi K) (id := "isinstance")  call_isi (by rfl) T.z_isinstance (by decide +kernel) (pa_cons (pv 0) (pa_cons (pe_bty (n := "tuple") rfl T.z_tuple (by decide +kernel)) pa_nil))))) (pw_or1 (pt_not (pt_truth (pv 0) (by intro _; rfl))))))) (pss_one (ps_ret pe_int)) pss_nil)
   (pss_cons (ps_set (i := 4) sc_size_of.nd rfl (by first | exact Or.inl rfl | exact Or.inr rfl) (pe_callL (i := 1) Ca.ok (hr.mono (by omega)) rfl (by first | exact Or.inl rfl | exact Or.inr (Or.inl rfl)) Ca.keep Ca.binds .nil pass0 (pa_cons (pe_ix (r := rIx K) ix_seq (pv 0) pe_int (fun _ _ => rfl)) pa_nil)))
   (pss_cons (ps_if (PW.pt (pw_or (pt_cmpR op_isN (pv 4) pe_non (nomark _)) (pw_or1 (pt_cmpR op_ne (pe_callB (r := rLenQ K) (id := "len")  call_len_seq (by rfl) T.z_len PySem.boot_len (pa_cons (pv 4) pa_nil)) (pe_op op_sub (pe_callB (r := rLenQ K) (id := "len")  call_len_seq (by rfl) T.z_len PySem.boot_len (pa_cons (pv 0) pa_nil)) pe_int) (nomark _))))) (pss_one (ps_ret pe_int)) pss_nil)
   (pss_cons (ps_set (i := 5) sc_size_of.nd rfl (by first | exact Or.inl rfl | exact Or.inr rfl) pe_int)
   (pss_cons (ps_for PassesOwn.never rfl (RZ.pi_zipA (by rfl) T.z_zip (pa_cons (pv 4) (pa_cons (pe_slice (r := rSlA K) sl_tupA (pv 0) (po_some pe_int) po_none) pa_nil))) (pg_tupK (K := K) (n := 2) rfl rfl (pgs_cons (pg_name (i := 6) sc_size_of.nd rfl (by first | exact Or.inl rfl | exact Or.inr rfl)) (pgs_cons (pg_name (i := 7) sc_size_of.nd rfl (by first | exact Or.inl rfl | exact Or.inr rfl)) pgs_nil))) (pss_one (ps_if (pt_cmpR op_eq (pv 6) pe_str (nomark _)) (pss_cons (ps_set (i := 8) sc_size_of.nd rfl (by first | exact Or.inl rfl | exact Or.inr rfl) (pe_callC (Z := fun _ => True) ih (fun pins σ H s I _ => Caught.on hC rfl rfl rfl I) hr rfl hm hk hb .nil (pa_cons (pv 7) (pa_cons (pv 1) (pa_cons (pv 2) (pa_cons (pe_op op_add (pv 3) pe_int) pa_nil))))))
   (pss_cons (ps_if (pt_cmpR op_eq (pv 8) pe_int (nomark _)) (pss_one (ps_ret pe_int)) pss_nil)
   (pss_one (ps_aug (i := 5) sc_size_of.nd rfl (by first | exact Or.inl rfl | exact Or.inr rfl) (pv 8) ip_add)))) (pss_one (ps_if (pt_not (pt_val (pe_callF (i := 2) Fn hC.1 hC.2 rfl (hr.mono (by omega)) rfl (by first | exact Or.inl rfl | exact Or.inr (Or.inl rfl)) (pa_cons (pv 6) (pa_cons (pv 7) pa_nil))))) (pss_one (ps_ret pe_int)) pss_nil)))))
   (pss_one (ps_ret (pv 5)))))))), ?_⟩
  try dsimp only [cxOf]
  change dS _ _ _ [Sl.d _, Sl.d _, Sl.d _, Sl.d _, Sl.un, Sl.un, Sl.un, Sl.un, Sl.un] _
  have hd := tdepth_pos b
  have hna : decide ((9 : Int) < a) = false := decide_eq_false (by omega)
  have sz0 : ∀ x : Tr, decide ((x.size : Int) = 0) = false := fun x => decide_eq_false (by have := tsize_pos x; omega)
  have fin : ∀ {i j : Int}, kk (.int i) → i = j → kk (.int j) := fun h e => e ▸ h
  cases b <;> dsimp only [Tr.toD] <;> simp only [Tr.ok] at hb' <;> simp only [Tr.depth] at h1 h2
  case part p =>
   have ha : (("part" : Str), (["part"] : List Str)) ∈ treeTab := by decide
   have hf : (!decide (p ∈ ss)) = false := by simp [hb']
   refine s_seq (s_if (d_or (d_test (d_op (d_var rfl ?_)))))
   refine d_c rfl ?_
   refine r_I0 rfl ?_
   refine ⟨_, rfl, (br_f (by assumption) ?_)⟩
   refine d_or (d_not (d_tB (d_cb (d_cons (d_var rfl ?_)))))
   refine d_cons (d_c rfl ?_)
   refine d_nil (c_tup (by with_unfolding_all rfl) ?_)
   refine ⟨_, rfl, (br_f (by with_unfolding_all rfl) ?_)⟩
   refine d_not (d_truth (d_var rfl ?_))
   refine truOk_tup (br_f (by with_unfolding_all rfl) ?_)
   refine s_next (s_seq (s_set (d_callLP rfl ?_)))
   refine d_cons (d_op (d_var rfl ?_))
   refine d_c rfl ?_
   refine r_ix (.inr (r_ixT rfl ?_))
   refine d_nil ?_
   dsimp only
   refine ⟨_, _, rfl, ha, (s_seq (s_if (d_or (d_test (d_op (d_var rfl ?_))))))⟩
   refine d_c rfl ?_
   refine r_isN ⟨_, rfl, (br_f (by with_unfolding_all rfl) ?_)⟩
   refine d_test (d_op (d_cb (d_cons (d_var rfl ?_))))
   refine d_nil (c_lenS (.inr rfl) (d_op (d_cb (d_cons (d_var rfl ?_)))))
   refine d_nil (c_lenS (.inr rfl) (d_c rfl ?_))
   refine r_I0 rfl ?_
   refine r_neI ⟨_, rfl, (br_f (by with_unfolding_all rfl) ?_)⟩
   refine s_next (s_seq (s_set (d_c rfl ?_)))
   refine s_seq (s_for (i_zipT (d_cons (d_var rfl ?_))))
   refine d_cons (d_slT1 (d_var rfl ?_))
   refine ⟨_, _, rfl, (d_nil ⟨_, _, rfl, ?_⟩)⟩
   ((with_reducible refine forW_id ?_); refine forW_pair ?_)
   ((with_reducible refine g_tid ?_); refine g_tup rfl ?_)
   refine gs_cons (g_name (gs_cons (g_name (gs_nil (s_if (d_test (d_op (d_var rfl ?_))))))))
   refine d_c rfl ?_
   refine r_eqS ⟨_, rfl, (br_f (by with_unfolding_all rfl) ?_)⟩
   refine s_if (d_not (d_tB ?_))
   dsimp only
   refine d_callF rfl ?_
   refine d_cons (d_var rfl ?_)
   refine d_cons (d_var rfl ?_)
   refine d_nil ?_
   refine Or.inl ⟨_, rfl, ⟨_, rfl, (br_f (by assumption) ?_)⟩⟩
   refine s_next ?_
   ((with_reducible refine forW_id ?_); refine forW_pnil ?_)
   refine s_ret (d_var rfl ?_)
   dsimp only
   rotate_left
   refine fin q ?_
   simp only [Tr.size]
   omega
  case wit x y =>
   have ha : (("with" : Str), (["nest", "nest"] : List Str)) ∈ treeTab := by decide
   have ox := hb'.1
   have oy := hb'.2
   have zx := sz0 x
   have zy := sz0 y
   refine s_seq (s_if (d_or (d_test (d_op (d_var rfl ?_)))))
   refine d_c rfl ?_
   refine r_I0 rfl ?_
   refine ⟨_, rfl, (br_f (by assumption) ?_)⟩
   refine d_or (d_not (d_tB (d_cb (d_cons (d_var rfl ?_)))))
   refine d_cons (d_c rfl ?_)
   refine d_nil (c_tup (by with_unfolding_all rfl) ?_)
   refine ⟨_, rfl, (br_f (by with_unfolding_all rfl) ?_)⟩
   refine d_not (d_truth (d_var rfl ?_))
   refine truOk_tup (br_f (by with_unfolding_all rfl) ?_)
   refine s_next (s_seq (s_set (d_callLP rfl ?_)))
   refine d_cons (d_op (d_var rfl ?_))
   refine d_c rfl ?_
   refine r_ix (.inr (r_ixT rfl ?_))
   refine d_nil ?_
   dsimp only
   refine ⟨_, _, rfl, ha, (s_seq (s_if (d_or (d_test (d_op (d_var rfl ?_))))))⟩
   refine d_c rfl ?_
   refine r_isN ⟨_, rfl, (br_f (by with_unfolding_all rfl) ?_)⟩
   refine d_test (d_op (d_cb (d_cons (d_var rfl ?_))))
   refine d_nil (c_lenS (.inr rfl) (d_op (d_cb (d_cons (d_var rfl ?_)))))
   refine d_nil (c_lenS (.inr rfl) (d_c rfl ?_))
   refine r_I0 rfl ?_
   refine r_neI ⟨_, rfl, (br_f (by with_unfolding_all rfl) ?_)⟩
   refine s_next (s_seq (s_set (d_c rfl ?_)))
   refine s_seq (s_for (i_zipT (d_cons (d_var rfl ?_))))
   refine d_cons (d_slT1 (d_var rfl ?_))
   refine ⟨_, _, rfl, (d_nil ⟨_, _, rfl, ?_⟩)⟩
   ((with_reducible refine forW_id ?_); refine forW_pair ?_)
   ((with_reducible refine g_tid ?_); refine g_tup rfl ?_)
   refine gs_cons (g_name (gs_cons (g_name (gs_nil (s_if (d_test (d_op (d_var rfl ?_))))))))
   refine d_c rfl ?_
   refine r_eqS ⟨_, rfl, (br_t (by with_unfolding_all rfl) ?_)⟩
   refine s_seq (s_set ?_)
   dsimp only
   refine d_callS (fun _ => trivial) (dds := []) (fun _ => RelL.nil) (d_cons (d_var rfl ?_))
   refine d_cons (d_var rfl ?_)
   refine d_cons (d_var rfl ?_)
   refine d_cons (d_op (d_var rfl ?_))
   refine d_c rfl ?_
   refine r_I0 rfl ?_
   refine d_nil ?_
   refine ⟨_, _, rfl, ox, (by omega), (by omega), (by omega), ?_⟩
   refine s_seq (s_if (d_test (d_op (d_var rfl ?_))))
   refine d_c rfl ?_
   refine r_eqI ⟨_, rfl, (br_f (by assumption) ?_)⟩
   refine s_next (s_aug rfl ?_)
   refine d_var rfl ?_
   refine ⟨_, rfl, ?_⟩
   ((with_reducible refine forW_id ?_); refine forW_pair ?_)
   ((with_reducible refine g_tid ?_); refine g_tup rfl ?_)
   refine gs_cons (g_name (gs_cons (g_name (gs_nil (s_if (d_test (d_op (d_var rfl ?_))))))))
   refine d_c rfl ?_
   refine r_eqS ⟨_, rfl, (br_t (by with_unfolding_all rfl) ?_)⟩
   refine s_seq (s_set ?_)
   dsimp only
   refine d_callS (fun _ => trivial) (dds := []) (fun _ => RelL.nil) (d_cons (d_var rfl ?_))
   refine d_cons (d_var rfl ?_)
   refine d_cons (d_var rfl ?_)
   refine d_cons (d_op (d_var rfl ?_))
   refine d_c rfl ?_
   refine r_I0 rfl ?_
   refine d_nil ?_
   refine ⟨_, _, rfl, oy, (by omega), (by omega), (by omega), ?_⟩
   refine s_seq (s_if (d_test (d_op (d_var rfl ?_))))
   refine d_c rfl ?_
   refine r_eqI ⟨_, rfl, (br_f (by assumption) ?_)⟩
   refine s_next (s_aug rfl ?_)
   refine d_var rfl ?_
   refine ⟨_, rfl, ?_⟩
   ((with_reducible refine forW_id ?_); refine forW_pnil ?_)
   refine s_ret (d_var rfl ?_)
   dsimp only
   rotate_left
   refine fin q ?_
   simp only [Tr.size]
   omega
  case wo x d =>
   have ha : (("without" : Str), (["nest", "deed"] : List Str)) ∈ treeTab := by decide
   have ox := hb'.1
   have zx := sz0 x
   have hf : (!decide (d ∈ deedsS)) = false := by simp [hb'.2]
   refine s_seq (s_if (d_or (d_test (d_op (d_var rfl ?_)))))
   refine d_c rfl ?_
   refine r_I0 rfl ?_
   refine ⟨_, rfl, (br_f (by assumption) ?_)⟩
   refine d_or (d_not (d_tB (d_cb (d_cons (d_var rfl ?_)))))
   refine d_cons (d_c rfl ?_)
   refine d_nil (c_tup (by with_unfolding_all rfl) ?_)
   refine ⟨_, rfl, (br_f (by with_unfolding_all rfl) ?_)⟩
   refine d_not (d_truth (d_var rfl ?_))
   refine truOk_tup (br_f (by with_unfolding_all rfl) ?_)
   refine s_next (s_seq (s_set (d_callLP rfl ?_)))
   refine d_cons (d_op (d_var rfl ?_))
   refine d_c rfl ?_
   refine r_ix (.inr (r_ixT rfl ?_))
   refine d_nil ?_
   dsimp only
   refine ⟨_, _, rfl, ha, (s_seq (s_if (d_or (d_test (d_op (d_var rfl ?_))))))⟩
   refine d_c rfl ?_
   refine r_isN ⟨_, rfl, (br_f (by with_unfolding_all rfl) ?_)⟩
   refine d_test (d_op (d_cb (d_cons (d_var rfl ?_))))
   refine d_nil (c_lenS (.inr rfl) (d_op (d_cb (d_cons (d_var rfl ?_)))))
   refine d_nil (c_lenS (.inr rfl) (d_c rfl ?_))
   refine r_I0 rfl ?_
   refine r_neI ⟨_, rfl, (br_f (by with_unfolding_all rfl) ?_)⟩
   refine s_next (s_seq (s_set (d_c rfl ?_)))
   refine s_seq (s_for (i_zipT (d_cons (d_var rfl ?_))))
   refine d_cons (d_slT1 (d_var rfl ?_))
   refine ⟨_, _, rfl, (d_nil ⟨_, _, rfl, ?_⟩)⟩
   ((with_reducible refine forW_id ?_); refine forW_pair ?_)
   ((with_reducible refine g_tid ?_); refine g_tup rfl ?_)
   refine gs_cons (g_name (gs_cons (g_name (gs_nil (s_if (d_test (d_op (d_var rfl ?_))))))))
   refine d_c rfl ?_
   refine r_eqS ⟨_, rfl, (br_t (by with_unfolding_all rfl) ?_)⟩
   refine s_seq (s_set ?_)
   dsimp only
   refine d_callS (fun _ => trivial) (dds := []) (fun _ => RelL.nil) (d_cons (d_var rfl ?_))
   refine d_cons (d_var rfl ?_)
   refine d_cons (d_var rfl ?_)
   refine d_cons (d_op (d_var rfl ?_))
   refine d_c rfl ?_
   refine r_I0 rfl ?_
   refine d_nil ?_
   refine ⟨_, _, rfl, ox, (by omega), (by omega), (by omega), ?_⟩
   refine s_seq (s_if (d_test (d_op (d_var rfl ?_))))
   refine d_c rfl ?_
   refine r_eqI ⟨_, rfl, (br_f (by assumption) ?_)⟩
   refine s_next (s_aug rfl ?_)
   refine d_var rfl ?_
   refine ⟨_, rfl, ?_⟩
   ((with_reducible refine forW_id ?_); refine forW_pair ?_)
   ((with_reducible refine g_tid ?_); refine g_tup rfl ?_)
   refine gs_cons (g_name (gs_cons (g_name (gs_nil (s_if (d_test (d_op (d_var rfl ?_))))))))
   refine d_c rfl ?_
   refine r_eqS ⟨_, rfl, (br_f (by with_unfolding_all rfl) ?_)⟩
   refine s_if (d_not (d_tB ?_))
   dsimp only
   refine d_callF rfl ?_
   refine d_cons (d_var rfl ?_)
   refine d_cons (d_var rfl ?_)
   refine d_nil ?_
   refine Or.inr ⟨_, rfl, ⟨_, rfl, (br_f (by assumption) ?_)⟩⟩
   refine s_next ?_
   ((with_reducible refine forW_id ?_); refine forW_pnil ?_)
   refine s_ret (d_var rfl ?_)
   dsimp only
   rotate_left
   refine fin q ?_
   simp only [Tr.size]
   omega
  case also x d m =>
   have ha : (("also" : Str), (["nest", "deed", "deed"] : List Str)) ∈ treeTab := by decide
   have ox := hb'.1
   have zx := sz0 x
   have hf : (!decide (d ∈ deedsS)) = false := by simp [hb'.2.1]
   have hf2 : (!decide (m ∈ deedsS)) = false := by simp [hb'.2.2]
   refine s_seq (s_if (d_or (d_test (d_op (d_var rfl ?_)))))
   refine d_c rfl ?_
   refine r_I0 rfl ?_
   refine ⟨_, rfl, (br_f (by assumption) ?_)⟩
   refine d_or (d_not (d_tB (d_cb (d_cons (d_var rfl ?_)))))
   refine d_cons (d_c rfl ?_)
   refine d_nil (c_tup (by with_unfolding_all rfl) ?_)
   refine ⟨_, rfl, (br_f (by with_unfolding_all rfl) ?_)⟩
   refine d_not (d_truth (d_var rfl ?_))
   refine truOk_tup (br_f (by with_unfolding_all rfl) ?_)
   refine s_next (s_seq (s_set (d_callLP rfl ?_)))
   refine d_cons (d_op (d_var rfl ?_))
   refine d_c rfl ?_
   refine r_ix (.inr (r_ixT rfl ?_))
   refine d_nil ?_
   dsimp only
   refine ⟨_, _, rfl, ha, (s_seq (s_if (d_or (d_test (d_op (d_var rfl ?_))))))⟩
   refine d_c rfl ?_
   refine r_isN ⟨_, rfl, (br_f (by with_unfolding_all rfl) ?_)⟩
   refine d_test (d_op (d_cb (d_cons (d_var rfl ?_))))
   refine d_nil (c_lenS (.inr rfl) (d_op (d_cb (d_cons (d_var rfl ?_)))))
   refine d_nil (c_lenS (.inr rfl) (d_c rfl ?_))
   refine r_I0 rfl ?_
   refine r_neI ⟨_, rfl, (br_f (by with_unfolding_all rfl) ?_)⟩
   refine s_next (s_seq (s_set (d_c rfl ?_)))
   refine s_seq (s_for (i_zipT (d_cons (d_var rfl ?_))))
   refine d_cons (d_slT1 (d_var rfl ?_))
   refine ⟨_, _, rfl, (d_nil ⟨_, _, rfl, ?_⟩)⟩
   ((with_reducible refine forW_id ?_); refine forW_pair ?_)
   ((with_reducible refine g_tid ?_); refine g_tup rfl ?_)
   refine gs_cons (g_name (gs_cons (g_name (gs_nil (s_if (d_test (d_op (d_var rfl ?_))))))))
   refine d_c rfl ?_
   refine r_eqS ⟨_, rfl, (br_t (by with_unfolding_all rfl) ?_)⟩
   refine s_seq (s_set ?_)
   dsimp only
   refine d_callS (fun _ => trivial) (dds := []) (fun _ => RelL.nil) (d_cons (d_var rfl ?_))
   refine d_cons (d_var rfl ?_)
   refine d_cons (d_var rfl ?_)
   refine d_cons (d_op (d_var rfl ?_))
   refine d_c rfl ?_
   refine r_I0 rfl ?_
   refine d_nil ?_
   refine ⟨_, _, rfl, ox, (by omega), (by omega), (by omega), ?_⟩
   refine s_seq (s_if (d_test (d_op (d_var rfl ?_))))
   refine d_c rfl ?_
   refine r_eqI ⟨_, rfl, (br_f (by assumption) ?_)⟩
   refine s_next (s_aug rfl ?_)
   refine d_var rfl ?_
   refine ⟨_, rfl, ?_⟩
   ((with_reducible refine forW_id ?_); refine forW_pair ?_)
   ((with_reducible refine g_tid ?_); refine g_tup rfl ?_)
   refine gs_cons (g_name (gs_cons (g_name (gs_nil (s_if (d_test (d_op (d_var rfl ?_))))))))
   refine d_c rfl ?_
   refine r_eqS ⟨_, rfl, (br_f (by with_unfolding_all rfl) ?_)⟩
   refine s_if (d_not (d_tB ?_))
   dsimp only
   refine d_callF rfl ?_
   refine d_cons (d_var rfl ?_)
   refine d_cons (d_var rfl ?_)
   refine d_nil ?_
   refine Or.inr ⟨_, rfl, ⟨_, rfl, (br_f (by assumption) ?_)⟩⟩
   refine s_next ?_
   ((with_reducible refine forW_id ?_); refine forW_pair ?_)
   ((with_reducible refine g_tid ?_); refine g_tup rfl ?_)
   refine gs_cons (g_name (gs_cons (g_name (gs_nil (s_if (d_test (d_op (d_var rfl ?_))))))))
   refine d_c rfl ?_
   refine r_eqS ⟨_, rfl, (br_f (by with_unfolding_all rfl) ?_)⟩
   refine s_if (d_not (d_tB ?_))
   dsimp only
   refine d_callF rfl ?_
   refine d_cons (d_var rfl ?_)
   refine d_cons (d_var rfl ?_)
   refine d_nil ?_
   refine Or.inr ⟨_, rfl, ⟨_, rfl, (br_f (by assumption) ?_)⟩⟩
   refine s_next ?_
   ((with_reducible refine forW_id ?_); refine forW_pnil ?_)
   refine s_ret (d_var rfl ?_)
   dsimp only
   rotate_left
   refine fin q ?_
   simp only [Tr.size]
   omega
  case ren x d m =>
   have ha : (("renamed" : Str), (["nest", "deed", "deed"] : List Str)) ∈ treeTab := by decide
   have ox := hb'.1
   have zx := sz0 x
   have hf : (!decide (d ∈ deedsS)) = false := by simp [hb'.2.1]
   have hf2 : (!decide (m ∈ deedsS)) = false := by simp [hb'.2.2]
   refine s_seq (s_if (d_or (d_test (d_op (d_var rfl ?_)))))
   refine d_c rfl ?_
   refine r_I0 rfl ?_
   refine ⟨_, rfl, (br_f (by assumption) ?_)⟩
   refine d_or (d_not (d_tB (d_cb (d_cons (d_var rfl ?_)))))
   refine d_cons (d_c rfl ?_)
   refine d_nil (c_tup (by with_unfolding_all rfl) ?_)
   refine ⟨_, rfl, (br_f (by with_unfolding_all rfl) ?_)⟩
   refine d_not (d_truth (d_var rfl ?_))
   refine truOk_tup (br_f (by with_unfolding_all rfl) ?_)
   refine s_next (s_seq (s_set (d_callLP rfl ?_)))
   refine d_cons (d_op (d_var rfl ?_))
   refine d_c rfl ?_
   refine r_ix (.inr (r_ixT rfl ?_))
   refine d_nil ?_
   dsimp only
   refine ⟨_, _, rfl, ha, (s_seq (s_if (d_or (d_test (d_op (d_var rfl ?_))))))⟩
   refine d_c rfl ?_
   refine r_isN ⟨_, rfl, (br_f (by with_unfolding_all rfl) ?_)⟩
   refine d_test (d_op (d_cb (d_cons (d_var rfl ?_))))
   refine d_nil (c_lenS (.inr rfl) (d_op (d_cb (d_cons (d_var rfl ?_)))))
   refine d_nil (c_lenS (.inr rfl) (d_c rfl ?_))
   refine r_I0 rfl ?_
   refine r_neI ⟨_, rfl, (br_f (by with_unfolding_all rfl) ?_)⟩
   refine s_next (s_seq (s_set (d_c rfl ?_)))
   refine s_seq (s_for (i_zipT (d_cons (d_var rfl ?_))))
   refine d_cons (d_slT1 (d_var rfl ?_))
   refine ⟨_, _, rfl, (d_nil ⟨_, _, rfl, ?_⟩)⟩
   ((with_reducible refine forW_id ?_); refine forW_pair ?_)
   ((with_reducible refine g_tid ?_); refine g_tup rfl ?_)
   refine gs_cons (g_name (gs_cons (g_name (gs_nil (s_if (d_test (d_op (d_var rfl ?_))))))))
   refine d_c rfl ?_
   refine r_eqS ⟨_, rfl, (br_t (by with_unfolding_all rfl) ?_)⟩
   refine s_seq (s_set ?_)
   dsimp only
   refine d_callS (fun _ => trivial) (dds := []) (fun _ => RelL.nil) (d_cons (d_var rfl ?_))
   refine d_cons (d_var rfl ?_)
   refine d_cons (d_var rfl ?_)
   refine d_cons (d_op (d_var rfl ?_))
   refine d_c rfl ?_
   refine r_I0 rfl ?_
   refine d_nil ?_
   refine ⟨_, _, rfl, ox, (by omega), (by omega), (by omega), ?_⟩
   refine s_seq (s_if (d_test (d_op (d_var rfl ?_))))
   refine d_c rfl ?_
   refine r_eqI ⟨_, rfl, (br_f (by assumption) ?_)⟩
   refine s_next (s_aug rfl ?_)
   refine d_var rfl ?_
   refine ⟨_, rfl, ?_⟩
   ((with_reducible refine forW_id ?_); refine forW_pair ?_)
   ((with_reducible refine g_tid ?_); refine g_tup rfl ?_)
   refine gs_cons (g_name (gs_cons (g_name (gs_nil (s_if (d_test (d_op (d_var rfl ?_))))))))
   refine d_c rfl ?_
   refine r_eqS ⟨_, rfl, (br_f (by with_unfolding_all rfl) ?_)⟩
   refine s_if (d_not (d_tB ?_))
   dsimp only
   refine d_callF rfl ?_
   refine d_cons (d_var rfl ?_)
   refine d_cons (d_var rfl ?_)
   refine d_nil ?_
   refine Or.inr ⟨_, rfl, ⟨_, rfl, (br_f (by assumption) ?_)⟩⟩
   refine s_next ?_
   ((with_reducible refine forW_id ?_); refine forW_pair ?_)
   ((with_reducible refine g_tid ?_); refine g_tup rfl ?_)
   refine gs_cons (g_name (gs_cons (g_name (gs_nil (s_if (d_test (d_op (d_var rfl ?_))))))))
   refine d_c rfl ?_
   refine r_eqS ⟨_, rfl, (br_f (by with_unfolding_all rfl) ?_)⟩
   refine s_if (d_not (d_tB ?_))
   dsimp only
   refine d_callF rfl ?_
   refine d_cons (d_var rfl ?_)
   refine d_cons (d_var rfl ?_)
   refine d_nil ?_
   refine Or.inr ⟨_, rfl, ⟨_, rfl, (br_f (by assumption) ?_)⟩⟩
   refine s_next ?_
   ((with_reducible refine forW_id ?_); refine forW_pnil ?_)
   refine s_ret (d_var rfl ?_)
   dsimp only
   rotate_left
   refine fin q ?_
   simp only [Tr.size]
   omega
  case over x p =>
   have ha : (("over" : Str), (["nest", "part"] : List Str)) ∈ treeTab := by decide
   have ox := hb'.1
   have zx := sz0 x
   have hf : (!decide (p ∈ ss)) = false := by simp [hb'.2]
   refine s_seq (s_if (d_or (d_test (d_op (d_var rfl ?_)))))
   refine d_c rfl ?_
   refine r_I0 rfl ?_
   refine ⟨_, rfl, (br_f (by assumption) ?_)⟩
   refine d_or (d_not (d_tB (d_cb (d_cons (d_var rfl ?_)))))
   refine d_cons (d_c rfl ?_)
   refine d_nil (c_tup (by with_unfolding_all rfl) ?_)
   refine ⟨_, rfl, (br_f (by with_unfolding_all rfl) ?_)⟩
   refine d_not (d_truth (d_var rfl ?_))
   refine truOk_tup (br_f (by with_unfolding_all rfl) ?_)
   refine s_next (s_seq (s_set (d_callLP rfl ?_)))
   refine d_cons (d_op (d_var rfl ?_))
   refine d_c rfl ?_
   refine r_ix (.inr (r_ixT rfl ?_))
   refine d_nil ?_
   dsimp only
   refine ⟨_, _, rfl, ha, (s_seq (s_if (d_or (d_test (d_op (d_var rfl ?_))))))⟩
   refine d_c rfl ?_
   refine r_isN ⟨_, rfl, (br_f (by with_unfolding_all rfl) ?_)⟩
   refine d_test (d_op (d_cb (d_cons (d_var rfl ?_))))
   refine d_nil (c_lenS (.inr rfl) (d_op (d_cb (d_cons (d_var rfl ?_)))))
   refine d_nil (c_lenS (.inr rfl) (d_c rfl ?_))
   refine r_I0 rfl ?_
   refine r_neI ⟨_, rfl, (br_f (by with_unfolding_all rfl) ?_)⟩
   refine s_next (s_seq (s_set (d_c rfl ?_)))
   refine s_seq (s_for (i_zipT (d_cons (d_var rfl ?_))))
   refine d_cons (d_slT1 (d_var rfl ?_))
   refine ⟨_, _, rfl, (d_nil ⟨_, _, rfl, ?_⟩)⟩
   ((with_reducible refine forW_id ?_); refine forW_pair ?_)
   ((with_reducible refine g_tid ?_); refine g_tup rfl ?_)
   refine gs_cons (g_name (gs_cons (g_name (gs_nil (s_if (d_test (d_op (d_var rfl ?_))))))))
   refine d_c rfl ?_
   refine r_eqS ⟨_, rfl, (br_t (by with_unfolding_all rfl) ?_)⟩
   refine s_seq (s_set ?_)
   dsimp only
   refine d_callS (fun _ => trivial) (dds := []) (fun _ => RelL.nil) (d_cons (d_var rfl ?_))
   refine d_cons (d_var rfl ?_)
   refine d_cons (d_var rfl ?_)
   refine d_cons (d_op (d_var rfl ?_))
   refine d_c rfl ?_
   refine r_I0 rfl ?_
   refine d_nil ?_
   refine ⟨_, _, rfl, ox, (by omega), (by omega), (by omega), ?_⟩
   refine s_seq (s_if (d_test (d_op (d_var rfl ?_))))
   refine d_c rfl ?_
   refine r_eqI ⟨_, rfl, (br_f (by assumption) ?_)⟩
   refine s_next (s_aug rfl ?_)
   refine d_var rfl ?_
   refine ⟨_, rfl, ?_⟩
   ((with_reducible refine forW_id ?_); refine forW_pair ?_)
   ((with_reducible refine g_tid ?_); refine g_tup rfl ?_)
   refine gs_cons (g_name (gs_cons (g_name (gs_nil (s_if (d_test (d_op (d_var rfl ?_))))))))
   refine d_c rfl ?_
   refine r_eqS ⟨_, rfl, (br_f (by with_unfolding_all rfl) ?_)⟩
   refine s_if (d_not (d_tB ?_))
   dsimp only
   refine d_callF rfl ?_
   refine d_cons (d_var rfl ?_)
   refine d_cons (d_var rfl ?_)
   refine d_nil ?_
   refine Or.inl ⟨_, rfl, ⟨_, rfl, (br_f (by assumption) ?_)⟩⟩
   refine s_next ?_
   ((with_reducible refine forW_id ?_); refine forW_pnil ?_)
   refine s_ret (d_var rfl ?_)
   dsimp only
   rotate_left
   refine fin q ?_
   simp only [Tr.size]
   omega
end
end Pr
set_option Elab.async false
set_option linter.all false
set_option maxRecDepth 100000
set_option maxHeartbeats 4000000
namespace Pr
open PySem L2 PD
variable [Tabs]
structure ShOk (ps : List Pt) : Prop where
 len : ps.length ≤ 6
 ok : ∀ p ∈ ps, p.ok
 nd : (ps.map Pt.name).Nodup
section
variable {P : Program} {w : World} {K : PySem.W.Frag} {mg : Str → Option Value} {base : Heap}
def M_check_shelf : List D → (D → Prop) → Prop := fun ds k => ∃ ps : List Pt, ds = [.lst (ps.map Pt.toD)] ∧ ShOk ps ∧ k .non
theorem names_of {hs : Option (Addr × Addr)} {ρ : List Sl} {j : Nat} {ps : List Pt} {kl : List D → Prop} (hj : j ∈ [j]) (hl : j < ρ.length) (q : kl (strsOf (ps.map Pt.name))) : lcW K hs (gName j) [j] tYes (tOp (rIx K) (tVar j) (tC (.int 0))) ρ kl (ps.map Pt.toD) [] := by
 refine lcW_mem Pt.toD (fun _ => true) (fun p => .str p.name) ps (fun p hp kk hk => g_nameV hj (hk _ (fun kb q => d_yes q) fun _ k q => ?_)) ?_
 ·exact d_op (d_var (get_set hl) (d_c rfl (r_ix (.inr (r_ixT (show atI _ ((0 : Nat) : Int) = _ from atI_nat rfl) q)))))
 ·rw [List.filter_eq_self.mpr fun _ _ => rfl]
  unfold strsOf at q
  rw [List.map_map] at q
  exact q
theorem ok_check_shelf (T : Txt w K mg) : Cal P w K mg base 19 "check_shelf" ["shelf"] none M_check_shelf := by
 have C_check_part := ok_check (P := P) (base := base) T
 refine okF T.f_check_shelf sc_check_shelf (fun _ _ _ _ _ _ us hl => match us, hl with | [_], _ => rfl) (fun ds k h => ?_) (fun f cdv A outer s H E ds kk hr h => ?_)
 ·obtain ⟨_, rfl, _⟩ := h
  rfl
 obtain ⟨ps, rfl, hp, q⟩ := h
 obtain ⟨tm, gM⟩ := T.MPARTS
 refine ⟨_, (pss_cons (ps_for PassesOwn.never rfl (pi_list (pv 0)) (pg_name (i := 1) sc_check_shelf.nd rfl (by first | exact Or.inl rfl | exact Or.inr rfl)) (pss_one (ps_expr (pe_calK (K := K) rfl C_check_part (hr.mono (by first | decide | omega)) rfl (pa_cons (pv 1) pa_nil)))))
   (pss_cons (ps_if (pt_cmpR op_gt (pe_callB (r := rLenQ K) (id := "len")  call_len_seq (by rfl) T.z_len PySem.boot_len (pa_cons (pv 0) pa_nil)) (pe_gint rfl gM) (nomark _)) (pss_one ps_never) pss_nil)
   (pss_cons (ps_setLc (i := 2) (own := [("part", 1)]) (g := gName 1) (tt := tYes) rfl sc_check_shelf.nd rfl rfl (sw_true rfl rfl rfl (by decide +kernel)) (pi_list (pv 0)) (blkOk_by (own := [("part", 1)]) (N := N_check_shelf) (sc := defScope s_check_shelf) (by decide +kernel)) (fun _ _ _ _ _ => (pg_name (i := 1) sc_check_shelf.nd rfl (by first | exact Or.inl rfl | exact Or.inr rfl))) (fun _ _ _ _ _ => pts_nil) (fun _ _ _ _ _ => (pe_ix (r := rIx K) ix_seq (pv 1) pe_int (fun _ _ => rfl))))
   (pss_one (ps_if (pt_cmpR op_ne (pe_callB (r := PTT.rLenTx w) (id := "len") PTT.cr_lenTx (by rfl) T.z_len PySem.boot_len (pa_cons (pe_callTy (r := PT.rSetTx K w) (T := "set") (PT.cr_setTx rfl) (by rfl) T.z_set (by decide +kernel) (pa_cons (pv 2) pa_nil)) pa_nil)) (pe_callB (r := rLenQ K) (id := "len")  call_len_seq (by rfl) T.z_len PySem.boot_len (pa_cons (pv 2) pa_nil)) (nomark _)) (pss_one ps_never) pss_nil))))), ?_⟩
 try dsimp only [cxOf]
 change dS _ _ _ [Sl.d _, Sl.un, Sl.un] _
 have l6 := hp.len
 refine s_seq (s_for (i_list (d_var rfl ⟨_, rfl, ?_⟩)))
 refine forW_inv (fun r ρ' => (∀ d ∈ r, ∃ p : Pt, d = p.toD ∧ p.ok) ∧ ∃ s1, ρ' = [.d (.lst (ps.map Pt.toD)), s1, .un]) ?_ ?_ _ _ ⟨fun d hd => ?_, .un, rfl⟩
 ·rintro ρ' ⟨_, s1, rfl⟩
  have h6 : decide ((6 : Int) < ((ps.map Pt.toD).length : Int)) = false := decide_eq_false (by rw [List.length_map]; omega)
  refine s_seq (s_if (d_test (d_op (d_cb (d_cons (d_var rfl (d_nil (c_lenS (.inl rfl) (d_c rfl (r_I0 rfl ⟨false, ?_, ?_⟩)))))))))) 
  ·rw [← h6]
  ·refine br_f rfl (s_next (s_seq (s_setL (i_list (d_var rfl ⟨_, rfl, by rw [List.length_map]; omega, ?_⟩)))))
   refine names_of (by decide) (show 1 < 3 by decide) ?_
   refine s_if (d_test (d_op (d_lenTx (d_var rfl ⟨ps.map Pt.name, rfl, by rw [List.length_map]; omega, fun ys y1 y2 => d_cb (d_cons (d_var rfl (d_nil (c_lenS (.inl rfl) (r_neI ⟨false, ?_, br_f rfl (s_next q)⟩))))) ⟩))))
   have e : ys.length = (ps.map Pt.name).length := Nat.le_antisymm (PT.nodup_le y1 fun x hx => (y2 x).mp hx) (PT.nodup_le hp.nd fun x hx => (y2 x).mpr hx)
   rw [e]
   simp [strsOf]
 ·rintro d r ρ' ⟨hr', s1, rfl⟩
  obtain ⟨p, rfl, hpo⟩ := hr' d List.mem_cons_self
  exact g_name (s_drop (d_call (d_cons (d_var rfl (d_nil (m_part hpo ⟨fun x hx => hr' x (List.mem_cons_of_mem _ hx), _, rfl⟩))))))
 ·obtain ⟨p, h, rfl⟩ := List.mem_map.mp hd
  exact ⟨p, rfl, hp.ok p h⟩
end
end Pr
set_option Elab.async false
set_option linter.all false
set_option maxRecDepth 100000
set_option maxHeartbeats 4000000
namespace Pr
open PySem L2 PD NdefX LamX
variable [Tabs]
section
variable {P : Program} {w : World} {K : PySem.W.Frag} {mg : Str → Option Value} {base : Heap}
structure CkTab (K : PySem.W.Frag) (mg : Str → Option Value) (base : Heap) (c p : Addr) (nm : Nat → Nat → Str) : Prop where
 tab : TabB base mg c p
 mem : (p, nm) ∈ Tabs.T
 one : ∀ q ∈ Tabs.T, q.1 = p → q.2 = nm
 nm : ∀ ps : Pos, (∃ b, s_fits_tree = .FunctionDef "fits_tree" (C8.fnArgs s_fits_tree) b [] none [] (C8.fnScope s_fits_tree) none "fits_tree" ps) → nm ps.line ps.col = ("check_tree" : Str) ++ (".<locals>." : Str) ++ "fits_tree"
 code : ∀ (f : Addr) (oc : Value) (od : Option Addr) (fd : FuncData) (osl : Array (Option Value)), mg "check_tree" = some (.ref f) → K.lookup f = some ⟨oc, od, .func fd, osl⟩ → fd.code = .ref c
theorem free_ok : ∀ y ∈ (C8.fnScope s_fits_tree).names, y.2 = .free → (defScope s_check_tree).names.lookup y.1 = some .cell ∨ (defScope s_check_tree).names.lookup y.1 = some .free := by decide +kernel
abbrev mkF (P : Program) (w : World) (K : PySem.W.Frag) (mg : Str → Option Value) (base : Heap) (f c : Addr) (A : Around) (outer : List Env) (s : Shared) (H : Hp) (E : XK) (c' : Addr) : NF :=
 fitF (cloFrom (cxOf CX0 P w K mg base N_check_tree "check_tree" (defScope s_check_tree) f (.ref c) A outer s H E).nox.env.cells (C8.fnScope s_fits_tree).names []) c'
def M_check_tree : List D → (D → Prop) → Prop := fun ds k => ∃ (ps : List Pt) (t : Tr), ds = [.lst (ps.map Pt.toD), t.toD] ∧ ShOk ps ∧ t.ok (ps.map Pt.name) ∧ t.depth ≤ 9 ∧ t.size ≤ 40 ∧ k .non
theorem ok_check_tree {c p : Addr} {nm : Nat → Nat → Str} (T : Txt w K mg) (CT : CkTab K mg base c p nm) : Cal P w K mg base 20 "check_tree" ["shelf", "tree"] none M_check_tree := by
 obtain ⟨fa, fda, Ca⟩ := ok_tree_arms (P := P) (base := base) T
 obtain ⟨fs, fds, hm, FD⟩ := T.f_size_of
 have b2 := FD.binds1 (ps := ["nest", "arms_of", "fits", "around"]) 4 1 (by decide) rfl fun T kV doc pm an cdv ct us its h3 h4 => match us, h3, its, h4 with | [_, _, _, _], _, [_], _ => ⟨_, rfl, rfl⟩
 have b1 := FD.binds1 (ps := ["nest", "arms_of", "fits", "around"]) 3 0 (by decide) rfl fun T kV doc pm an cdv ct us its h3 h4 => match us, h3, its, h4 with | [_, _, _], _, [_], _ => ⟨_, rfl, rfl⟩
 obtain ⟨ds1, v1, b1⟩ := b1
 obtain ⟨ds2, v2, b2⟩ := b2
 cases v2
 refine okX T.f_check_tree CT.code sc_check_tree (fun _ _ _ _ _ _ us hl => match us, hl with | [_, _], _ => rfl) (fun ds k h => ?_) (fun f A outer s H E ds kk hr h => ?_)
 ·obtain ⟨_, _, rfl, _⟩ := h
  rfl
 obtain ⟨ps, t, rfl, hp, ht, hd, hz, q⟩ := h
 obtain ⟨tm, gM⟩ := T.MTREES
 obtain ⟨aD, gD, rD⟩ := T.DEEDS.ex
 have ga := Ca.at_
 refine ⟨_, (pss_cons (ps_set (i := 2) sc_check_tree.nd rfl (by first | exact Or.inl rfl | exact Or.inr rfl) (pe_lc (own := [("part", 3)]) (g := gName 3) (tt := tYes) rfl sc_check_tree.nd (pi_list (pv 0)) (blkOk_by (own := [("part", 3)]) (N := N_check_tree) (sc := defScope s_check_tree) (by decide +kernel)) (fun _ _ _ _ _ => (pg_name (i := 3) sc_check_tree.nd rfl (by first | exact Or.inl rfl | exact Or.inr rfl))) (fun _ _ _ _ _ => pts_nil) (fun _ _ _ _ _ => (pe_ix (r := rIx K) ix_seq (pv 3) pe_int (fun _ _ => rfl)))))
   (pss_cons (ps_nd (i := 4) (st := s_fits_tree) (nm := nm) (c := c) (P := p) rfl CT.tab rfl (CT.nm _ ⟨_, rfl⟩) free_ok rfl rfl rfl sc_check_tree.nd rfl (by first | exact Or.inl rfl | exact Or.inr rfl) (.inl rfl))
   (pss_one (ps_if (pt_not (pt_chain op_le op_le pe_int (pe_callM (j := 2) (y := "names") (mk := mkF P w K mg base f c A outer s H E) (sp := fun f F l => spD K none (M_sizeT 9 fa f F l (ps.map Pt.name))) (fun f' c' l' => ok_sizeT T Ca (ok_fitsT T _ f' c' l' (ps.map Pt.name)) hm FD FD.kp b2 9) (fun _ => rfl) (fun ok => Caps.made (scope := C8.fnScope s_fits_tree) ok free_ok (by decide +kernel) rfl) (fun _ => rfl) rfl rfl (hr.mono (show 12 ≤ 19 by decide)) rfl hm FD.kp b1 v1 (pa_cons (pv 1) (pa_cons (pe_gref rfl ga) (pa_cons (pv 4) pa_nil)))) (pe_gint rfl gM))) (pss_one ps_never) pss_nil)))), ?_⟩
 try dsimp only [cxOf]
 change dS _ _ _ [Sl.d _, Sl.d _, Sl.un, Sl.un, Sl.un] _
 have l6 := hp.len
 have h1 : decide ((1 : Int) ≤ (t.size : Int)) = true := decide_eq_true (by have := tsize_pos t; omega)
 have h2 : decide ((t.size : Int) ≤ (40 : Int)) = true := decide_eq_true (by omega)
 refine s_names (mk := mkF P w K mg base f c A outer s H E) CT.mem CT.one (fun _ => rfl) (d_lc (i_list (d_var rfl ⟨_, rfl, by rw [List.length_map]; omega, ?_⟩)))
 refine names_of (by decide) (show 3 < 5 by decide) ⟨_, rfl, fun c' f' l' => ?_⟩
 refine s_if (d_not (d_test (d_chain (d_c rfl ?_))))
 (refine d_callM (M := fun f F l => M_sizeT 9 fa f F l (ps.map Pt.name)) (f := f') (c := c') (l := l') (dds := [.int 0]) rfl (fun _ => RelL.cons Rel.int RelL.nil) ?_)
 refine d_cons (d_var rfl ?_)
 refine d_cons (d_c rfl ?_)
 refine d_cons (d_var rfl ?_)
 refine d_nil ?_
 refine ⟨t, 0, rfl, ht, (by omega), (by omega), (by omega), ?_⟩
 refine r_I0 rfl ?_
 refine ⟨_, rfl, (br_t (by assumption) ?_)⟩
 refine d_c rfl ?_
 refine r_I0 rfl ?_
 refine ⟨_, rfl, ⟨fun _ => ?_, fun _ => (s_next ?_)⟩⟩
 rotate_left
 with_reducible assumption
 all_goals first | exact q | (exfalso; rename_i e; first | (rw [h2] at e; cases e) | (rw [h1] at e; cases e))
end
end Pr
set_option Elab.async false
set_option linter.all false
set_option maxRecDepth 100000
set_option maxHeartbeats 4000000
namespace Pr
open PySem L2 PD
variable [Tabs]
theorem cut_to {xs : List D} {k : Nat} (h : k ≤ xs.length) : cutD xs none (some (k : Int)) = xs.take k := by
 unfold cutD
 rw [HT.sIx_none, HT.sIx_nat]
 simp [Nat.min_eq_left h]
theorem cut_from {xs : List D} {k : Nat} : cutD xs (some (k : Int)) none = xs.drop k := by
 unfold cutD
 rw [HT.sIx_none, HT.sIx_nat]
 by_cases h : k ≤ xs.length
 ·rw [Nat.min_eq_left h, List.take_of_length_le (by rw [List.length_drop]; omega)]
 ·have e : xs.drop k = [] := List.drop_eq_nil_of_le (by omega)
  rw [e, Nat.min_eq_right (by omega)]
  simp
end Pr
set_option Elab.async false
set_option linter.all false
set_option maxRecDepth 100000
set_option maxHeartbeats 4000000
namespace Pr
open PySem L2 PD
variable [Tabs]
abbrev s_law_tree : Stmt := top 67
abbrev N_law_tree : List Str := ["_law_h", "_law_shelf_here", "_law_deep_here", "_law_name", "_law_turn", "_law_one", "_law_some", "_law_deed", "_law_new"]
theorem sc_law_tree : FnScope N_law_tree ["_law_h", "_law_shelf_here", "_law_deep_here"] (defScope s_law_tree) := ⟨rfl, rfl, rfl, by decide +kernel, rfl, by decide +kernel, by decide +kernel⟩
section
variable {P : Program} {w : World} {K : PySem.W.Frag} {mg : Str → Option Value} {base : Heap}
theorem c_lenT {hs : Option (Addr × Addr)} {z : Str} {k : D → Prop} (hz : z.length ≤ 100000) (q : k (.int z.length)) : dC K hs (fun xs H Q => ∃ z : Str, xs = [.str z] ∧ z.length ≤ sizeLine ∧ Q (.int z.length) H) [.str z] k := fun G H vs Q f r zz => by
 cases r with
 | cons r1 r2 =>
  cases r2
  rw [rel_str r1]
  exact ⟨z, rfl, Nat.le_trans hz (by decide), zz _ G H _ f.refl .int q⟩
theorem s_par {hs : Option (Addr × Addr)} {ρ : List Sl} {E : DEnds} {i j : Nat} {ta : TA} (h : dA K hs ta ρ fun ds => ∃ x y, ds = [x, y] ∧ E.nx ((ρ.set i (.d x)).set j (.d y))) : dS K hs (tPar i j ta) ρ E := fun G0 H0 Gb σ G H D s b R z =>
 h H0 σ G H _ s.fr R fun vs G1 H1 ds s1 r ⟨x, y, e, q⟩ => by
  subst e
  cases r with
  | cons r1 r =>
   cases r with
   | cons r2 r =>
    cases r
    exact ⟨_, _, rfl, z.nx _ _ _ _ (s.trans s1) (b.trans s1.exg) (((R.step s1).set (s := .d x) ⟨_, rfl, r1⟩ fun _ e => by cases e).set (s := .d y) ⟨_, rfl, r2⟩ fun _ e => by cases e) q⟩
def M_tree (ah : Addr) (n : Nat) : List D → (D → Prop) → Prop := fun ds k => ∃ (ps : List Pt) (deep : Int), ds = [.adr ah, .lst (ps.map Pt.toF), .int deep] ∧ ps.length ≤ 6 ∧ 1 ≤ ps.length ∧ 0 ≤ deep ∧ deep < n ∧ ∀ t : Tr, t.ok (ps.map Pt.name) → (t.depth : Int) ≤ deep + 1 → k t.toD
theorem abc_len {n : Int} (h2 : 2 ≤ n) (h8 : n ≤ 8) : (cutS ("abcdefgh" : Str) none (some n)).length = n.toNat ∧ (cutS ("abcdefgh" : Str) none (some n)).cps.toList.length = n.toNat := by
 have : n = 2 ∨ n = 3 ∨ n = 4 ∨ n = 5 ∨ n = 6 ∨ n = 7 ∨ n = 8 := by omega
 rcases this with rfl | rfl | rfl | rfl | rfl | rfl | rfl <;> decide +kernel
theorem ok_ltree {ah as : Addr} (F : DefT K mg "_law_tree" s_law_tree) (zn : mg "len" = none) (C_law_next : Cal P w K mg base 1 "_law_next" ["_law_h", "_law_many_here"] (some (ah, as)) (M_next ah)) :
  ∀ n : Nat, Cal P w K mg base (n + 2) "_law_tree" ["_law_h", "_law_shelf_here", "_law_deep_here"] (some (ah, as)) (M_tree ah n) := by
 intro n
 induction n with
 | zero =>
  refine okF F sc_law_tree (fun _ _ _ _ _ _ us hl => match us, hl with | [_, _, _], _ => rfl) (fun ds k h => ?_) (fun f cdv A outer s H E ds kk hr h => ?_)
  ·obtain ⟨_, _, rfl, _⟩ := h
   rfl
  ·obtain ⟨_, deep, _, _, _, h0, h1, _⟩ := h
   omega
 | succ n ih =>
  have C_law_tree := ih
  have C_law_next := C_law_next.mono (show 1 ≤ n + 2 by omega)
  refine okF F sc_law_tree (fun _ _ _ _ _ _ us hl => match us, hl with | [_, _, _], _ => rfl) (fun ds k h => ?_) (fun f cdv A outer s H E ds kk hr h => ?_)
  ·obtain ⟨_, _, rfl, _⟩ := h
   rfl
  obtain ⟨ps, deep, rfl, l6, l1, h0, h1, q⟩ := h
  refine ⟨_, (pss_cons (ps_set (i := 3) sc_law_tree.nd rfl (by first | exact Or.inl rfl | exact Or.inr rfl) (pe_ix (r := rIx K) ix_seq (pe_ix (r := rIx K) ix_seq (pv 1) (pe_calK (K := K) rfl C_law_next (hr.mono (by first | decide | omega)) rfl (pa_cons (pv 0) (pa_cons (pe_callB (r := rLenQ K) (id := "len")  call_len_seq (by rfl) zn PySem.boot_len (pa_cons (pv 1) pa_nil)) pa_nil))) (fun _ _ => rfl)) pe_int (fun _ _ => rfl)))
   (pss_cons (ps_if (PW.pt (pw_or (pt_cmpR op_eq (pv 2) pe_int (nomark _)) (pw_or1 (pt_cmpR op_eq (pe_calK (K := K) rfl C_law_next (hr.mono (by first | decide | omega)) rfl (pa_cons (pv 0) (pa_cons pe_int pa_nil))) pe_int (nomark _))))) (pss_one (ps_ret (pe_tup (pa_cons pe_str (pa_cons (pv 3) pa_nil))))) pss_nil)
   (pss_cons (ps_set (i := 4) sc_law_tree.nd rfl (by first | exact Or.inl rfl | exact Or.inr rfl) (pe_calK (K := K) rfl C_law_next (hr.mono (by first | decide | omega)) rfl (pa_cons (pv 0) (pa_cons pe_int pa_nil))))
   (pss_cons (ps_set (i := 5) sc_law_tree.nd rfl (by first | exact Or.inl rfl | exact Or.inr rfl) (pe_calK (K := K) rfl C_law_tree (hr.mono (by first | decide | omega)) rfl (pa_cons (pv 0) (pa_cons (pv 1) (pa_cons (pe_op op_sub (pv 2) pe_int) pa_nil)))))
   (pss_cons (ps_if (pt_cmpR op_lt (pv 4) pe_int (nomark _)) (pss_one (ps_ret (pe_tup (pa_cons pe_str (pa_cons (pv 5) (pa_cons (pe_calK (K := K) rfl C_law_tree (hr.mono (by first | decide | omega)) rfl (pa_cons (pv 0) (pa_cons (pv 1) (pa_cons (pe_op op_sub (pv 2) pe_int) pa_nil)))) pa_nil)))))) pss_nil)
   (pss_cons (ps_if (pt_cmpR op_eq (pv 4) pe_int (nomark _)) (pss_one (ps_ret (pe_tup (pa_cons pe_str (pa_cons (pv 5) (pa_cons (pv 3) pa_nil)))))) pss_nil)
   (pss_cons (ps_set (i := 6) sc_law_tree.nd rfl (by first | exact Or.inl rfl | exact Or.inr rfl) (pe_slice sl_str pe_str po_none (po_some (pe_op op_add pe_int (pe_calK (K := K) rfl C_law_next (hr.mono (by first | decide | omega)) rfl (pa_cons (pv 0) (pa_cons pe_int pa_nil)))))))
   (pss_cons (ps_par (i := 7) (j := 8) rfl sc_law_tree.nd rfl rfl (by decide) rfl rfl (pa_cons (pe_ix ix_str (pv 6) (pe_calK (K := K) rfl C_law_next (hr.mono (by first | decide | omega)) rfl (pa_cons (pv 0) (pa_cons (pe_callB (id := "len")  call_len_str (by rfl) zn PySem.boot_len (pa_cons (pv 6) pa_nil)) pa_nil))) (fun _ _ => rfl)) (pa_cons (pe_ix ix_str (pv 6) (pe_calK (K := K) rfl C_law_next (hr.mono (by first | decide | omega)) rfl (pa_cons (pv 0) (pa_cons (pe_callB (id := "len")  call_len_str (by rfl) zn PySem.boot_len (pa_cons (pv 6) pa_nil)) pa_nil))) (fun _ _ => rfl)) pa_nil)) rfl)
   (pss_one (ps_ret (pe_ix (r := rIx K) ix_seq (pe_lst (pa_cons (pe_tup (pa_cons pe_str (pa_cons (pv 5) (pa_cons (pv 7) pa_nil)))) (pa_cons (pe_tup (pa_cons pe_str (pa_cons (pv 5) (pa_cons (pv 7) pa_nil)))) (pa_cons (pe_tup (pa_cons pe_str (pa_cons (pv 5) (pa_cons (pv 7) (pa_cons (pv 8) pa_nil))))) (pa_cons (pe_tup (pa_cons pe_str (pa_cons (pv 5) (pa_cons (pv 7) (pa_cons (pv 8) pa_nil))))) pa_nil))))) (pe_op op_sub (pv 4) pe_int) (fun _ _ => rfl)))))))))))), ?_⟩
  try dsimp only [cxOf]
  change dS _ _ _ [Sl.d _, Sl.d _, Sl.d _, Sl.un, Sl.un, Sl.un, Sl.un, Sl.un, Sl.un] _
  refine s_seq (s_set (d_op (d_op (d_var rfl (d_call (d_cons (d_var rfl (d_cons (d_cb (d_cons (d_var rfl (d_nil (c_lenS (.inl rfl) (d_nil (m_next (by rw [List.length_map]; omega) (by rw [List.length_map]; omega) fun r r0 r1 => r_pick r0 r1 fun d hd => ?_)))))))))))))))
  obtain ⟨p, hp, rfl⟩ := List.mem_map.mp hd
  have pn : p.name ∈ ps.map Pt.name := List.mem_map.mpr ⟨p, hp, rfl⟩
  refine d_c rfl (r_ix (.inr (r_ixT (show atI _ ((0 : Nat) : Int) = _ from atI_nat rfl) ?_)))
  have leaf : kk (Tr.part p.name).toD := q (.part p.name) pn (by simp [Tr.depth]; omega)
  have ret0 : ∀ nx : List Sl → Prop, dS K (some (ah, as)) (tRet (tTup (tCons (tC (.str "part")) (tCons (tVar 3) tNil)))) [.d (.adr ah), .d (.lst (ps.map Pt.toF)), .d (.int deep), .d (.str p.name), .un, .un, .un, .un, .un] { nx := nx, rt := kk } := fun nx => s_ret (d_tup (d_cons (d_c rfl (d_cons (d_var rfl (d_nil ⟨by simp, leaf⟩))))))
  refine s_seq (s_if (d_or (d_test (d_op (d_var rfl (d_c rfl (r_eqI ⟨_, rfl, fun _ => br_t rfl (ret0 _), fun e => ?_⟩)))))))
  have d1 : deep ≠ 0 := of_decide_eq_false e
  refine d_test (d_op (d_next rfl (by decide) (by decide) fun r r0 r1 => d_c rfl (r_eqI ⟨_, rfl, fun _ => ret0 _, fun _ => s_next ?_⟩)))
  refine s_seq (s_set (d_next rfl (by decide) (by decide) fun turn t0 t9 => ?_))
  refine s_seq (s_set (d_call (d_cons (d_var rfl (d_cons (d_var rfl (d_cons (d_op (d_var rfl (d_c rfl (r_I0 rfl ?_)))))))))))
  refine d_nil ⟨ps, deep - 1, rfl, l6, l1, by omega, by omega, fun x ox dx => ?_⟩
  refine s_seq (s_if (d_test (d_op (d_var rfl (d_c rfl (r_I0 rfl ⟨_, rfl, fun _ => ?_, fun e4 => s_next ?_⟩))))))
  ·refine s_ret (d_tup (d_cons (d_c rfl (d_cons (d_var rfl (d_cons (d_call (d_cons (d_var rfl (d_cons (d_var rfl (d_cons (d_op (d_var rfl (d_c rfl (r_I0 rfl ?_))))))))))))))))
   refine d_nil ⟨ps, deep - 1, rfl, l6, l1, by omega, by omega, fun y oy dy => d_nil ⟨by simp, q (.wit x y) ⟨ox, oy⟩ ?_⟩⟩
   have := Nat.max_le.mpr (⟨by omega, by omega⟩ : x.depth ≤ deep.toNat ∧ y.depth ≤ deep.toNat)
   simp only [Tr.depth]
   omega
  have t4 : ¬ turn < 4 := of_decide_eq_false e4
  refine s_seq (s_if (d_test (d_op (d_var rfl (d_c rfl (r_eqI ⟨_, rfl, fun _ => ?_, fun e5 => s_next ?_⟩))))))
  ·exact s_ret (d_tup (d_cons (d_c rfl (d_cons (d_var rfl (d_cons (d_var rfl (d_nil ⟨by simp, q (.over x p.name) ⟨ox, pn⟩ (by simp only [Tr.depth]; omega)⟩))))))))
  have t5 : turn ≠ 4 := of_decide_eq_false e5
  refine s_seq (s_set (d_slS (d_c rfl (o_no (o_part (d_op (d_c rfl (d_next rfl (by decide) (by decide) fun r2 a0 a1 => r_I0 rfl ⟨_, rfl, _, rfl, by decide, ?_⟩))))))))
  obtain ⟨al, al2⟩ := abc_len (n := 2 + r2) (by omega) (by omega)
  have pick : ∀ {ρ : List Sl} {k : D → Prop}, ρ[0]? = some (.d (.adr ah)) → ρ[6]? = some (.d (.str (cutS ("abcdefgh" : Str) none (some (2 + r2))))) → (∀ s ∈ deedsS, k (.str s)) → dE K (some (ah, as)) (tOp rIxS (tVar 6) (tCall (spD K (some (ah, as)) (M_next ah)) [] E0 (tCons (tVar 0) (tCons (tCB (fun xs H Q => ∃ z : Str, xs = [.str z] ∧ z.length ≤ sizeLine ∧ Q (.int z.length) H) (tCons (tVar 6) tNil)) tNil)))) ρ k := fun {ρ k} e0 e6 hk => by
   refine d_op (d_var e6 (d_call ?_))
   refine d_cons (d_var e0 (d_cons (d_cb (d_cons (d_var e6 (d_nil (c_lenT (by rw [al]; omega) ?_)))))))
   refine d_nil (m_next (by rw [al]; omega) (by rw [al]; omega) fun r b0 b1 => r_pickS (by rw [al]; omega) b0 (by rw [al2]; rw [al] at b1; exact b1) fun c hc => ?_)
   obtain ⟨s, hs, es⟩ := abc_in (lo := none) (hi := some (2 + r2)) (sgn c) (List.mem_map.mpr ⟨c, hc, rfl⟩)
   have es2 : D.str ⟨#[c]⟩ = D.str s := es
   rw [es2]
   exact hk s hs
  refine s_seq (s_par (d_cons (pick rfl rfl fun dd hdd => d_cons (pick rfl rfl fun nn hnn => d_nil ⟨_, _, rfl, ?_⟩))))
  refine s_ret (d_op (d_lst ?_))
  have dx2 : (x.depth : Int) + 1 ≤ deep + 1 := by omega
  refine d_cons (d_tup (d_cons (d_c rfl (d_cons (d_var rfl (d_cons (d_var rfl (d_nil ⟨by simp, ?_⟩))))))))
  refine d_cons (d_tup (d_cons (d_c rfl (d_cons (d_var rfl (d_cons (d_var rfl (d_nil ⟨by simp, ?_⟩))))))))
  refine d_cons (d_tup (d_cons (d_c rfl (d_cons (d_var rfl (d_cons (d_var rfl (d_cons (d_var rfl (d_nil ⟨by simp, ?_⟩))))))))))
  refine d_cons (d_tup (d_cons (d_c rfl (d_cons (d_var rfl (d_cons (d_var rfl (d_cons (d_var rfl (d_nil ⟨by simp, ?_⟩))))))))))
  refine d_nil ⟨by simp, d_op (d_var rfl (d_c rfl (r_I0 rfl (r_pick (by omega) (by simp; omega) fun d hd => ?_))))⟩
  simp only [List.mem_cons, List.not_mem_nil, or_false] at hd
  rcases hd with rfl | rfl | rfl | rfl
  ·exact q (.wo x dd) ⟨ox, hdd⟩ (by simp only [Tr.depth]; omega)
  ·exact q (.wo x dd) ⟨ox, hdd⟩ (by simp only [Tr.depth]; omega)
  ·exact q (.also x dd nn) ⟨ox, hdd, hnn⟩ (by simp only [Tr.depth]; omega)
  ·exact q (.ren x dd nn) ⟨ox, hdd, hnn⟩ (by simp only [Tr.depth]; omega)
end
end Pr
set_option Elab.async false
set_option linter.all false
set_option maxRecDepth 100000
set_option maxHeartbeats 2000000
namespace Pr
open PySem L2 PD
variable [Tabs]
mutual
def wdsD : D → List Str
 | .tup (.str w :: ds) => w :: wdsL ds
 | .str s => [s]
 | .int i => [toString i]
 | .bl b => [if b then "True" else "False"]
 | _ => []
def wdsL : List D → List Str
 | [] => []
 | d :: ds => wdsD d ++ wdsL ds
end
theorem joinL_app {S : List Nat} : ∀ {a b : List (List Nat)}, a ≠ [] → b ≠ [] → TL.joinL S (a ++ b) = TL.joinL S a ++ (S ++ TL.joinL S b)
 | [], _, h, _ => absurd rfl h
 | [x], y :: b, _, _ => rfl
 | [x], [], _, h => absurd rfl h
 | x :: y :: a, b, _, hb => by
  show x ++ (S ++ TL.joinL S (y :: a ++ b)) = (x ++ (S ++ TL.joinL S (y :: a))) ++ (S ++ TL.joinL S b)
  rw [joinL_app (a := y :: a) (by simp) hb]
  simp
theorem tl_joinT (y : Str) (l : List Str) : TL.tl (Txt.join y l) = TL.joinL (TL.tl y) (l.map TL.tl) := by rw [TL.join_eq, TL.tl_join]
theorem join_app {y : Str} {a b : List Str} (ha : a ≠ []) (hb : b ≠ []) : Txt.join y (a ++ b) = Txt.join y [Txt.join y a, Txt.join y b] := by
 refine TL.ext_tl ?_
 rw [tl_joinT, tl_joinT, List.map_append, joinL_app (by simpa using ha) (by simpa using hb)]
 show _ = TL.joinL _ [TL.tl (Txt.join y a), TL.tl (Txt.join y b)]
 rw [tl_joinT, tl_joinT]
 rfl
theorem join_one (y a : Str) : Txt.join y [a] = a := by
 refine TL.ext_tl ?_
 rw [tl_joinT]
 rfl
theorem join_join {y : Str} : ∀ {l : List (List Str)}, (∀ x ∈ l, x ≠ []) → Txt.join y (l.map (Txt.join y)) = Txt.join y l.flatten
 | [], _ => rfl
 | [a], _ => by
  rw [List.map_cons, List.map_nil, join_one]
  simp
 | a :: b :: l, h => by
  have e := join_join (y := y) (l := b :: l) fun x hx => h x (List.mem_cons_of_mem _ hx)
  have ha := h a List.mem_cons_self
  have hb : (b :: l).flatten ≠ [] := by
   have := h b (by simp)
   rw [List.flatten_cons]
   simp [this]
  rw [List.flatten_cons, join_app ha hb, ← e]
  show Txt.join y ([Txt.join y a] ++ (b :: l).map (Txt.join y)) = _
  rw [join_app (by simp) (by simp), join_one]
theorem wdsL_flat : ∀ ds : List D, wdsL ds = (ds.map wdsD).flatten
 | [] => rfl
 | d :: ds => by rw [wdsL, wdsL_flat ds]; rfl
theorem atom_wds {d : D} (h : atomD d) : ∃ w, wdsD d = [w] ∧ txtD d = w := by
 rcases h with ⟨s, rfl, h⟩ | ⟨i, rfl, h⟩ | ⟨b, rfl⟩
 ·exact ⟨s, by simp only [wdsD], by simp only [txtD]⟩
 ·exact ⟨txtD (.int i), by simp only [wdsD, txtD], rfl⟩
 ·exact ⟨txtD (.bl b), by simp only [wdsD, txtD], rfl⟩
theorem nest_wds : ∀ (n : Nat) {d : D}, nestOk n d → wdsD d ≠ [] ∧ txtD d = Txt.join " " (wdsD d)
 | 0, _, h => h.elim
 | n + 1, d, h => by
  obtain ⟨w, ds, rfl, _, _, hd⟩ := h
  have hx : ∀ x ∈ ds, wdsD x ≠ [] ∧ txtD x = Txt.join " " (wdsD x) := fun x hx => by
   rcases hd x hx with a | a
   ·obtain ⟨v, e1, e2⟩ := atom_wds a
    rw [e1, e2, join_one]
    exact ⟨by simp, rfl⟩
   ·exact nest_wds n a
  refine ⟨by simp [wdsD], ?_⟩
  simp only [wdsD, txtD]
  have e : w :: txtL ds = ([w] :: ds.map wdsD).map (Txt.join " ") := by
   rw [List.map_cons, join_one, txtL_map, List.map_map]
   congr 1
   exact List.map_congr_left fun x h => (hx x h).2
  rw [e, join_join, wdsL_flat]
  ·rfl
  ·intro x h
   rcases List.mem_cons.mp h with rfl | h
   ·simp
   ·obtain ⟨y, hy, rfl⟩ := List.mem_map.mp h
    exact (hx y hy).1
def plainW (s : Str) : Prop := 32 ∉ TL.tl s ∧ 10 ∉ TL.tl s
instance (s : Str) : Decidable (plainW s) := inferInstanceAs (Decidable (_ ∧ _))
theorem int_txts : ∀ i : Int, i.natAbs ≤ 99 → plainW (toString i) ∧ (toString i : Str).length ≤ 3 := by
 intro i h
 have : ∀ j : Fin 100, (plainW (toString ((j.val : Nat) : Int)) ∧ (toString ((j.val : Nat) : Int) : Str).length ≤ 3) ∧ plainW (toString (-((j.val : Nat) : Int))) ∧ (toString (-((j.val : Nat) : Int)) : Str).length ≤ 3 := by decide +kernel
 have q := this ⟨i.natAbs, by omega⟩
 rcases Int.natAbs_eq i with e | e
 ·rw [e]; exact q.1
 ·rw [e]; exact q.2
end Pr
set_option Elab.async false
set_option linter.all false
set_option maxRecDepth 100000
set_option maxHeartbeats 2000000
namespace Pr
open PySem L2 PD
variable [Tabs]
local macro_rules | `(tactic| walk_at "d1") => `(tactic| walk_at "D5f2f")
local macro_rules | `(tactic| walk_at "d") => `(tactic| repeat' walk_at "d1")
abbrev Tb := List (Str × List Str)
def fitW (s w : Str) : Prop := (s = "number" ∧ ∃ n : Int, n.natAbs ≤ 99 ∧ w = (toString n : Str)) ∨ (s = "truth" ∧ ∃ b : Bool, w = if b then "True" else "False") ∨ (s = "kind" ∧ w ∈ kindsS) ∨ (s = "part" ∧ w ∈ partsS) ∨ (s = "cell" ∧ w ∈ cellsS) ∨ (s = "deed" ∧ w ∈ deedsS)
def tellW (w : Str) (d : D) : Prop := (∃ n : Int, n.natAbs ≤ 99 ∧ d = .int n ∧ w = (toString n : Str)) ∨ (∃ b : Bool, d = .bl b ∧ w = if b then "True" else "False") ∨ (d = .str w ∧ w ∈ deedsS ++ cellsS ++ partsS)
def ArmA (tab : Tb) (s : Str) (x : D) : Prop := ∃ w, wdsD x = [w] ∧ plainW w ∧ fitW s w ∧ tellW w x ∧ lookS tab w = none
inductive Nst (tab : Tb) : List Str → List D → Prop
 | nil : Nst tab [] []
 | atom {s : Str} {x : D} {ss : List Str} {ds : List D} : s ≠ "nest" → ArmA tab s x → Nst tab ss ds → Nst tab (s :: ss) (x :: ds)
 | nest {w : Str} {ss' ss : List Str} {ds' ds : List D} : lookS tab w = some ss' → plainW w → Nst tab ss' ds' → Nst tab ss ds → Nst tab ("nest" :: ss) (.tup (.str w :: ds') :: ds)
inductive Runs (tab : Tb) : List Str → List Str → Prop
 | nil : Runs tab [] []
 | word {s w : Str} {st ws : List Str} : s ≠ "nest" → fitW s w → Runs tab st ws → Runs tab (s :: st) (w :: ws)
 | nest {w : Str} {ss st ws : List Str} : lookS tab w = some ss → Runs tab (ss ++ st) ws → Runs tab ("nest" :: st) (w :: ws)
theorem Nst.plain {tab : Tb} {ss : List Str} {ds : List D} (h : Nst tab ss ds) : ∀ w ∈ wdsL ds, plainW w := by
 induction h with
 | nil => intro w hw; cases hw
 | atom hs ha _ ih =>
  intro w hw
  obtain ⟨v, e, p, _⟩ := ha
  simp only [wdsL, e, List.cons_append, List.nil_append, List.mem_cons] at hw
  rcases hw with rfl | hw
  ·exact p
  ·exact ih w hw
 | nest hl hp _ _ ih1 ih2 =>
  intro w hw
  simp only [wdsL, wdsD, List.cons_append, List.mem_cons, List.mem_append] at hw
  rcases hw with rfl | hw | hw
  ·exact hp
  ·exact ih1 w hw
  ·exact ih2 w hw
theorem Runs.len {tab : Tb} {st ws : List Str} (h : Runs tab st ws) : st.length ≤ ws.length := by
 induction h with
 | nil => simp
 | word _ _ _ ih => simp only [List.length_cons]; omega
 | nest _ _ ih => simp only [List.length_cons, List.length_append] at *; omega
section
variable {P : Program} {w : World} {K : PySem.W.Frag} {mg : Str → Option Value} {base : Heap}
def optT (o : Option (List Str)) : D := match o with | some ss => .tup (strsOf ss) | none => .non
def M_arms (tab : Tb) : List D → (D → Prop) → Prop := fun ds k => ∃ x, ds = [.str x] ∧ k (optT (lookS tab x))
theorem tab_in {tab : Tb} {x : Str} {ss : List Str} (h : lookS tab x = some ss) : (x, ss) ∈ tab := by
 unfold lookS at h
 obtain ⟨p, h1, h2⟩ := Option.map_eq_some_iff.mp h
 have e := List.find?_some h1
 have e := of_decide_eq_true e
 have m := List.mem_of_find?_eq_some h1
 rw [← e, ← h2]
 exact m
theorem tab_no {tab : Tb} {x : Str} (h : lookS tab x = none) : x ∉ tab.map (·.1) := fun hx => by
 obtain ⟨p, hp, e⟩ := List.mem_map.mp hx
 unfold lookS at h
 have := List.find?_eq_none.mp (Option.map_eq_none_iff.mp h) p hp
 exact this (by simp [e])
theorem ok_tarms (T : Txt w K mg) : Cal P w K mg base 1 "tree_arms" ["word"] none (M_arms treeTab) := by
 refine okF T.f_tree_arms sc_tree_arms (fun _ _ _ _ _ _ us hl => match us, hl with | [_], _ => rfl) (fun ds k h => ?_) (fun f cdv A outer s H E ds kk hr h => ?_)
 ·obtain ⟨_, rfl, _⟩ := h
  rfl
 obtain ⟨x, rfl, q⟩ := h
 obtain ⟨aA, es, n, gA, kdA, hA⟩ := T.TREES.ex
 refine ⟨_, (pss_cons (ps_if (pt_not (pt_val (pe_callB (r := rIsi K) (id := "isinstance")  call_isi (by rfl) T.z_isinstance (by decide +kernel) (pa_cons (pv 0) (pa_cons (pe_bty (n := "str") rfl T.z_str (by decide +kernel)) pa_nil))))) (pss_one (ps_ret pe_non)) pss_nil)
   (pss_one (ps_ret (kd_get1 kdA rfl gA (pv 0) ⟨rfl, rfl, rfl, rfl⟩)))), ?_⟩
 try dsimp only [cxOf]
 walk_at "d1"
 cases e : lookS treeTab x with
 | none =>
  rw [e] at q
  repeat' walk_at "d1"
  exact ⟨x, none, rfl, T.TREESN.no _ gA _ (tab_no e), q⟩
 | some ss =>
  rw [e] at q
  repeat' walk_at "d1"
  exact ⟨x, some (.tup (strsOf ss)), rfl, hA _ (List.mem_map.mpr ⟨_, tab_in e, rfl⟩), q⟩
end
end Pr
set_option Elab.async false
set_option linter.all false
set_option maxRecDepth 100000
set_option maxHeartbeats 2000000
namespace Pr
open PySem L2 PD
variable [Tabs]
local macro_rules | `(tactic| walk_at "d1") => `(tactic| walk_at "D5f2f")
local macro_rules | `(tactic| walk_at "d") => `(tactic| repeat' walk_at "d1")
theorem num_facts : ∀ n : Int, n.natAbs ≤ 99 → Txt.isascii (Txt.removeprefix (toString n : Str) "-") = true ∧ Txt.isdigit (Txt.removeprefix (toString n : Str) "-") = true ∧ (Txt.removeprefix (toString n : Str) "-").length ≤ 3 ∧ PySem.intText? (toString n : Str) = some n ∧ (toString n : Str).length ≤ 640 := by
 intro n h
 have : ∀ j : Fin 100, (Txt.isascii (Txt.removeprefix (toString ((j.val : Nat) : Int) : Str) "-") = true ∧ Txt.isdigit (Txt.removeprefix (toString ((j.val : Nat) : Int) : Str) "-") = true ∧ (Txt.removeprefix (toString ((j.val : Nat) : Int) : Str) "-").length ≤ 3 ∧ PySem.intText? (toString ((j.val : Nat) : Int) : Str) = some ((j.val : Nat) : Int) ∧ (toString ((j.val : Nat) : Int) : Str).length ≤ 640) ∧
  (Txt.isascii (Txt.removeprefix (toString (-((j.val : Nat) : Int)) : Str) "-") = true ∧ Txt.isdigit (Txt.removeprefix (toString (-((j.val : Nat) : Int)) : Str) "-") = true ∧ (Txt.removeprefix (toString (-((j.val : Nat) : Int)) : Str) "-").length ≤ 3 ∧ PySem.intText? (toString (-((j.val : Nat) : Int)) : Str) = some (-((j.val : Nat) : Int)) ∧ (toString (-((j.val : Nat) : Int)) : Str).length ≤ 640) := by decide +kernel
 have q := this ⟨n.natAbs, by omega⟩
 rcases Int.natAbs_eq n with e | e
 ·rw [e]; exact q.1
 ·rw [e]; exact q.2
theorem name_facts : ∀ w ∈ deedsS ++ cellsS ++ partsS, Txt.isascii (Txt.removeprefix w "-") = true ∧ Txt.isdigit (Txt.removeprefix w "-") = false ∧ w.length ≤ 3 ∧ w ∉ (["True", "False"] : List Str) ∧ (w == ("True" : Str)) = false := by decide +kernel
theorem num_word : ∀ n : Int, n.natAbs ≤ 99 → (toString n : Str) ∉ (["True", "False"] : List Str) := by
 intro n h
 have : ∀ j : Fin 100, (toString ((j.val : Nat) : Int) : Str) ∉ (["True", "False"] : List Str) ∧ (toString (-((j.val : Nat) : Int)) : Str) ∉ (["True", "False"] : List Str) := by decide +kernel
 have q := this ⟨n.natAbs, by omega⟩
 rcases Int.natAbs_eq n with e | e
 ·rw [e]; exact q.1
 ·rw [e]; exact q.2
section
variable {P : Program} {w : World} {K : PySem.W.Frag} {mg : Str → Option Value} {base : Heap}
def M_numw : List D → (D → Prop) → Prop := fun ds k => ∃ w : Str, ds = [.str w] ∧ ((∃ n : Int, n.natAbs ≤ 99 ∧ w = (toString n : Str) ∧ k (.bl true)) ∨ (w ∈ deedsS ++ cellsS ++ partsS ∧ k (.bl false)))
theorem ok_numw (T : Txt w K mg) : Cal P w K mg base 1 "is_number_word" ["word"] none M_numw := by
 refine okF T.f_is_number_word sc_is_number_word (fun _ _ _ _ _ _ us hl => match us, hl with | [_], _ => rfl) (fun ds k h => ?_) (fun f cdv A outer s H E ds kk hr h => ?_)
 ·obtain ⟨_, rfl, _⟩ := h
  rfl
 obtain ⟨x, rfl, q⟩ := h
 obtain ⟨tw, gF⟩ := T.FIGS
 refine ⟨_, (pss_cons (ps_set (i := 1) sc_is_number_word.nd rfl (by first | exact Or.inl rfl | exact Or.inr rfl) (pe_m1 PySem.F.slot_str_removeprefix PySem.F.type_str_removeprefix mt_removeprefix (pv 0) pe_str))
   (pss_cons (ps_if (PW.pt (pw_or (pt_not (pt_val (pe_m0 PySem.F.slot_str_isascii PySem.F.type_str_isascii mt_isascii (pv 1)))) (pw_or (pt_not (pt_val (pe_m0 PySem.F.slot_str_isdigit PySem.F.type_str_isdigit mt_isdigit (pv 1)))) (pw_or1 (pt_cmpR op_gt (pe_callB (id := "len")  call_len_str (by rfl) T.z_len PySem.boot_len (pa_cons (pv 1) pa_nil)) (pe_gint rfl gF) (nomark _)))))) (pss_one (ps_ret pe_bl)) pss_nil)
   (pss_one (ps_ret (pe_cmpR op_eq (pe_callTy (r := PD.rStrV) (T := "str")  PD.cr_strV (by rfl) T.z_str (by decide +kernel) (pa_cons (pe_callTy call_int_str (by rfl) T.z_int (by decide +kernel) (pa_cons (pv 0) pa_nil)) pa_nil)) (pv 0) (nomark _)))))), ?_⟩
 try dsimp only [cxOf]
 change dS _ _ _ [Sl.d _, Sl.un] _
 rcases q with ⟨n, hn, rfl, q⟩ | ⟨hx, q⟩
 ·obtain ⟨f1, f2, f3, f4, f5⟩ := num_facts n hn
  refine s_seq (s_set (d_remP (d_var rfl ⟨_, rfl, d_c rfl ⟨_, rfl, Nat.le_trans f5 (by decide), ?_⟩⟩)))
  refine s_seq (s_if (d_or (d_not (d_tB (d_isB (d_var rfl ⟨_, rfl, _, rfl, ?_⟩))))))
  rw [f1]
  refine ⟨fun e => (by cases e), fun _ => d_or (d_not (d_tB (d_isB (d_var rfl ⟨_, rfl, _, rfl, ?_⟩))))⟩
  rw [f2]
  refine ⟨fun e => (by cases e), fun _ => d_test (d_op (d_cb (d_cons (d_var rfl (d_nil (c_lenT (by omega) (d_c rfl (r_I0 rfl ⟨_, rfl, ?_⟩))))))))⟩
  refine ⟨fun e => ?_, fun _ => ?_⟩
  ·have := of_decide_eq_true e
   omega
  refine s_next (s_ret (d_op (d_cb (d_cons (d_cb (d_cons (d_var rfl (d_nil (c_intT f4 f5 (d_nil (c_strI (Nat.lt_of_le_of_lt hn (by decide)) (d_var rfl (r_eqS ?_)))))))))))))
  rw [decide_eq_true rfl]
  exact q
 ·obtain ⟨f1, f2, f3, _⟩ := name_facts x hx
  refine s_seq (s_set (d_remP (d_var rfl ⟨_, rfl, d_c rfl ⟨_, rfl, Nat.le_trans f3 (by decide), ?_⟩⟩)))
  refine s_seq (s_if (d_or (d_not (d_tB (d_isB (d_var rfl ⟨_, rfl, _, rfl, ?_⟩))))))
  rw [f1]
  refine ⟨fun e => (by cases e), fun _ => d_or (d_not (d_tB (d_isB (d_var rfl ⟨_, rfl, _, rfl, ?_⟩))))⟩
  rw [f2]
  exact ⟨fun _ => ⟨fun _ => s_ret (d_c rfl q), fun e => (by cases e)⟩, fun e => (by cases e)⟩
theorem m_numw {n : Int} {k : D → Prop} (h : n.natAbs ≤ 99) (q : k (.bl true)) : M_numw [.str (toString n : Str)] k := ⟨_, rfl, .inl ⟨n, h, rfl, q⟩⟩
theorem m_nonum {x : Str} {k : D → Prop} (h : x ∈ deedsS ++ cellsS ++ partsS) (q : k (.bl false)) : M_numw [.str x] k := ⟨_, rfl, .inr ⟨h, q⟩⟩
def M_tellw : List D → (D → Prop) → Prop := fun ds k => ∃ (x : Str) (d : D), ds = [.str x] ∧ tellW x d ∧ k d
theorem ok_tellw (T : Txt w K mg) : Cal P w K mg base 2 "worth_of_word" ["word"] none M_tellw := by
 have C_is_number_word := ok_numw (P := P) (base := base) T
 refine okF T.f_worth_of_word sc_worth_of_word (fun _ _ _ _ _ _ us hl => match us, hl with | [_], _ => rfl) (fun ds k h => ?_) (fun f cdv A outer s H E ds kk hr h => ?_)
 ·obtain ⟨_, _, rfl, _⟩ := h
  rfl
 obtain ⟨x, d, rfl, h, q⟩ := h
 obtain ⟨aT, gT, rT⟩ := T.TRUTHS.ex
 refine ⟨_, (pss_cons (ps_if (pt_cmpR (r := rIn K false) op_in_seq (pv 0) (pe_gref rfl gT) rfl) (pss_one (ps_ret (pe_cmpR op_eq (pv 0) pe_str (nomark _)))) pss_nil)
   (pss_one (ps_ret (pe_ifExp (pt_val (pe_calK (K := K) rfl C_is_number_word (hr.mono (by first | decide | omega)) rfl (pa_cons (pv 0) pa_nil))) (pe_callTy call_int_str (by rfl) T.z_int (by decide +kernel) (pa_cons (pv 0) pa_nil)) (pv 0))))), ?_⟩
 try dsimp only [cxOf]
 change dS _ _ _ [Sl.d _] _
 rcases h with ⟨n, hn, rfl, rfl⟩ | ⟨b, rfl, rfl⟩ | ⟨rfl, h⟩
 ·have h1 := num_word n hn
  obtain ⟨_, _, _, f4, f5⟩ := num_facts n hn
  repeat' (first | with_reducible refine m_numw hn ?_ | refine br_f (by simpa using h1) ?_ | with_reducible refine c_intT f4 f5 ?_ | walk_at "d1")
 ·cases b
  ·repeat' walk_at "d1"
   exact q
  ·repeat' walk_at "d1"
   exact q
 ·obtain ⟨_, _, _, f4, _⟩ := name_facts x h
  repeat' (first | with_reducible refine m_nonum h ?_ | refine br_f (by simpa using f4) ?_ | walk_at "d1")
end
end Pr
set_option Elab.async false
set_option linter.all false
set_option maxRecDepth 100000
set_option maxHeartbeats 2000000
namespace Pr
open PySem L2 PD
variable [Tabs]
def fitB (s w : Str) : Bool := if s = "part" then decide (w ∈ partsS) else decide (w ∈ deedsS)
def misR (tab : Tb) (fit : Str → Str → Bool) : List Str → List Str → Option (List Str)
 | [], [] => none
 | _ :: _, [] => some []
 | [], w :: ws => some (w :: ws)
 | s :: st, w :: ws => if s = "nest" then (match lookS tab w with | none => some (w :: ws) | some ss => misR tab fit (ss ++ st) ws) else if fit s w = true then misR tab fit st ws else some (w :: ws)
def armsR (rec : List Str → Option D × List Str) : List Str → List Str → Option (List D) × List Str
 | [], ws => (some [], ws)
 | s :: ss, ws => if s = "nest" then
   (match rec ws with
   | (none, r) => (none, r)
   | (some d, r) => match armsR rec ss r with
    | (none, r') => (none, r')
    | (some ds, r') => (some (d :: ds), r'))
  else match ws with
   | [] => (none, [])
   | w :: r => if fitB s w = true then
     (match armsR rec ss r with
     | (none, r') => (none, r')
     | (some ds, r') => (some (.str w :: ds), r'))
    else (none, w :: r)
def frm : Nat → List Str → Option D × List Str
 | 0, ws => (none, ws)
 | _ + 1, [] => (none, [])
 | n + 1, w :: r => match lookS treeTab w with
  | none => (none, w :: r)
  | some ss => match armsR (frm n) ss r with
   | (none, r') => (none, r')
   | (some ds, r') => (some (.tup (.str w :: ds)), r')
theorem arms_suf {rec : List Str → Option D × List Str} (h : ∀ ws o r, rec ws = (o, r) → ∃ l, ws = l ++ r) : ∀ (ss ws : List Str) (o : Option (List D)) (r : List Str), armsR rec ss ws = (o, r) → ∃ l, ws = l ++ r
 | [], ws, o, r, e => by
  unfold armsR at e
  cases e
  exact ⟨[], rfl⟩
 | s :: ss, ws, o, r, e => by
  unfold armsR at e
  split at e
  ·split at e
   ·rename_i r1 e1
    cases e
    exact h _ _ _ e1
   ·rename_i d r1 e1
    obtain ⟨l1, h1⟩ := h _ _ _ e1
    split at e
    ·rename_i r2 e2
     cases e
     obtain ⟨l2, h2⟩ := arms_suf h ss r1 _ _ e2
     exact ⟨l1 ++ l2, by rw [h1, h2, List.append_assoc]⟩
    ·rename_i ds r2 e2
     cases e
     obtain ⟨l2, h2⟩ := arms_suf h ss r1 _ _ e2
     exact ⟨l1 ++ l2, by rw [h1, h2, List.append_assoc]⟩
  ·split at e
   ·cases e
    exact ⟨[], rfl⟩
   ·rename_i w r0
    split at e
    ·split at e
     ·rename_i r2 e2
      cases e
      obtain ⟨l2, h2⟩ := arms_suf h ss r0 _ _ e2
      exact ⟨w :: l2, by rw [h2, List.cons_append]⟩
     ·rename_i ds r2 e2
      cases e
      obtain ⟨l2, h2⟩ := arms_suf h ss r0 _ _ e2
      exact ⟨w :: l2, by rw [h2, List.cons_append]⟩
    ·cases e
     exact ⟨[], rfl⟩
theorem frm_suf : ∀ (n : Nat) (ws : List Str) (o : Option D) (r : List Str), frm n ws = (o, r) → ∃ l, ws = l ++ r
 | 0, ws, o, r, e => by
  unfold frm at e
  cases e
  exact ⟨[], rfl⟩
 | _ + 1, [], o, r, e => by
  unfold frm at e
  cases e
  exact ⟨[], rfl⟩
 | n + 1, w :: ws, o, r, e => by
  unfold frm at e
  split at e
  ·cases e
   exact ⟨[], rfl⟩
  ·rename_i ss _
   split at e
   ·rename_i r2 e2
    cases e
    obtain ⟨l2, h2⟩ := arms_suf (frm_suf n) ss ws _ _ e2
    exact ⟨w :: l2, by rw [h2, List.cons_append]⟩
   ·rename_i ds r2 e2
    cases e
    obtain ⟨l2, h2⟩ := arms_suf (frm_suf n) ss ws _ _ e2
    exact ⟨w :: l2, by rw [h2, List.cons_append]⟩
theorem suf_len {α : Type} {a b l : List α} (h : a = l ++ b) : b.length ≤ a.length := by rw [h, List.length_append]; omega
theorem arms_mis {rec : List Str → Option D × List Str} {N : Nat} (suf : ∀ ws o r, rec ws = (o, r) → ∃ l, ws = l ++ r)
  (h : ∀ ws st, ws.length ≤ N → misR treeTab fitB ("nest" :: st) ws = match rec ws with | (some _, r) => misR treeTab fitB st r | (none, r) => some r) :
  ∀ (ss ws st : List Str), ws.length ≤ N → misR treeTab fitB (ss ++ st) ws = match armsR rec ss ws with | (some _, r) => misR treeTab fitB st r | (none, r) => some r
 | [], ws, st, hl => by
  unfold armsR
  rfl
 | s :: ss, ws, st, hl => by
  by_cases es : s = "nest"
  ·subst es
   rw [List.cons_append, h _ _ hl, armsR.eq_def]
   simp only [if_true]
   cases e1 : rec ws with
   | mk o r =>
    have l1 := suf_len (suf _ _ _ e1).choose_spec
    cases o with
    | none => rfl
    | some d =>
     show misR treeTab fitB (ss ++ st) r = _
     rw [arms_mis suf h ss r st (by omega)]
     cases e2 : armsR rec ss r with
     | mk o r' => cases o <;> simp only [e2]
  ·cases ws with
   | nil =>
    rw [List.cons_append, armsR.eq_def]
    simp only [if_neg es]
    rfl
   | cons w r =>
    rw [List.cons_append, misR, if_neg es, armsR.eq_def]
    simp only [if_neg es]
    cases ef : fitB s w with
    | true =>
     rw [if_pos rfl, if_pos rfl, arms_mis suf h ss r st (by rw [List.length_cons] at hl; omega)]
     cases e2 : armsR rec ss r with
     | mk o r' => cases o <;> rfl
    | false => rfl
theorem frm_mis : ∀ (n : Nat) (ws st : List Str), ws.length + 1 ≤ n → misR treeTab fitB ("nest" :: st) ws = match frm n ws with | (some _, r) => misR treeTab fitB st r | (none, r) => some r
 | 0, ws, st, h => by omega
 | n + 1, [], st, h => rfl
 | n + 1, w :: ws, st, h => by
  rw [misR, if_pos rfl, frm]
  cases e : lookS treeTab w with
  | none => rfl
  | some ss =>
   show misR treeTab fitB (ss ++ st) ws = _
   rw [arms_mis (N := n - 1) (frm_suf n) (fun ws st hl => frm_mis n ws st (by rw [List.length_cons] at h; omega)) ss ws st (by rw [List.length_cons] at h; omega)]
   show _ = (match (match armsR (frm n) ss ws with | (none, r') => (none, r') | (some ds, r') => (some (D.tup (.str w :: ds)), r') : Option D × List Str) with | (some _, r) => misR treeTab fitB st r | (none, r) => some r)
   cases e2 : armsR (frm n) ss ws with
   | mk o r' => cases o <;> rfl
def isArm (s : Str) (d : D) : Prop := if s = "nest" then ∃ t : Tr, d = t.toD ∧ t.ok partsS else ∃ w, d = .str w ∧ fitB s w = true
inductive All2 {α β : Type} (R : α → β → Prop) : List α → List β → Prop
 | nil : All2 R [] []
 | cons {a : α} {b : β} {l : List α} {m : List β} : R a b → All2 R l m → All2 R (a :: l) (b :: m)
theorem arms_tree {rec : List Str → Option D × List Str} (h : ∀ ws d r, rec ws = (some d, r) → ws = wdsD d ++ r ∧ ∃ t : Tr, d = t.toD ∧ t.ok partsS) : ∀ (ss ws : List Str) (ds : List D) (r : List Str), armsR rec ss ws = (some ds, r) → ws = wdsL ds ++ r ∧ All2 isArm ss ds
 | [], ws, ds, r, e => by
  unfold armsR at e
  cases e
  exact ⟨by simp only [wdsL, List.nil_append], .nil⟩
 | s :: ss, ws, ds, r, e => by
  unfold armsR at e
  split at e
  ·rename_i es
   split at e
   ·cases e
   ·rename_i d r1 e1
    obtain ⟨h1, h2⟩ := h _ _ _ e1
    split at e
    ·cases e
    ·rename_i ds' r2 e2
     cases e
     obtain ⟨h3, h4⟩ := arms_tree h ss r1 _ _ e2
     refine ⟨by rw [h1, h3, wdsL, List.append_assoc], .cons ?_ h4⟩
     unfold isArm
     rw [if_pos es]
     exact h2
  ·rename_i es
   split at e
   ·cases e
   ·rename_i w r0
    split at e
    ·rename_i ef
     split at e
     ·cases e
     ·rename_i ds' r2 e2
      cases e
      obtain ⟨h3, h4⟩ := arms_tree h ss r0 _ _ e2
      refine ⟨by rw [h3]; simp only [wdsL, wdsD, List.cons_append, List.nil_append], .cons ?_ h4⟩
      unfold isArm
      rw [if_neg es]
      exact ⟨w, rfl, ef⟩
    ·cases e
theorem arm_nest {d : D} (h : isArm "nest" d) : ∃ t : Tr, d = t.toD ∧ t.ok partsS := by
 unfold isArm at h
 rw [if_pos rfl] at h
 exact h
theorem arm_part {d : D} (h : isArm "part" d) : ∃ w : Str, d = .str w ∧ w ∈ partsS := by
 unfold isArm at h
 rw [if_neg (by decide)] at h
 obtain ⟨w, e, f⟩ := h
 unfold fitB at f
 rw [if_pos rfl] at f
 exact ⟨w, e, of_decide_eq_true f⟩
theorem arm_deed {d : D} (h : isArm "deed" d) : ∃ w : Str, d = .str w ∧ w ∈ deedsS := by
 unfold isArm at h
 rw [if_neg (by decide)] at h
 obtain ⟨w, e, f⟩ := h
 unfold fitB at f
 rw [if_neg (by decide)] at f
 exact ⟨w, e, of_decide_eq_true f⟩
theorem frm_tree : ∀ (n : Nat) (ws : List Str) (d : D) (r : List Str), frm n ws = (some d, r) → ws = wdsD d ++ r ∧ ∃ t : Tr, d = t.toD ∧ t.ok partsS
 | 0, ws, d, r, e => by
  unfold frm at e
  cases e
 | _ + 1, [], d, r, e => by
  unfold frm at e
  cases e
 | n + 1, w :: ws, d, r, e => by
  unfold frm at e
  split at e
  ·cases e
  ·rename_i ss el
   split at e
   ·cases e
   ·rename_i ds r2 e2
    cases e
    obtain ⟨h1, h2⟩ := arms_tree (frm_tree n) ss ws _ _ e2
    refine ⟨by rw [h1]; simp only [wdsD, List.cons_append], ?_⟩
    have hm := tab_in el
    simp only [treeTab, List.mem_cons, Prod.mk.injEq, List.not_mem_nil, or_false] at hm
    rcases hm with ⟨rfl, rfl⟩ | ⟨rfl, rfl⟩ | ⟨rfl, rfl⟩ | ⟨rfl, rfl⟩ | ⟨rfl, rfl⟩ | ⟨rfl, rfl⟩
    ·cases h2 with | cons a1 h2 => cases h2; obtain ⟨p, rfl, hp⟩ := arm_part a1; exact ⟨.part p, rfl, hp⟩
    ·cases h2 with | cons a1 h2 => cases h2 with | cons a2 h2 => cases h2; obtain ⟨x, rfl, hx⟩ := arm_nest a1; obtain ⟨y, rfl, hy⟩ := arm_nest a2; exact ⟨.wit x y, rfl, hx, hy⟩
    ·cases h2 with | cons a1 h2 => cases h2 with | cons a2 h2 => cases h2; obtain ⟨x, rfl, hx⟩ := arm_nest a1; obtain ⟨y, rfl, hy⟩ := arm_deed a2; exact ⟨.wo x y, rfl, hx, hy⟩
    ·cases h2 with | cons a1 h2 => cases h2 with | cons a2 h2 => cases h2 with | cons a3 h2 => cases h2; obtain ⟨x, rfl, hx⟩ := arm_nest a1; obtain ⟨y, rfl, hy⟩ := arm_deed a2; obtain ⟨z, rfl, hz⟩ := arm_deed a3; exact ⟨.also x y z, rfl, hx, hy, hz⟩
    ·cases h2 with | cons a1 h2 => cases h2 with | cons a2 h2 => cases h2 with | cons a3 h2 => cases h2; obtain ⟨x, rfl, hx⟩ := arm_nest a1; obtain ⟨y, rfl, hy⟩ := arm_deed a2; obtain ⟨z, rfl, hz⟩ := arm_deed a3; exact ⟨.ren x y z, rfl, hx, hy, hz⟩
    ·cases h2 with | cons a1 h2 => cases h2 with | cons a2 h2 => cases h2; obtain ⟨x, rfl, hx⟩ := arm_nest a1; obtain ⟨y, rfl, hy⟩ := arm_part a2; exact ⟨.over x y, rfl, hx, hy⟩
def goodT (ns : List Str) (t : Tr) : Prop := t.ok ns ∧ t.depth ≤ 10 ∧ t.size ≤ 40
inductive Res (n : Nat) (ns ws : List Str) : D → Prop
 | text {o : Option D} {r : List Str} : frm n ws = (o, r) → (o = none ∨ r ≠ []) → Res n ns ws (.tup [.str "BadText", .int ((ws.length - r.length : Nat) : Int)])
 | bad {t : Tr} : frm n ws = (some t.toD, []) → t.ok partsS → ¬ goodT ns t → Res n ns ws (.str "BadTree")
 | tree {t : Tr} : frm n ws = (some t.toD, []) → t.ok partsS → goodT ns t → Res n ns ws t.toD
theorem res_some (n : Nat) (ns ws : List Str) : ∃ d, Res n ns ws d := by
 cases e : frm n ws with
 | mk o r =>
  cases o with
  | none => exact ⟨_, .text e (.inl rfl)⟩
  | some d =>
   cases r with
   | cons w r => exact ⟨_, .text e (.inr (by simp))⟩
   | nil =>
    obtain ⟨_, t, rfl, ht⟩ := frm_tree _ _ _ _ e
    exact (Classical.em (goodT ns t)).elim (fun g => ⟨_, .tree e ht g⟩) fun g => ⟨_, .bad e ht g⟩
end Pr
set_option Elab.async false
set_option linter.all false
set_option maxRecDepth 100000
set_option maxHeartbeats 2000000
namespace Pr
open PySem L2 PD
variable [Tabs]
local macro_rules | `(tactic| walk_at "d1") => `(tactic| walk_at "D5f2f")
local macro_rules | `(tactic| walk_at "d") => `(tactic| repeat' walk_at "d1")
section
variable {P : Program} {w : World} {K : PySem.W.Frag} {mg : Str → Option Value} {base : Heap}
def M_fitT : List D → (D → Prop) → Prop := fun ds k => ∃ s x : Str, ds = [.str s, .str x] ∧ (s = "part" ∨ s = "deed") ∧ k (.bl (fitB s x))
theorem ok_fitT (T : Txt w K mg) : Cal P w K mg base 2 "fits_word" ["sort", "word"] none M_fitT := by
 have C_is_number_word := ok_numw (P := P) (base := base) T
 refine okF T.f_fits_word sc_fits_word (fun _ _ _ _ _ _ us hl => match us, hl with | [_, _], _ => rfl) (fun ds k h => ?_) (fun f cdv A outer s H E ds kk hr h => ?_)
 ·obtain ⟨_, _, rfl, _⟩ := h
  rfl
 obtain ⟨s, x, rfl, h, q⟩ := h
 obtain ⟨aK, gK, rK⟩ := T.KINDS.ex
 obtain ⟨aD, gD, rD⟩ := T.DEEDS.ex
 obtain ⟨aC, gC, rC⟩ := T.CELLS.ex
 obtain ⟨aP, gP, rP⟩ := T.PARTS.ex
 obtain ⟨aT, gT, rT⟩ := T.TRUTHS.ex
 refine ⟨_, (pss_cons (ps_if (pt_cmpR op_eq (pv 0) pe_str (nomark _)) (pss_one (ps_ret (pe_calK (K := K) rfl C_is_number_word (hr.mono (by first | decide | omega)) rfl (pa_cons (pv 1) pa_nil)))) pss_nil)
   (pss_cons (ps_if (pt_cmpR op_eq (pv 0) pe_str (nomark _)) (pss_one (ps_ret (pe_cmpR (r := rIn K false) op_in_seq (pv 1) (pe_gref rfl gT) rfl))) pss_nil)
   (pss_cons (ps_if (pt_cmpR op_eq (pv 0) pe_str (nomark _)) (pss_one (ps_ret (pe_cmpR (r := rIn K false) op_in_seq (pv 1) (pe_gref rfl gK) rfl))) pss_nil)
   (pss_cons (ps_if (pt_cmpR op_eq (pv 0) pe_str (nomark _)) (pss_one (ps_ret (pe_cmpR (r := rIn K false) op_in_seq (pv 1) (pe_gref rfl gP) rfl))) pss_nil)
   (pss_one (ps_ret (pe_cmpR (r := rIn K false) op_in_seq (pv 1) (pe_ifExp (pt_cmpR op_eq (pv 0) pe_str (nomark _)) (pe_gref rfl gC) (pe_gref rfl gD)) rfl))))))), ?_⟩
 try dsimp only [cxOf]
 change dS _ _ _ [Sl.d _, Sl.d _] _
 rcases h with rfl | rfl
 ·have q : kk (.bl (decide (x ∈ partsS))) := q
  repeat' walk_at "d1"
 ·have q : kk (.bl (decide (x ∈ deedsS))) := q
  repeat' walk_at "d1"
def place (ws : List Str) : Option (List Str) → D
 | none => .non
 | some r => .int ((ws.length - r.length : Nat) : Int)
def M_misT (fa ff : Addr) : List D → (D → Prop) → Prop := fun ds k => ∃ ws : List Str, ds = [.lst (strsOf ws), .adr fa, .adr ff] ∧ ws.length ≤ 1000 ∧ k (place ws (misR treeTab fitB ["nest"] ws))
theorem enumF_cons (i : Nat) (s : Str) (r : List Str) : enumF i (strsOf (s :: r)) = .tup [.int (i : Int), .str s] :: enumF (i + 1) (strsOf r) := rfl
def sortsT : List Str := ["nest", "part", "deed"]
theorem tree_sorts : ∀ p ∈ treeTab, (∀ s ∈ p.2, s ∈ sortsT) ∧ p.2.length ≤ 3 := by decide +kernel
theorem ok_misT {fa ff : Addr} {xa : Str} {fda fdf : FuncData} (T : Txt w K mg) (Ca : CalF P w K mg base 1 xa ["word"] none (M_arms treeTab) fa fda) (Cf : CalF P w K mg base 2 "fits_word" ["sort", "word"] none M_fitT ff fdf) :
  Cal P w K mg base 3 "misplaced" ["words", "arms_of", "fits_word"] none (M_misT fa ff) := by
 refine okF T.f_misplaced sc_misplaced (fun _ _ _ _ _ _ us hl => match us, hl with | [_, _, _], _ => rfl) (fun ds k h => ?_) (fun f cdv A outer s H E ds kk hr h => ?_)
 ·obtain ⟨_, rfl, _⟩ := h
  rfl
 obtain ⟨ws, rfl, hl, q⟩ := h
 refine ⟨_, (pss_cons (ps_set (i := 3) sc_misplaced.nd rfl (by first | exact Or.inl rfl | exact Or.inr rfl) (pe_lst (pa_cons pe_str pa_nil)))
   (pss_cons (ps_for PassesOwn.never rfl (pi_enum rfl T.z_enumerate (pa_cons (pv 0) pa_nil)) (pg_tupK (K := K) (n := 2) rfl rfl (pgs_cons (pg_name (i := 4) sc_misplaced.nd rfl (by first | exact Or.inl rfl | exact Or.inr rfl)) (pgs_cons (pg_name (i := 5) sc_misplaced.nd rfl (by first | exact Or.inl rfl | exact Or.inr rfl)) pgs_nil))) (pss_cons (ps_if (pt_not (pt_truth (pv 3) (by intro _; rfl))) (pss_one (ps_ret (pv 4))) pss_nil)
   (pss_cons (ps_set (i := 6) sc_misplaced.nd rfl (by first | exact Or.inl rfl | exact Or.inr rfl) (pe_bm0 PySem.F.plainAttrs_list PySem.F.slot_list_pop PySem.F.type_list_pop mt_pop (pv 3)))
   (pss_one (ps_if (pt_cmpR op_ne (pv 6) pe_str (nomark _)) (pss_one (ps_if (pt_not (pt_val (pe_callL (i := 2) Cf.ok (hr.mono (by omega)) rfl (by first | exact Or.inl rfl | exact Or.inr (Or.inl rfl)) Cf.keep Cf.binds .nil pass0 (pa_cons (pv 6) (pa_cons (pv 5) pa_nil))))) (pss_one (ps_ret (pv 4))) pss_nil)) (pss_one (ps_if (pt_cmpR op_isN (pe_callL (i := 1) Ca.ok (hr.mono (by omega)) rfl (by first | exact Or.inl rfl | exact Or.inr (Or.inl rfl)) Ca.keep Ca.binds .nil pass0 (pa_cons (pv 5) pa_nil)) pe_non (nomark _)) (pss_one (ps_ret (pv 4))) (pss_one (ps_expr (PD.pe_bmK (K := K) (r := PD.rExtT K) rfl PySem.F.plainAttrs_list PySem.F.slot_list_extend PySem.F.type_list_extend PD.mt_extendT (pv 3) (pa_cons (PD.pe_revT (pe_callL (i := 1) Ca.ok (hr.mono (by omega)) rfl (by first | exact Or.inl rfl | exact Or.inr (Or.inl rfl)) Ca.keep Ca.binds .nil pass0 (pa_cons (pv 5) pa_nil))) pa_nil)))))))))))
   (pss_one (ps_ret (pe_ifExp (pt_truth (pv 3) (by intro _; rfl)) (pe_callB (r := rLenQ K) (id := "len")  call_len_seq (by rfl) T.z_len PySem.boot_len (pa_cons (pv 0) pa_nil)) pe_non))))), ?_⟩
 try dsimp only [cxOf]
 change dS _ _ _ [Sl.d _, Sl.d _, Sl.d _, Sl.un, Sl.un, Sl.un, Sl.un] _
 refine s_seq (s_ownS ["nest"] (l_lst (d_cons (d_c rfl (d_nil ⟨by simp, rfl, ?_⟩)))))
 refine s_seq (s_for (i_enum (d_var rfl ⟨_, rfl, ?_⟩)))
 have eo : ∀ (x : Str) (l : List Str), strsOf (x :: l).reverse = strsOf l.reverse ++ [.str x] := fun x l => by simp [strsOf]
 have en : ∀ (x : Str) (l : List Str), (!(strsOf (x :: l).reverse).isEmpty) = true := fun x l => by rw [eo]; simp
 refine forW_inv (fun r ρ' => ∃ (i : Nat) (ws' st : List Str) (s4 s5 s6 : Sl), r = enumF i (strsOf ws') ∧ ws.length = i + ws'.length ∧ (∀ s ∈ st, s ∈ sortsT) ∧ st.length ≤ 3 * i + 1 ∧ misR treeTab fitB st ws' = misR treeTab fitB ["nest"] ws ∧ ρ' = [.d (.lst (strsOf ws)), .d (.adr fa), .d (.adr ff), .own (strsOf st.reverse), s4, s5, s6]) ?_ ?_ _ _ ⟨0, ws, ["nest"], _, _, _, rfl, by omega, by decide, by decide, rfl, rfl⟩
 ·rintro ρ' ⟨i, ws', st, s4, s5, s6, e, hi, hst, hsl, hm, rfl⟩
  have e0 : ws' = [] := by
   cases ws' with
   | nil => rfl
   | cons => cases e
  subst e0
  cases st with
  | nil =>
   refine s_ret (d_ifE (d_truO (by rfl) ⟨fun e => (by cases e), fun _ => d_c rfl ?_⟩))
   rw [← hm] at q
   exact q
  | cons x st =>
   refine s_ret (d_ifE (d_truO (by rfl) ⟨fun _ => d_cb (d_cons (d_var rfl (d_nil (c_lenS (.inl rfl) ?_)))), fun e => ?_⟩))
   ·rw [← hm] at q
    have : (strsOf ws).length = ws.length := by simp [strsOf]
    rw [this]
    exact q
   ·rw [en] at e
    cases e
 ·rintro d r ρ' ⟨i, ws', st, s4, s5, s6, e, hi, hst, hsl, hm, rfl⟩
  cases ws' with
  | nil => cases e
  | cons x ws1 =>
  rw [enumF_cons] at e
  cases e
  have hpl : ∀ r : List Str, misR treeTab fitB st (x :: ws1) = some r → r = x :: ws1 → kk (.int (i : Int)) := fun r h1 h2 => by
   rw [← hm, h1, h2] at q
   have e1 : ws.length - (x :: ws1).length = i := by omega
   have q2 : kk (.int ((ws.length - (x :: ws1).length : Nat) : Int)) := q
   rw [e1] at q2
   exact q2
  rw [List.length_cons] at hi
  refine (g_tid ?_)
  refine g_tup rfl (gs_cons (g_name (gs_cons (g_name (gs_nil ?_)))))
  cases st with
  | nil =>
   refine s_seq (s_if (d_not (d_truO (by rfl) ⟨fun _ => ?_, fun e => (by cases e)⟩)))
   exact s_ret (d_var rfl (hpl _ rfl rfl))
  | cons s0 st =>
   refine s_seq (s_if (d_not (d_truO (by rfl) ?_)))
   rw [en]
   refine ⟨fun e => (by cases e), fun _ => s_next (s_seq (s_pop (ds := strsOf st.reverse) (d := .str s0) (by rw [eo]; rfl) ?_))⟩
   refine s_if (d_test (d_op (d_var rfl (d_c rfl (r_neS ⟨_, rfl, ?_⟩)))))
   have hso := hst s0 List.mem_cons_self
   have hst' : ∀ s ∈ st, s ∈ sortsT := fun s hs => hst s (List.mem_cons_of_mem _ hs)
   rw [List.length_cons] at hsl
   by_cases hs : s0 = "nest"
   ·subst hs
    rw [decide_eq_true rfl]
    refine ⟨fun e => (by cases e), fun _ => ?_⟩
    refine s_if (d_test (d_op (d_callLP rfl (d_cons (d_var rfl (d_nil ⟨_, rfl, d_c rfl (r_isN ⟨_, rfl, ?_⟩)⟩))))))
    cases el : lookS treeTab x with
    | none =>
     refine ⟨fun _ => s_ret (d_var rfl (hpl _ ?_ rfl)), fun e => (by cases e)⟩
     rw [misR, if_pos rfl, el]
    | some ss =>
     refine ⟨fun e => (by cases e), fun _ => ?_⟩
     have ht := tree_sorts _ (tab_in el)
     have ht2 : ss.length ≤ 3 := ht.2
     refine s_extT (ds := strsOf st.reverse) (by rfl) (d_revT (d_callLP rfl (d_cons (d_var rfl (d_nil ⟨_, rfl, ?_⟩)))))
     rw [el]
     refine ⟨strsOf ss, rfl, _, rfl, ?_, ?_⟩
     ·simp only [strsOf, List.length_map, List.length_reverse]
      omega
     ·have ee : strsOf st.reverse ++ (strsOf ss).reverse = strsOf (ss ++ st).reverse := by simp [strsOf]
      rw [ee]
      refine ⟨i + 1, ws1, ss ++ st, _, _, _, rfl, by omega, fun s hs => ?_, ?_, ?_, rfl⟩
      ·rcases List.mem_append.mp hs with h | h
       ·exact ht.1 s h
       ·exact hst' s h
      ·rw [List.length_append]
       omega
      ·rw [← hm, misR, if_pos rfl, el]
   ·rw [decide_eq_false hs]
    refine ⟨fun _ => ?_, fun e => (by cases e)⟩
    have h2 : s0 = "part" ∨ s0 = "deed" := by
     simp only [sortsT, List.mem_cons, List.not_mem_nil, or_false] at hso
     rcases hso with h | h | h
     ·exact absurd h hs
     ·exact .inl h
     ·exact .inr h
    refine s_if (d_not (d_tB (d_callLP rfl (d_cons (d_var rfl (d_cons (d_var rfl (d_nil ⟨_, _, rfl, h2, _, rfl, ?_⟩))))))))
    cases ef : fitB s0 x with
    | true =>
     refine ⟨fun e => (by cases e), fun _ => s_next ⟨i + 1, ws1, st, _, _, _, rfl, by omega, hst', by omega, ?_, rfl⟩⟩
     rw [← hm, misR, if_neg hs, if_pos ef]
    | false =>
     refine ⟨fun _ => s_ret (d_var rfl (hpl _ ?_ rfl)), fun e => (by cases e)⟩
     rw [misR, if_neg hs, if_neg (by rw [ef]; exact Bool.false_ne_true)]
end
end Pr
set_option Elab.async false
set_option linter.all false
set_option maxRecDepth 100000
set_option maxHeartbeats 2000000
namespace Pr
open PySem L2 PD
variable [Tabs]
section
variable {P : Program} {w : World} {K : PySem.W.Frag} {mg : Str → Option Value} {base : Heap}
def M_rnest (tab : Tb) (fa fw : Addr) : List D → (D → Prop) → Prop := fun ds k => ∃ d : D, ds = [.lst (strsOf (wdsD d)), .adr fa, .adr fw] ∧ Nst tab ["nest"] [d] ∧ (wdsD d).length ≤ 5000 ∧ k d
theorem Nst.lens {tab : Tb} {ss : List Str} {ds : List D} (h : Nst tab ss ds) : ss.length = ds.length ∧ ds.length ≤ (wdsL ds).length := by
 induction h with
 | nil => simp
 | atom _ ha _ ih =>
  obtain ⟨_, e, _⟩ := ha
  simp only [List.length_cons, wdsL, e, List.length_append, List.length_nil]
  omega
 | nest _ _ _ _ ih1 ih2 =>
  simp only [List.length_cons, wdsL, wdsD, List.length_append]
  omega
theorem read_all {tab : Tb} {Φ : List Str → List D → Prop} (ha : ∀ (x : Str) (d : D) (r : List D) (rest : List Str), tellW x d → lookS tab x = none → r.length ≤ 5000 → Φ rest (d :: r) → Φ (x :: rest) r)
  (hn : ∀ (x : Str) (ss : List Str) (ds r : List D) (rest : List Str), lookS tab x = some ss → ss.length = ds.length → (ds ++ r).length ≤ 5000 → Φ rest (.tup (.str x :: ds) :: r) → Φ (x :: rest) (ds ++ r))
  {ss : List Str} {ds : List D} (h : Nst tab ss ds) : ∀ (r : List D) (rest : List Str), (wdsL ds).length + r.length ≤ 5000 → Φ rest (ds ++ r) → Φ ((wdsL ds).reverse ++ rest) r := by
 induction h with
 | nil => intro r rest _ q; exact q
 | @atom s x ss ds hs a h ih =>
  intro r rest hl q
  obtain ⟨v, e, _, _, t, no⟩ := a
  have ll := h.lens.2
  simp only [wdsL, e, List.length_append, List.length_cons, List.length_nil] at hl
  simp only [wdsL, e, List.reverse_append, List.append_assoc]
  exact ih r _ (by omega) (ha v x (ds ++ r) rest t no (by rw [List.length_append]; omega) q)
 | @nest x ss' ss ds' ds hk hp h1 h2 ih1 ih2 =>
  intro r rest hl q
  have l1 := h1.lens
  have l2 := h2.lens
  simp only [wdsL, wdsD, List.length_append, List.length_cons] at hl
  simp only [wdsL, wdsD, List.reverse_append, List.reverse_cons, List.append_assoc]
  refine ih2 r _ (by omega) (ih1 (ds ++ r) _ (by rw [List.length_append]; omega) ?_)
  exact hn x ss' ds' (ds ++ r) rest hk l1.1 (by rw [List.length_append, List.length_append]; omega) q
theorem ok_rnest {fa fw : Addr} {xa : Str} {fda fdw : FuncData} {tab : Tb} (T : Txt w K mg) (Ca : CalF P w K mg base 1 xa ["word"] none (M_arms tab) fa fda) (Cw : CalF P w K mg base 2 "worth_of_word" ["word"] none M_tellw fw fdw) :
  Cal P w K mg base 3 "read_nest" ["words", "arms_of", "worth_of"] none (M_rnest tab fa fw) := by
 refine okF T.f_read_nest sc_read_nest (fun _ _ _ _ _ _ us hl => match us, hl with | [_, _, _], _ => rfl) (fun ds k h => ?_) (fun f cdv A outer s H E ds kk hr h => ?_)
 ·obtain ⟨_, rfl, _⟩ := h
  rfl
 obtain ⟨d, rfl, hN, hl, q⟩ := h
 refine ⟨_, (pss_cons (ps_set (i := 3) sc_read_nest.nd rfl (by first | exact Or.inl rfl | exact Or.inr rfl) (pe_lst pa_nil))
   (pss_cons (ps_for PassesOwn.never rfl (pi_list (pe_revL (pv 0))) (pg_name (i := 4) sc_read_nest.nd rfl (by first | exact Or.inl rfl | exact Or.inr rfl)) (pss_cons (ps_set (i := 5) sc_read_nest.nd rfl (by first | exact Or.inl rfl | exact Or.inr rfl) (pe_callL (i := 1) Ca.ok (hr.mono (by omega)) rfl (by first | exact Or.inl rfl | exact Or.inr (Or.inl rfl)) Ca.keep Ca.binds .nil pass0 (pa_cons (pv 4) pa_nil)))
   (pss_one (ps_if (pt_cmpR op_isN (pv 5) pe_non (nomark _)) (pss_one (ps_set (i := 3) sc_read_nest.nd rfl (by first | exact Or.inl rfl | exact Or.inr rfl) (pe_op op_cat (pe_lst (pa_cons (pe_callL (i := 2) Cw.ok (hr.mono (by omega)) rfl (by first | exact Or.inl rfl | exact Or.inr (Or.inl rfl)) Cw.keep Cw.binds .nil pass0 (pa_cons (pv 4) pa_nil)) pa_nil)) (pv 3)))) (pss_cons (ps_set (i := 6) sc_read_nest.nd rfl (by first | exact Or.inl rfl | exact Or.inr rfl) (pe_callB (r := rLenQ K) (id := "len")  call_len_seq (by rfl) T.z_len PySem.boot_len (pa_cons (pv 5) pa_nil)))
   (pss_one (ps_set (i := 3) sc_read_nest.nd rfl (by first | exact Or.inl rfl | exact Or.inr rfl) (pe_op op_cat (pe_lst (pa_cons (pe_op (r := rCatA K) op_catA (pe_tup (pa_cons (pv 4) pa_nil)) (pe_callTy (r := rTupQ K) (T := "tuple")  call_tuple_of (by rfl) T.z_tuple (by decide +kernel) (pa_cons (pe_slice (r := rSlL K) sl_list (pv 3) po_none (po_some (pv 6))) pa_nil))) pa_nil)) (pe_slice (r := rSlL K) sl_list (pv 3) (po_some (pv 6)) po_none)))))))))
   (pss_one (ps_ret (pe_ix (r := rIx K) ix_seq (pv 3) pe_int (fun _ _ => rfl)))))), ?_⟩
 try dsimp only [cxOf]
 change dS _ _ _ [Sl.d _, Sl.d _, Sl.d _, Sl.un, Sl.un, Sl.un, Sl.un] _
 refine s_seq (s_set (d_lst (d_nil ⟨by simp, ?_⟩)))
 refine s_seq (s_for (i_list (d_rev (d_var rfl ⟨_, rfl, _, rfl, ?_⟩))))
 generalize hEE : (DEnds.mk _ _ _ _) = EE
 generalize hB : (tSeq (tAsg (tCallL 1 fa _ _ _ _) (gName 5)) _) = B
 have hz := hN.lens.2
 have key : ∀ s4 s5 s6 : Sl, forW K none (gName 4) B EE (strsOf ((wdsL [d]).reverse ++ [])) [.d (.lst (strsOf (wdsD d))), .d (.adr fa), .d (.adr fw), .d (.lst []), s4, s5, s6] := by
  refine read_all (tab := tab) (Φ := fun ws r => ∀ s4 s5 s6 : Sl, forW K none (gName 4) B EE (strsOf ws) [.d (.lst (strsOf (wdsD d))), .d (.adr fa), .d (.adr fw), .d (.lst r), s4, s5, s6]) ?_ ?_ hN [] [] ?_ ?_
  ·intro x y r rest ht no hl2 h s4 s5 s6
   refine forW_cons (g_name ?_)
   subst hB
   refine s_seq (s_set (d_callLP rfl (d_cons (d_var rfl (d_nil ⟨_, rfl, ?_⟩)))))
   rw [no]
   refine s_if (d_test (d_op (d_var rfl (d_c rfl (r_isN ⟨_, rfl, ?_⟩)))))
   refine ⟨fun _ => ?_, fun e => (by cases e)⟩
   refine s_set (d_ofL (l_cat (d_lst (d_cons (d_callLP rfl (d_cons (d_var rfl (d_nil ⟨_, _, rfl, ht, d_nil ⟨by simp, d_var rfl ⟨[y], r, rfl, rfl, ?_, ?_⟩⟩⟩))))))))
   ·simp only [List.length_cons, List.length_nil]; omega
   ·exact h _ _ _
  ·intro x ss ds r rest hk hl1 hl2 h s4 s5 s6
   refine forW_cons (g_name ?_)
   subst hB
   refine s_seq (s_set (d_callLP rfl (d_cons (d_var rfl (d_nil ⟨_, rfl, ?_⟩)))))
   rw [hk]
   refine s_if (d_test (d_op (d_var rfl (d_c rfl (r_isN ⟨_, rfl, ?_⟩)))))
   refine ⟨fun e => (by cases e), fun _ => ?_⟩
   refine s_seq (s_set (d_cb (d_cons (d_var rfl (d_nil (c_lenS (.inr rfl) ?_))))))
   rw [show (strsOf ss).length = ds.length from by rw [strsOf, List.length_map, hl1]]
   refine s_set (d_ofL (l_cat (d_lst (d_cons (d_op (d_tup (d_cons (d_var rfl (d_nil ⟨by simp, d_cb (d_cons (d_ofL (l_slL (d_var rfl (o_no (o_part (d_var rfl ⟨_, rfl, _, rfl, ?_⟩)))))))⟩)))))))))
   rw [show cutD (ds ++ r) none (some (ds.length : Int)) = ds from by rw [cut_to (by simp)]; simp]
   refine d_nil (c_tuple (.inl rfl) (r_catA ?_ (d_nil ⟨by simp, d_ofL (l_slL (d_var rfl (o_part (d_var rfl ⟨_, rfl, o_no ⟨_, rfl, ?_⟩⟩))))⟩)))
   ·simp only [List.length_append, List.length_cons, List.length_nil] at hl2 ⊢
    omega
   rw [show cutD (ds ++ r) (some (ds.length : Int)) none = r from by rw [cut_from]; simp]
   refine ⟨[.tup (.str x :: ds)], r, rfl, rfl, ?_, h _ _ _⟩
   simp only [List.length_append, List.length_cons, List.length_nil] at hl2 ⊢
   omega
  ·simp only [wdsL, List.append_nil, List.length_nil]
   omega
  ·intro s4 s5 s6
   refine forW_nil ?_
   subst hEE
   exact s_ret (d_op (d_var rfl (d_c rfl (r_ix (.inl (r_ixL (show atI [d] 0 = some d from rfl) q))))))
 have e : (strsOf (wdsD d)).reverse = strsOf ((wdsL [d]).reverse ++ []) := by
  simp [wdsL, strsOf]
 rw [e]
 exact key _ _ _
end
end Pr
set_option Elab.async false
set_option linter.all false
set_option maxRecDepth 100000
set_option maxHeartbeats 2000000
namespace Pr
open PySem L2 PD
variable [Tabs]
theorem arm_num {tab : Tb} {n : Int} (h : -99 ≤ n ∧ n ≤ 99) (no : ∀ i : Int, i.natAbs ≤ 99 → lookS tab (toString i : Str) = none) : ArmA tab "number" (.int n) :=
 ⟨toString n, by simp only [wdsD], (int_txts n (by omega)).1, .inl ⟨rfl, n, by omega, rfl⟩, .inl ⟨n, by omega, rfl, rfl⟩, no n (by omega)⟩
theorem arm_tru {tab : Tb} {b : Bool} (no : ∀ b : Bool, lookS tab (if b then ("True" : Str) else "False") = none) : ArmA tab "truth" (.bl b) :=
 ⟨if b then "True" else "False", by simp only [wdsD], by cases b <;> decide +kernel, .inr (.inl ⟨rfl, b, by cases b <;> rfl⟩), .inr (.inl ⟨b, rfl, by cases b <;> rfl⟩), no b⟩
theorem arm_nm {tab : Tb} {s c : Str} (m : (s = "part" ∧ c ∈ partsS) ∨ (s = "cell" ∧ c ∈ cellsS) ∨ (s = "deed" ∧ c ∈ deedsS)) (no : ∀ c ∈ deedsS ++ cellsS ++ partsS, lookS tab c = none) : ArmA tab s (.str c) := by
 have hc : c ∈ deedsS ++ cellsS ++ partsS := by
  rcases m with ⟨_, h⟩ | ⟨_, h⟩ | ⟨_, h⟩ <;> simp [h]
 have pl : ∀ c ∈ deedsS ++ cellsS ++ partsS, plainW c := by decide +kernel
 exact ⟨c, by simp only [wdsD], pl c hc, .inr (.inr (.inr m)), .inr (.inr ⟨rfl, hc⟩), no c hc⟩
theorem no_num : ∀ i : Int, i.natAbs ≤ 99 → lookS armsTab (toString i : Str) = none := by
 intro n h
 have : ∀ j : Fin 100, lookS armsTab (toString ((j.val : Nat) : Int) : Str) = none ∧ lookS armsTab (toString (-((j.val : Nat) : Int)) : Str) = none := by decide +kernel
 have q := this ⟨n.natAbs, by omega⟩
 rcases Int.natAbs_eq n with e | e
 ·rw [e]; exact q.1
 ·rw [e]; exact q.2
theorem no_nmB : ∀ c ∈ deedsS ++ cellsS ++ partsS, lookS armsTab c = none := by decide +kernel
theorem no_nmT : ∀ c ∈ deedsS ++ cellsS ++ partsS, lookS treeTab c = none := by decide +kernel
theorem B.nst : ∀ {b : B}, b.ok → ∀ {ss : List Str} {ds : List D}, Nst armsTab ss ds → Nst armsTab ("nest" :: ss) (b.toD :: ds) := by
 intro b
 induction b with
 | num n => intro h ss ds r; exact .nest (by decide +kernel) (by decide +kernel) (.atom (by decide) (arm_num h no_num) .nil) r
 | tru n => intro h ss ds r; exact .nest (by decide +kernel) (by decide +kernel) (.atom (by decide) (arm_tru (by decide +kernel)) .nil) r
 | emp => intro h ss ds r; exact .nest (by decide +kernel) (by decide +kernel) .nil r
 | arg => intro h ss ds r; exact .nest (by decide +kernel) (by decide +kernel) .nil r
 | cel c => intro h ss ds r; exact .nest (by decide +kernel) (by decide +kernel) (.atom (by decide) (arm_nm (.inr (.inl ⟨rfl, h⟩)) no_nmB) .nil) r
 | set c x ih => intro h ss ds r; exact .nest (by decide +kernel) (by decide +kernel) (.atom (by decide) (arm_nm (.inr (.inl ⟨rfl, h.1⟩)) no_nmB) (ih h.2 .nil)) r
 | call c x ih => intro h ss ds r; exact .nest (by decide +kernel) (by decide +kernel) (.atom (by decide) (arm_nm (.inr (.inr ⟨rfl, h.1⟩)) no_nmB) (ih h.2 .nil)) r
 | op1 v x ih =>
  intro h ss ds r
  have f : ∀ v ∈ w1S, lookS armsTab v = some ([("nest" : Str)]) ∧ plainW v := by decide +kernel
  exact .nest (f v h.1).1 (f v h.1).2 (ih h.2 .nil) r
 | op2 v x y ihx ihy =>
  intro h ss ds r
  have f : ∀ v ∈ w2S, lookS armsTab v = some ([("nest" : Str), "nest"]) ∧ plainW v := by decide +kernel
  exact .nest (f v h.1).1 (f v h.1).2 (ihx h.2.1 (ihy h.2.2 .nil)) r
 | ite x y z ihx ihy ihz => intro h ss ds r; exact .nest (by decide +kernel) (by decide +kernel) (ihx h.1 (ihy h.2.1 (ihz h.2.2 .nil))) r
theorem Tr.nst {ns : List Str} (hn : ∀ x ∈ ns, x ∈ partsS) : ∀ {t : Tr}, t.ok ns → ∀ {ss : List Str} {ds : List D}, Nst treeTab ss ds → Nst treeTab ("nest" :: ss) (t.toD :: ds) := by
 have dd : ∀ {d : Str}, d ∈ deedsS → ArmA treeTab "deed" (.str d) := fun h => arm_nm (.inr (.inr ⟨rfl, h⟩)) no_nmT
 have pp : ∀ {d : Str}, d ∈ ns → ArmA treeTab "part" (.str d) := fun h => arm_nm (.inl ⟨rfl, hn _ h⟩) no_nmT
 intro t
 induction t with
 | part p => intro h ss ds r; exact .nest (by decide +kernel) (by decide +kernel) (.atom (by decide) (pp h) .nil) r
 | wit x y ihx ihy => intro h ss ds r; exact .nest (by decide +kernel) (by decide +kernel) (ihx h.1 (ihy h.2 .nil)) r
 | wo x d ih => intro h ss ds r; exact .nest (by decide +kernel) (by decide +kernel) (ih h.1 (.atom (by decide) (dd h.2) .nil)) r
 | also x d n ih => intro h ss ds r; exact .nest (by decide +kernel) (by decide +kernel) (ih h.1 (.atom (by decide) (dd h.2.1) (.atom (by decide) (dd h.2.2) .nil))) r
 | ren x d n ih => intro h ss ds r; exact .nest (by decide +kernel) (by decide +kernel) (ih h.1 (.atom (by decide) (dd h.2.1) (.atom (by decide) (dd h.2.2) .nil))) r
 | over x p ih => intro h ss ds r; exact .nest (by decide +kernel) (by decide +kernel) (ih h.1 (.atom (by decide) (pp h.2) .nil)) r
theorem wdt_size : ∀ t : Tr, (wdsD t.toD).length ≤ 4 * t.size := by
 intro t
 induction t <;> simp only [Tr.toD, wdsD, wdsL, Tr.size, List.length_cons, List.length_append, List.length_nil] <;> omega
theorem nst_up : ∀ {n m : Nat} {d : D}, n ≤ m → nestOk n d → nestOk m d := by
 intro n
 induction n with
 | zero => intro m d _ h; exact h.elim
 | succ n ih =>
  intro m d hm h
  cases m with
  | zero => omega
  | succ m =>
   obtain ⟨w, ds, e, hw, h3, hd⟩ := h
   exact ⟨w, ds, e, hw, h3, fun x hx => (hd x hx).imp id (ih (by omega))⟩
def nestS : Nat → D → Prop
 | 0, _ => False
 | n + 1, d => ∃ w ds, d = .tup (.str w :: ds) ∧ w.length ≤ 10 ∧ ds.length ≤ 3 ∧ ∀ x ∈ ds, (∃ s : Str, x = .str s ∧ s.length ≤ 10) ∨ nestS n x
theorem nests_ok : ∀ {n : Nat} {d : D}, nestS n d → nestOk n d
 | 0, _, h => h
 | n + 1, d, ⟨w, ds, e, hw, h3, hd⟩ => ⟨w, ds, e, hw, h3, fun x hx => (hd x hx).imp (fun h => .inl h) nests_ok⟩
theorem nests_up : ∀ {n m : Nat} {d : D}, n ≤ m → nestS n d → nestS m d := by
 intro n
 induction n with
 | zero => intro m d _ h; exact h.elim
 | succ n ih =>
  intro m d hm h
  cases m with
  | zero => omega
  | succ m =>
   obtain ⟨w, ds, e, hw, h3, hd⟩ := h
   exact ⟨w, ds, e, hw, h3, fun x hx => (hd x hx).imp id (ih (by omega))⟩
theorem tree_s {ns : List Str} (hn : ∀ x ∈ ns, x ∈ partsS) : ∀ {t : Tr}, t.ok ns → nestS t.depth t.toD := by
 have d1 : ∀ s ∈ deedsS, s.length ≤ 10 := by decide
 have p1 : ∀ s ∈ partsS, s.length ≤ 10 := by decide
 intro t
 induction t with
 | part p => intro h; exact ⟨_, _, rfl, by decide, by simp, fun x hx => by rw [List.mem_singleton.mp hx]; exact .inl (⟨p, rfl, p1 _ (hn _ h)⟩)⟩
 | wit x y ihx ihy =>
  intro h
  refine ⟨_, _, rfl, by decide, by simp, fun z hz => ?_⟩
  simp only [List.mem_cons, List.not_mem_nil, or_false] at hz
  rcases hz with rfl | rfl
  ·exact .inr (nests_up (Nat.le_max_left _ _) (ihx h.1))
  ·exact .inr (nests_up (Nat.le_max_right _ _) (ihy h.2))
 | wo x d ih =>
  intro h
  refine ⟨_, _, rfl, by decide, by simp, fun z hz => ?_⟩
  simp only [List.mem_cons, List.not_mem_nil, or_false] at hz
  rcases hz with rfl | rfl
  ·exact .inr (ih h.1)
  ·exact .inl (⟨d, rfl, d1 _ h.2⟩)
 | also x d n ih =>
  intro h
  refine ⟨_, _, rfl, by decide, by simp, fun z hz => ?_⟩
  simp only [List.mem_cons, List.not_mem_nil, or_false] at hz
  rcases hz with rfl | rfl | rfl
  ·exact .inr (ih h.1)
  ·exact .inl (⟨d, rfl, d1 _ h.2.1⟩)
  ·exact .inl (⟨n, rfl, d1 _ h.2.2⟩)
 | ren x d n ih =>
  intro h
  refine ⟨_, _, rfl, by decide, by simp, fun z hz => ?_⟩
  simp only [List.mem_cons, List.not_mem_nil, or_false] at hz
  rcases hz with rfl | rfl | rfl
  ·exact .inr (ih h.1)
  ·exact .inl (⟨d, rfl, d1 _ h.2.1⟩)
  ·exact .inl (⟨n, rfl, d1 _ h.2.2⟩)
 | over x p ih =>
  intro h
  refine ⟨_, _, rfl, by decide, by simp, fun z hz => ?_⟩
  simp only [List.mem_cons, List.not_mem_nil, or_false] at hz
  rcases hz with rfl | rfl
  ·exact .inr (ih h.1)
  ·exact .inl (⟨p, rfl, p1 _ (hn _ h.2)⟩)
theorem tree_of {ns : List Str} (hn : ∀ x ∈ ns, x ∈ partsS) {t : Tr} (h : t.ok ns) : nestOk t.depth t.toD := nests_ok (tree_s hn h)
end Pr
set_option Elab.async false
set_option linter.all false
set_option maxRecDepth 100000
set_option maxHeartbeats 4000000
namespace Pr
open PySem L2 PD NdefX LamX
variable [Tabs]
local macro_rules | `(tactic| walk_at "d1") => `(tactic| walk_at "D5f2f")
local macro_rules | `(tactic| walk_at "d") => `(tactic| repeat' walk_at "d1")
def Tr.sz (ss : List Str) : Tr → Nat → Nat
 | .part p, a => if 9 < a then 0 else if p ∈ ss then 1 else 0
 | .wit x y, a => if 9 < a then 0 else if x.sz ss (a + 1) = 0 then 0 else if y.sz ss (a + 1) = 0 then 0 else 1 + x.sz ss (a + 1) + y.sz ss (a + 1)
 | .wo x _, a => if 9 < a then 0 else if x.sz ss (a + 1) = 0 then 0 else 1 + x.sz ss (a + 1)
 | .also x _ _, a => if 9 < a then 0 else if x.sz ss (a + 1) = 0 then 0 else 1 + x.sz ss (a + 1)
 | .ren x _ _, a => if 9 < a then 0 else if x.sz ss (a + 1) = 0 then 0 else 1 + x.sz ss (a + 1)
 | .over x p, a => if 9 < a then 0 else if x.sz ss (a + 1) = 0 then 0 else if p ∈ ss then 1 + x.sz ss (a + 1) else 0
theorem sz_is {ss : List Str} : ∀ {t : Tr}, t.ok partsS → ∀ a : Nat, ((t.ok ss ∧ a + t.depth ≤ 10) ∧ t.sz ss a = t.size) ∨ (¬ (t.ok ss ∧ a + t.depth ≤ 10) ∧ t.sz ss a = 0) := by
 intro t
 induction t with
 | part p =>
  intro _ a
  simp only [Tr.ok, Tr.sz, Tr.depth, Tr.size]
  by_cases h : 9 < a
  ·rw [if_pos h]; exact .inr ⟨fun q => by omega, rfl⟩
  ·rw [if_neg h]
   by_cases g : p ∈ ss
   ·rw [if_pos g]; exact .inl ⟨⟨g, by omega⟩, rfl⟩
   ·rw [if_neg g]; exact .inr ⟨fun q => g q.1, rfl⟩
 | wit x y ihx ihy =>
  intro ok a
  simp only [Tr.ok, Tr.sz, Tr.depth, Tr.size]
  by_cases h : 9 < a
  ·rw [if_pos h]; exact .inr ⟨fun q => by omega, rfl⟩
  ·rw [if_neg h]
   have px := tsize_pos x
   have py := tsize_pos y
   rcases ihx ok.1 (a + 1) with ⟨⟨o1, d1⟩, e1⟩ | ⟨n1, e1⟩
   ·rw [e1, if_neg (by omega)]
    rcases ihy ok.2 (a + 1) with ⟨⟨o2, d2⟩, e2⟩ | ⟨n2, e2⟩
    ·rw [e2, if_neg (by omega)]; exact .inl ⟨⟨⟨o1, o2⟩, by omega⟩, by omega⟩
    ·rw [e2, if_pos rfl]; exact .inr ⟨fun q => n2 ⟨q.1.2, by have := q.2; omega⟩, rfl⟩
   ·rw [e1, if_pos rfl]; exact .inr ⟨fun q => n1 ⟨q.1.1, by have := q.2; omega⟩, rfl⟩
 | wo x d ih =>
  intro ok a
  simp only [Tr.ok, Tr.sz, Tr.depth, Tr.size]
  by_cases h : 9 < a
  ·rw [if_pos h]; exact .inr ⟨fun q => by omega, rfl⟩
  ·rw [if_neg h]
   have px := tsize_pos x
   rcases ih ok.1 (a + 1) with ⟨⟨o1, d1⟩, e1⟩ | ⟨n1, e1⟩
   ·rw [e1, if_neg (by omega)]; exact .inl ⟨⟨⟨o1, ok.2⟩, by omega⟩, by omega⟩
   ·rw [e1, if_pos rfl]; exact .inr ⟨fun q => n1 ⟨q.1.1, by have := q.2; omega⟩, rfl⟩
 | also x d n ih =>
  intro ok a
  simp only [Tr.ok, Tr.sz, Tr.depth, Tr.size]
  by_cases h : 9 < a
  ·rw [if_pos h]; exact .inr ⟨fun q => by omega, rfl⟩
  ·rw [if_neg h]
   have px := tsize_pos x
   rcases ih ok.1 (a + 1) with ⟨⟨o1, d1⟩, e1⟩ | ⟨n1, e1⟩
   ·rw [e1, if_neg (by omega)]; exact .inl ⟨⟨⟨o1, ok.2⟩, by omega⟩, by omega⟩
   ·rw [e1, if_pos rfl]; exact .inr ⟨fun q => n1 ⟨q.1.1, by have := q.2; omega⟩, rfl⟩
 | ren x d n ih =>
  intro ok a
  simp only [Tr.ok, Tr.sz, Tr.depth, Tr.size]
  by_cases h : 9 < a
  ·rw [if_pos h]; exact .inr ⟨fun q => by omega, rfl⟩
  ·rw [if_neg h]
   have px := tsize_pos x
   rcases ih ok.1 (a + 1) with ⟨⟨o1, d1⟩, e1⟩ | ⟨n1, e1⟩
   ·rw [e1, if_neg (by omega)]; exact .inl ⟨⟨⟨o1, ok.2⟩, by omega⟩, by omega⟩
   ·rw [e1, if_pos rfl]; exact .inr ⟨fun q => n1 ⟨q.1.1, by have := q.2; omega⟩, rfl⟩
 | over x p ih =>
  intro ok a
  simp only [Tr.ok, Tr.sz, Tr.depth, Tr.size]
  by_cases h : 9 < a
  ·rw [if_pos h]; exact .inr ⟨fun q => by omega, rfl⟩
  ·rw [if_neg h]
   have px := tsize_pos x
   rcases ih ok.1 (a + 1) with ⟨⟨o1, d1⟩, e1⟩ | ⟨n1, e1⟩
   ·rw [e1, if_neg (by omega)]
    by_cases g : p ∈ ss
    ·rw [if_pos g]; exact .inl ⟨⟨⟨o1, g⟩, by omega⟩, by omega⟩
    ·rw [if_neg g]; exact .inr ⟨fun q => g q.1.2, rfl⟩
   ·rw [e1, if_pos rfl]; exact .inr ⟨fun q => n1 ⟨q.1.1, by have := q.2; omega⟩, rfl⟩
theorem good_sz {ss : List Str} {t : Tr} (h : t.ok partsS) : goodT ss t ↔ 1 ≤ t.sz ss 0 ∧ t.sz ss 0 ≤ 40 := by
 have p := tsize_pos t
 unfold goodT
 rcases sz_is h 0 with ⟨⟨o, d⟩, e⟩ | ⟨n, e⟩
 ·rw [e]
  exact ⟨fun q => ⟨p, q.2.2⟩, fun q => ⟨o, by omega, q.2⟩⟩
 ·rw [e]
  exact ⟨fun q => absurd ⟨q.1, by have := q.2.1; omega⟩ n, fun q => by omega⟩
section
variable {P : Program} {w : World} {K : PySem.W.Frag} {mg : Str → Option Value} {base : Heap}
def M_sizeA (n : Nat) (fa f : Addr) (F : NF) (l : Addr) (ss : List Str) : List D → (D → Prop) → Prop := fun ds k => ∃ (b : Tr) (a : Nat), ds = [b.toD, .adr fa, .clo f F l ss, .int (a : Int)] ∧ b.ok partsS ∧ a ≤ 10 ∧ 11 ≤ a + n ∧ k (.int ((b.sz ss a : Nat) : Int))
theorem ok_sizeA {fa f l fs : Addr} {F : NF} {ss : List Str} {fda fds : FuncData} (T : Txt w K mg) (Ca : CalF P w K mg base 1 "tree_arms" ["word"] none M_tree_arms fa fda) (Fn : NOk P w K mg base CX0 1 f F ["sort", "arm"] ["names"] (spN K (M_fitsT ss) l ss))
  (hm : mg "size_of" = some (.ref fs)) (FD : FunD K "size_of" "size_of" (defArgs s_size_of) (defBody s_size_of) (defScope s_size_of) [.int 0] [] fs fds) (hk : PySem.W.keepIn K (.ref fs) = true) (hb : Binds K fds ["nest", "arms_of", "fits", "around"] []) :
  ∀ n : Nat, FnC P w K mg base (Caught F ["names"] [some (.ref l)]) (n + 3) fs fds ["nest", "arms_of", "fits", "around"] (spD K none (M_sizeA n fa f F l ss)) := by
 intro n
 induction n with
 | zero =>
  refine okC FD sc_size_of (fun ds k h => ?_) (fun cdv A outer s H E ds kk hr hC h => ?_)
  ·obtain ⟨_, _, rfl, _⟩ := h
   rfl
  ·obtain ⟨b, a, _, _, h1, h2, _⟩ := h
   omega
 | succ n ih =>
  refine okC FD sc_size_of (fun ds k h => ?_) (fun cdv A outer s H E ds kk hr hC h => ?_)
  ·obtain ⟨_, _, rfl, _⟩ := h
   rfl
  obtain ⟨b, a, rfl, hb', h1, h2, q⟩ := h
  obtain ⟨tm, gM⟩ := T.AROUND
  refine ⟨_, (pss_cons (ps_if (PW.pt (pw_or (pt_cmpR op_gt (pv 3) (pe_gint rfl gM) (nomark _)) (pw_or (pt_not (pt_val (pe_callB (r := rIsi K) (id := "isinstance")  call_isi (by rfl) T.z_isinstance (by decide +kernel) (pa_cons (pv 0) (pa_cons (pe_bty (n := "tuple") rfl T.z_tuple (by decide +kernel)) pa_nil))))) (pw_or1 (pt_not (pt_truth (pv 0) (by intro _; rfl))))))) (pss_one (ps_ret pe_int)) pss_nil)
   (pss_cons (ps_set (i := 4) sc_size_of.nd rfl (by first | exact Or.inl rfl | exact Or.inr rfl) (pe_callL (i := 1) Ca.ok (hr.mono (by omega)) rfl (by first | exact Or.inl rfl | exact Or.inr (Or.inl rfl)) Ca.keep Ca.binds .nil pass0 (pa_cons (pe_ix (r := rIx K) ix_seq (pv 0) pe_int (fun _ _ => rfl)) pa_nil)))
   (pss_cons (ps_if (PW.pt (pw_or (pt_cmpR op_isN (pv 4) pe_non (nomark _)) (pw_or1 (pt_cmpR op_ne (pe_callB (r := rLenQ K) (id := "len")  call_len_seq (by rfl) T.z_len PySem.boot_len (pa_cons (pv 4) pa_nil)) (pe_op op_sub (pe_callB (r := rLenQ K) (id := "len")  call_len_seq (by rfl) T.z_len PySem.boot_len (pa_cons (pv 0) pa_nil)) pe_int) (nomark _))))) (pss_one (ps_ret pe_int)) pss_nil)
   (pss_cons (ps_set (i := 5) sc_size_of.nd rfl (by first | exact Or.inl rfl | exact Or.inr rfl) pe_int)
   (pss_cons (ps_for PassesOwn.never rfl (RZ.pi_zipA (by rfl) T.z_zip (pa_cons (pv 4) (pa_cons (pe_slice (r := rSlA K) sl_tupA (pv 0) (po_some pe_int) po_none) pa_nil))) (pg_tupK (K := K) (n := 2) rfl rfl (pgs_cons (pg_name (i := 6) sc_size_of.nd rfl (by first | exact Or.inl rfl | exact Or.inr rfl)) (pgs_cons (pg_name (i := 7) sc_size_of.nd rfl (by first | exact Or.inl rfl | exact Or.inr rfl)) pgs_nil))) (pss_one (ps_if (pt_cmpR op_eq (pv 6) pe_str (nomark _)) (pss_cons (ps_set (i := 8) sc_size_of.nd rfl (by first | exact Or.inl rfl | exact Or.inr rfl) (pe_callC (Z := fun _ => True) ih (fun pins σ H s I _ => Caught.on hC rfl rfl rfl I) hr rfl hm hk hb .nil (pa_cons (pv 7) (pa_cons (pv 1) (pa_cons (pv 2) (pa_cons (pe_op op_add (pv 3) pe_int) pa_nil))))))
   (pss_cons (ps_if (pt_cmpR op_eq (pv 8) pe_int (nomark _)) (pss_one (ps_ret pe_int)) pss_nil)
   (pss_one (ps_aug (i := 5) sc_size_of.nd rfl (by first | exact Or.inl rfl | exact Or.inr rfl) (pv 8) ip_add)))) (pss_one (ps_if (pt_not (pt_val (pe_callF (i := 2) Fn hC.1 hC.2 rfl (hr.mono (by omega)) rfl (by first | exact Or.inl rfl | exact Or.inr (Or.inl rfl)) (pa_cons (pv 6) (pa_cons (pv 7) pa_nil))))) (pss_one (ps_ret pe_int)) pss_nil)))))
   (pss_one (ps_ret (pv 5)))))))), ?_⟩
  try dsimp only [cxOf]
  change dS _ _ _ [Sl.d _, Sl.d _, Sl.d _, Sl.d _, Sl.un, Sl.un, Sl.un, Sl.un, Sl.un] _
  have fin : ∀ {i j : Int}, kk (.int i) → i = j → kk (.int j) := fun h e => e ▸ h
  have fin0 : b.sz ss a = 0 → kk (.int 0) := fun e => fin q (by rw [e]; rfl)
  by_cases ha9 : 9 < a
  ·have hna : decide ((9 : Int) < (a : Int)) = true := decide_eq_true (by omega)
   have e0 : b.sz ss a = 0 := by cases b <;> rw [Tr.sz, if_pos ha9]
   have q0 := fin0 e0
   cases b <;> dsimp only [Tr.toD] <;> repeat' walk_at "d1"
   all_goals exact q0
  have hna : decide ((9 : Int) < (a : Int)) = false := decide_eq_false (by omega)
  have zt : ∀ {x : Tr}, x.sz ss (a + 1) = 0 → decide ((((x.sz ss (a + 1) : Nat)) : Int) = 0) = true := fun h => decide_eq_true (by omega)
  have zf : ∀ {x : Tr}, ¬ x.sz ss (a + 1) = 0 → decide ((((x.sz ss (a + 1) : Nat)) : Int) = 0) = false := fun h => decide_eq_false (by omega)
  cases b <;> dsimp only [Tr.toD] <;> simp only [Tr.ok] at hb' <;> simp only [Tr.sz, if_neg ha9] at q fin0
  case part p =>
   have ha : (("part" : Str), (["part"] : List Str)) ∈ treeTab := by decide
   by_cases hp : p ∈ ss
   ·rw [if_pos hp] at q
    have hf : (!decide (p ∈ ss)) = false := by simp [hp]
    refine s_seq (s_if (d_or (d_test (d_op (d_var (by with_unfolding_all rfl) ?_)))))
    refine d_c (by with_unfolding_all rfl) ?_
    refine r_I0 (by with_unfolding_all rfl) ?_
    refine ⟨_, rfl, (br_f (by assumption) ?_)⟩
    refine d_or (d_not (d_tB (d_cb (d_cons (d_var (by with_unfolding_all rfl) ?_)))))
    refine d_cons (d_c (by with_unfolding_all rfl) ?_)
    refine d_nil (c_tup (by with_unfolding_all rfl) ?_)
    refine ⟨_, rfl, (br_f (by with_unfolding_all rfl) ?_)⟩
    refine d_not (d_truth (d_var (by with_unfolding_all rfl) ?_))
    refine truOk_tup (br_f (by with_unfolding_all rfl) ?_)
    refine s_next (s_seq (s_set (d_callLP (by with_unfolding_all rfl) ?_)))
    refine d_cons (d_op (d_var (by with_unfolding_all rfl) ?_))
    refine d_c (by with_unfolding_all rfl) ?_
    refine r_ix (.inr (r_ixT (by with_unfolding_all rfl) ?_))
    refine d_nil ?_
    dsimp only
    refine ⟨_, _, rfl, ha, (s_seq (s_if (d_or (d_test (d_op (d_var (by with_unfolding_all rfl) ?_))))))⟩
    refine d_c (by with_unfolding_all rfl) ?_
    refine r_isN ⟨_, rfl, (br_f (by with_unfolding_all rfl) ?_)⟩
    refine d_test (d_op (d_cb (d_cons (d_var (by with_unfolding_all rfl) ?_))))
    refine d_nil (c_lenS (.inr rfl) (d_op (d_cb (d_cons (d_var (by with_unfolding_all rfl) ?_)))))
    refine d_nil (c_lenS (.inr rfl) (d_c (by with_unfolding_all rfl) ?_))
    refine r_I0 (by with_unfolding_all rfl) ?_
    refine r_neI ⟨_, rfl, (br_f (by with_unfolding_all rfl) ?_)⟩
    refine s_next (s_seq (s_set (d_c (by with_unfolding_all rfl) ?_)))
    refine s_seq (s_for (i_zipT (d_cons (d_var (by with_unfolding_all rfl) ?_))))
    refine d_cons (d_slT1 (d_var (by with_unfolding_all rfl) ?_))
    refine ⟨_, _, rfl, (d_nil ⟨_, _, rfl, ?_⟩)⟩
    ((with_reducible refine forW_id ?_); refine forW_pair ?_)
    ((with_reducible refine g_tid ?_); refine g_tup rfl ?_)
    refine gs_cons (g_name (gs_cons (g_name (gs_nil (s_if (d_test (d_op (d_var (by with_unfolding_all rfl) ?_))))))))
    refine d_c (by with_unfolding_all rfl) ?_
    refine r_eqS ⟨_, rfl, (br_f (by with_unfolding_all rfl) ?_)⟩
    refine s_if (d_not (d_tB ?_))
    dsimp only
    refine d_callF (by with_unfolding_all rfl) ?_
    refine d_cons (d_var (by with_unfolding_all rfl) ?_)
    refine d_cons (d_var (by with_unfolding_all rfl) ?_)
    refine d_nil ?_
    refine Or.inl ⟨_, rfl, ⟨_, rfl, (br_f (by assumption) ?_)⟩⟩
    refine s_next ?_
    ((with_reducible refine forW_id ?_); refine forW_pnil ?_)
    refine s_ret (d_var (by with_unfolding_all rfl) ?_)
    dsimp only
    rotate_left
    exact fin q rfl
   ·have q0 := fin0 (if_neg hp)
    have hf : (!decide (p ∈ ss)) = true := by simp [hp]
    refine s_seq (s_if (d_or (d_test (d_op (d_var (by with_unfolding_all rfl) ?_)))))
    refine d_c (by with_unfolding_all rfl) ?_
    refine r_I0 (by with_unfolding_all rfl) ?_
    refine ⟨_, rfl, (br_f (by assumption) ?_)⟩
    refine d_or (d_not (d_tB (d_cb (d_cons (d_var (by with_unfolding_all rfl) ?_)))))
    refine d_cons (d_c (by with_unfolding_all rfl) ?_)
    refine d_nil (c_tup (by with_unfolding_all rfl) ?_)
    refine ⟨_, rfl, (br_f (by with_unfolding_all rfl) ?_)⟩
    refine d_not (d_truth (d_var (by with_unfolding_all rfl) ?_))
    refine truOk_tup (br_f (by with_unfolding_all rfl) ?_)
    refine s_next (s_seq (s_set (d_callLP (by with_unfolding_all rfl) ?_)))
    refine d_cons (d_op (d_var (by with_unfolding_all rfl) ?_))
    refine d_c (by with_unfolding_all rfl) ?_
    refine r_ix (.inr (r_ixT (by with_unfolding_all rfl) ?_))
    refine d_nil ?_
    dsimp only
    refine ⟨_, _, rfl, ha, (s_seq (s_if (d_or (d_test (d_op (d_var (by with_unfolding_all rfl) ?_))))))⟩
    refine d_c (by with_unfolding_all rfl) ?_
    refine r_isN ⟨_, rfl, (br_f (by with_unfolding_all rfl) ?_)⟩
    refine d_test (d_op (d_cb (d_cons (d_var (by with_unfolding_all rfl) ?_))))
    refine d_nil (c_lenS (.inr rfl) (d_op (d_cb (d_cons (d_var (by with_unfolding_all rfl) ?_)))))
    refine d_nil (c_lenS (.inr rfl) (d_c (by with_unfolding_all rfl) ?_))
    refine r_I0 (by with_unfolding_all rfl) ?_
    refine r_neI ⟨_, rfl, (br_f (by with_unfolding_all rfl) ?_)⟩
    refine s_next (s_seq (s_set (d_c (by with_unfolding_all rfl) ?_)))
    refine s_seq (s_for (i_zipT (d_cons (d_var (by with_unfolding_all rfl) ?_))))
    refine d_cons (d_slT1 (d_var (by with_unfolding_all rfl) ?_))
    refine ⟨_, _, rfl, (d_nil ⟨_, _, rfl, ?_⟩)⟩
    ((with_reducible refine forW_id ?_); refine forW_pair ?_)
    ((with_reducible refine g_tid ?_); refine g_tup rfl ?_)
    refine gs_cons (g_name (gs_cons (g_name (gs_nil (s_if (d_test (d_op (d_var (by with_unfolding_all rfl) ?_))))))))
    refine d_c (by with_unfolding_all rfl) ?_
    refine r_eqS ⟨_, rfl, (br_f (by with_unfolding_all rfl) ?_)⟩
    refine s_if (d_not (d_tB ?_))
    dsimp only
    refine d_callF (by with_unfolding_all rfl) ?_
    refine d_cons (d_var (by with_unfolding_all rfl) ?_)
    refine d_cons (d_var (by with_unfolding_all rfl) ?_)
    refine d_nil ?_
    refine Or.inl ⟨_, rfl, ⟨_, rfl, (br_t (by assumption) ?_)⟩⟩
    refine s_ret (d_c (by with_unfolding_all rfl) ?_)
    with_reducible assumption
    all_goals exact q0
  case wit x y =>
   have ha : (("with" : Str), (["nest", "nest"] : List Str)) ∈ treeTab := by decide
   have ox := hb'.1
   have oy := hb'.2
   by_cases c1 : x.sz ss (a + 1) = 0
   ·have zx := zt c1
    have q0 := fin0 (if_pos c1)
    refine s_seq (s_if (d_or (d_test (d_op (d_var (by with_unfolding_all rfl) ?_)))))
    refine d_c (by with_unfolding_all rfl) ?_
    refine r_I0 (by with_unfolding_all rfl) ?_
    refine ⟨_, rfl, (br_f (by assumption) ?_)⟩
    refine d_or (d_not (d_tB (d_cb (d_cons (d_var (by with_unfolding_all rfl) ?_)))))
    refine d_cons (d_c (by with_unfolding_all rfl) ?_)
    refine d_nil (c_tup (by with_unfolding_all rfl) ?_)
    refine ⟨_, rfl, (br_f (by with_unfolding_all rfl) ?_)⟩
    refine d_not (d_truth (d_var (by with_unfolding_all rfl) ?_))
    refine truOk_tup (br_f (by with_unfolding_all rfl) ?_)
    refine s_next (s_seq (s_set (d_callLP (by with_unfolding_all rfl) ?_)))
    refine d_cons (d_op (d_var (by with_unfolding_all rfl) ?_))
    refine d_c (by with_unfolding_all rfl) ?_
    refine r_ix (.inr (r_ixT (by with_unfolding_all rfl) ?_))
    refine d_nil ?_
    dsimp only
    refine ⟨_, _, rfl, ha, (s_seq (s_if (d_or (d_test (d_op (d_var (by with_unfolding_all rfl) ?_))))))⟩
    refine d_c (by with_unfolding_all rfl) ?_
    refine r_isN ⟨_, rfl, (br_f (by with_unfolding_all rfl) ?_)⟩
    refine d_test (d_op (d_cb (d_cons (d_var (by with_unfolding_all rfl) ?_))))
    refine d_nil (c_lenS (.inr rfl) (d_op (d_cb (d_cons (d_var (by with_unfolding_all rfl) ?_)))))
    refine d_nil (c_lenS (.inr rfl) (d_c (by with_unfolding_all rfl) ?_))
    refine r_I0 (by with_unfolding_all rfl) ?_
    refine r_neI ⟨_, rfl, (br_f (by with_unfolding_all rfl) ?_)⟩
    refine s_next (s_seq (s_set (d_c (by with_unfolding_all rfl) ?_)))
    refine s_seq (s_for (i_zipT (d_cons (d_var (by with_unfolding_all rfl) ?_))))
    refine d_cons (d_slT1 (d_var (by with_unfolding_all rfl) ?_))
    refine ⟨_, _, rfl, (d_nil ⟨_, _, rfl, ?_⟩)⟩
    ((with_reducible refine forW_id ?_); refine forW_pair ?_)
    ((with_reducible refine g_tid ?_); refine g_tup rfl ?_)
    refine gs_cons (g_name (gs_cons (g_name (gs_nil (s_if (d_test (d_op (d_var (by with_unfolding_all rfl) ?_))))))))
    refine d_c (by with_unfolding_all rfl) ?_
    refine r_eqS ⟨_, rfl, (br_t (by with_unfolding_all rfl) ?_)⟩
    refine s_seq (s_set ?_)
    dsimp only
    refine d_callS (fun _ => trivial) (dds := []) (fun _ => RelL.nil) (d_cons (d_var (by with_unfolding_all rfl) ?_))
    refine d_cons (d_var (by with_unfolding_all rfl) ?_)
    refine d_cons (d_var (by with_unfolding_all rfl) ?_)
    refine d_cons (d_op (d_var (by with_unfolding_all rfl) ?_))
    refine d_c (by with_unfolding_all rfl) ?_
    refine r_I0 (by with_unfolding_all rfl) ?_
    refine d_nil ?_
    refine ⟨_, a + 1, rfl, ox, (by omega), (by omega), ?_⟩
    refine s_seq (s_if (d_test (d_op (d_var (by with_unfolding_all rfl) ?_))))
    refine d_c (by with_unfolding_all rfl) ?_
    refine r_eqI ⟨_, rfl, (br_t (by assumption) ?_)⟩
    refine s_ret (d_c (by with_unfolding_all rfl) ?_)
    with_reducible assumption
    all_goals exact q0
   ·have zx := zf c1
    by_cases c2 : y.sz ss (a + 1) = 0
    ·have zy := zt c2
     have q0 := fin0 (by rw [if_neg c1, if_pos c2])
     refine s_seq (s_if (d_or (d_test (d_op (d_var (by with_unfolding_all rfl) ?_)))))
     refine d_c (by with_unfolding_all rfl) ?_
     refine r_I0 (by with_unfolding_all rfl) ?_
     refine ⟨_, rfl, (br_f (by assumption) ?_)⟩
     refine d_or (d_not (d_tB (d_cb (d_cons (d_var (by with_unfolding_all rfl) ?_)))))
     refine d_cons (d_c (by with_unfolding_all rfl) ?_)
     refine d_nil (c_tup (by with_unfolding_all rfl) ?_)
     refine ⟨_, rfl, (br_f (by with_unfolding_all rfl) ?_)⟩
     refine d_not (d_truth (d_var (by with_unfolding_all rfl) ?_))
     refine truOk_tup (br_f (by with_unfolding_all rfl) ?_)
     refine s_next (s_seq (s_set (d_callLP (by with_unfolding_all rfl) ?_)))
     refine d_cons (d_op (d_var (by with_unfolding_all rfl) ?_))
     refine d_c (by with_unfolding_all rfl) ?_
     refine r_ix (.inr (r_ixT (by with_unfolding_all rfl) ?_))
     refine d_nil ?_
     dsimp only
     refine ⟨_, _, rfl, ha, (s_seq (s_if (d_or (d_test (d_op (d_var (by with_unfolding_all rfl) ?_))))))⟩
     refine d_c (by with_unfolding_all rfl) ?_
     refine r_isN ⟨_, rfl, (br_f (by with_unfolding_all rfl) ?_)⟩
     refine d_test (d_op (d_cb (d_cons (d_var (by with_unfolding_all rfl) ?_))))
     refine d_nil (c_lenS (.inr rfl) (d_op (d_cb (d_cons (d_var (by with_unfolding_all rfl) ?_)))))
     refine d_nil (c_lenS (.inr rfl) (d_c (by with_unfolding_all rfl) ?_))
     refine r_I0 (by with_unfolding_all rfl) ?_
     refine r_neI ⟨_, rfl, (br_f (by with_unfolding_all rfl) ?_)⟩
     refine s_next (s_seq (s_set (d_c (by with_unfolding_all rfl) ?_)))
     refine s_seq (s_for (i_zipT (d_cons (d_var (by with_unfolding_all rfl) ?_))))
     refine d_cons (d_slT1 (d_var (by with_unfolding_all rfl) ?_))
     refine ⟨_, _, rfl, (d_nil ⟨_, _, rfl, ?_⟩)⟩
     ((with_reducible refine forW_id ?_); refine forW_pair ?_)
     ((with_reducible refine g_tid ?_); refine g_tup rfl ?_)
     refine gs_cons (g_name (gs_cons (g_name (gs_nil (s_if (d_test (d_op (d_var (by with_unfolding_all rfl) ?_))))))))
     refine d_c (by with_unfolding_all rfl) ?_
     refine r_eqS ⟨_, rfl, (br_t (by with_unfolding_all rfl) ?_)⟩
     refine s_seq (s_set ?_)
     dsimp only
     refine d_callS (fun _ => trivial) (dds := []) (fun _ => RelL.nil) (d_cons (d_var (by with_unfolding_all rfl) ?_))
     refine d_cons (d_var (by with_unfolding_all rfl) ?_)
     refine d_cons (d_var (by with_unfolding_all rfl) ?_)
     refine d_cons (d_op (d_var (by with_unfolding_all rfl) ?_))
     refine d_c (by with_unfolding_all rfl) ?_
     refine r_I0 (by with_unfolding_all rfl) ?_
     refine d_nil ?_
     refine ⟨_, a + 1, rfl, ox, (by omega), (by omega), ?_⟩
     refine s_seq (s_if (d_test (d_op (d_var (by with_unfolding_all rfl) ?_))))
     refine d_c (by with_unfolding_all rfl) ?_
     refine r_eqI ⟨_, rfl, (br_f (by assumption) ?_)⟩
     refine s_next (s_aug (by with_unfolding_all rfl) ?_)
     refine d_var (by with_unfolding_all rfl) ?_
     refine ⟨_, rfl, ?_⟩
     ((with_reducible refine forW_id ?_); refine forW_pair ?_)
     ((with_reducible refine g_tid ?_); refine g_tup rfl ?_)
     refine gs_cons (g_name (gs_cons (g_name (gs_nil (s_if (d_test (d_op (d_var (by with_unfolding_all rfl) ?_))))))))
     refine d_c (by with_unfolding_all rfl) ?_
     refine r_eqS ⟨_, rfl, (br_t (by with_unfolding_all rfl) ?_)⟩
     refine s_seq (s_set ?_)
     dsimp only
     refine d_callS (fun _ => trivial) (dds := []) (fun _ => RelL.nil) (d_cons (d_var (by with_unfolding_all rfl) ?_))
     refine d_cons (d_var (by with_unfolding_all rfl) ?_)
     refine d_cons (d_var (by with_unfolding_all rfl) ?_)
     refine d_cons (d_op (d_var (by with_unfolding_all rfl) ?_))
     refine d_c (by with_unfolding_all rfl) ?_
     refine r_I0 (by with_unfolding_all rfl) ?_
     refine d_nil ?_
     refine ⟨_, a + 1, rfl, oy, (by omega), (by omega), ?_⟩
     refine s_seq (s_if (d_test (d_op (d_var (by with_unfolding_all rfl) ?_))))
     refine d_c (by with_unfolding_all rfl) ?_
     refine r_eqI ⟨_, rfl, (br_t (by assumption) ?_)⟩
     refine s_ret (d_c (by with_unfolding_all rfl) ?_)
     with_reducible assumption
     all_goals exact q0
    ·have zy := zf c2
     rw [if_neg c1, if_neg c2] at q
     refine s_seq (s_if (d_or (d_test (d_op (d_var (by with_unfolding_all rfl) ?_)))))
     refine d_c (by with_unfolding_all rfl) ?_
     refine r_I0 (by with_unfolding_all rfl) ?_
     refine ⟨_, rfl, (br_f (by assumption) ?_)⟩
     refine d_or (d_not (d_tB (d_cb (d_cons (d_var (by with_unfolding_all rfl) ?_)))))
     refine d_cons (d_c (by with_unfolding_all rfl) ?_)
     refine d_nil (c_tup (by with_unfolding_all rfl) ?_)
     refine ⟨_, rfl, (br_f (by with_unfolding_all rfl) ?_)⟩
     refine d_not (d_truth (d_var (by with_unfolding_all rfl) ?_))
     refine truOk_tup (br_f (by with_unfolding_all rfl) ?_)
     refine s_next (s_seq (s_set (d_callLP (by with_unfolding_all rfl) ?_)))
     refine d_cons (d_op (d_var (by with_unfolding_all rfl) ?_))
     refine d_c (by with_unfolding_all rfl) ?_
     refine r_ix (.inr (r_ixT (by with_unfolding_all rfl) ?_))
     refine d_nil ?_
     dsimp only
     refine ⟨_, _, rfl, ha, (s_seq (s_if (d_or (d_test (d_op (d_var (by with_unfolding_all rfl) ?_))))))⟩
     refine d_c (by with_unfolding_all rfl) ?_
     refine r_isN ⟨_, rfl, (br_f (by with_unfolding_all rfl) ?_)⟩
     refine d_test (d_op (d_cb (d_cons (d_var (by with_unfolding_all rfl) ?_))))
     refine d_nil (c_lenS (.inr rfl) (d_op (d_cb (d_cons (d_var (by with_unfolding_all rfl) ?_)))))
     refine d_nil (c_lenS (.inr rfl) (d_c (by with_unfolding_all rfl) ?_))
     refine r_I0 (by with_unfolding_all rfl) ?_
     refine r_neI ⟨_, rfl, (br_f (by with_unfolding_all rfl) ?_)⟩
     refine s_next (s_seq (s_set (d_c (by with_unfolding_all rfl) ?_)))
     refine s_seq (s_for (i_zipT (d_cons (d_var (by with_unfolding_all rfl) ?_))))
     refine d_cons (d_slT1 (d_var (by with_unfolding_all rfl) ?_))
     refine ⟨_, _, rfl, (d_nil ⟨_, _, rfl, ?_⟩)⟩
     ((with_reducible refine forW_id ?_); refine forW_pair ?_)
     ((with_reducible refine g_tid ?_); refine g_tup rfl ?_)
     refine gs_cons (g_name (gs_cons (g_name (gs_nil (s_if (d_test (d_op (d_var (by with_unfolding_all rfl) ?_))))))))
     refine d_c (by with_unfolding_all rfl) ?_
     refine r_eqS ⟨_, rfl, (br_t (by with_unfolding_all rfl) ?_)⟩
     refine s_seq (s_set ?_)
     dsimp only
     refine d_callS (fun _ => trivial) (dds := []) (fun _ => RelL.nil) (d_cons (d_var (by with_unfolding_all rfl) ?_))
     refine d_cons (d_var (by with_unfolding_all rfl) ?_)
     refine d_cons (d_var (by with_unfolding_all rfl) ?_)
     refine d_cons (d_op (d_var (by with_unfolding_all rfl) ?_))
     refine d_c (by with_unfolding_all rfl) ?_
     refine r_I0 (by with_unfolding_all rfl) ?_
     refine d_nil ?_
     refine ⟨_, a + 1, rfl, ox, (by omega), (by omega), ?_⟩
     refine s_seq (s_if (d_test (d_op (d_var (by with_unfolding_all rfl) ?_))))
     refine d_c (by with_unfolding_all rfl) ?_
     refine r_eqI ⟨_, rfl, (br_f (by assumption) ?_)⟩
     refine s_next (s_aug (by with_unfolding_all rfl) ?_)
     refine d_var (by with_unfolding_all rfl) ?_
     refine ⟨_, rfl, ?_⟩
     ((with_reducible refine forW_id ?_); refine forW_pair ?_)
     ((with_reducible refine g_tid ?_); refine g_tup rfl ?_)
     refine gs_cons (g_name (gs_cons (g_name (gs_nil (s_if (d_test (d_op (d_var (by with_unfolding_all rfl) ?_))))))))
     refine d_c (by with_unfolding_all rfl) ?_
     refine r_eqS ⟨_, rfl, (br_t (by with_unfolding_all rfl) ?_)⟩
     refine s_seq (s_set ?_)
     dsimp only
     refine d_callS (fun _ => trivial) (dds := []) (fun _ => RelL.nil) (d_cons (d_var (by with_unfolding_all rfl) ?_))
     refine d_cons (d_var (by with_unfolding_all rfl) ?_)
     refine d_cons (d_var (by with_unfolding_all rfl) ?_)
     refine d_cons (d_op (d_var (by with_unfolding_all rfl) ?_))
     refine d_c (by with_unfolding_all rfl) ?_
     refine r_I0 (by with_unfolding_all rfl) ?_
     refine d_nil ?_
     refine ⟨_, a + 1, rfl, oy, (by omega), (by omega), ?_⟩
     refine s_seq (s_if (d_test (d_op (d_var (by with_unfolding_all rfl) ?_))))
     refine d_c (by with_unfolding_all rfl) ?_
     refine r_eqI ⟨_, rfl, (br_f (by assumption) ?_)⟩
     refine s_next (s_aug (by with_unfolding_all rfl) ?_)
     refine d_var (by with_unfolding_all rfl) ?_
     refine ⟨_, rfl, ?_⟩
     ((with_reducible refine forW_id ?_); refine forW_pnil ?_)
     refine s_ret (d_var (by with_unfolding_all rfl) ?_)
     dsimp only
     rotate_left
     exact fin q (by omega)
  case wo x d =>
   have ha : (("without" : Str), (["nest", "deed"] : List Str)) ∈ treeTab := by decide
   have ox := hb'.1
   have hf : (!decide (d ∈ deedsS)) = false := by simp [hb'.2]
   by_cases c1 : x.sz ss (a + 1) = 0
   ·have zx := zt c1
    have q0 := fin0 (if_pos c1)
    refine s_seq (s_if (d_or (d_test (d_op (d_var (by with_unfolding_all rfl) ?_)))))
    refine d_c (by with_unfolding_all rfl) ?_
    refine r_I0 (by with_unfolding_all rfl) ?_
    refine ⟨_, rfl, (br_f (by assumption) ?_)⟩
    refine d_or (d_not (d_tB (d_cb (d_cons (d_var (by with_unfolding_all rfl) ?_)))))
    refine d_cons (d_c (by with_unfolding_all rfl) ?_)
    refine d_nil (c_tup (by with_unfolding_all rfl) ?_)
    refine ⟨_, rfl, (br_f (by with_unfolding_all rfl) ?_)⟩
    refine d_not (d_truth (d_var (by with_unfolding_all rfl) ?_))
    refine truOk_tup (br_f (by with_unfolding_all rfl) ?_)
    refine s_next (s_seq (s_set (d_callLP (by with_unfolding_all rfl) ?_)))
    refine d_cons (d_op (d_var (by with_unfolding_all rfl) ?_))
    refine d_c (by with_unfolding_all rfl) ?_
    refine r_ix (.inr (r_ixT (by with_unfolding_all rfl) ?_))
    refine d_nil ?_
    dsimp only
    refine ⟨_, _, rfl, ha, (s_seq (s_if (d_or (d_test (d_op (d_var (by with_unfolding_all rfl) ?_))))))⟩
    refine d_c (by with_unfolding_all rfl) ?_
    refine r_isN ⟨_, rfl, (br_f (by with_unfolding_all rfl) ?_)⟩
    refine d_test (d_op (d_cb (d_cons (d_var (by with_unfolding_all rfl) ?_))))
    refine d_nil (c_lenS (.inr rfl) (d_op (d_cb (d_cons (d_var (by with_unfolding_all rfl) ?_)))))
    refine d_nil (c_lenS (.inr rfl) (d_c (by with_unfolding_all rfl) ?_))
    refine r_I0 (by with_unfolding_all rfl) ?_
    refine r_neI ⟨_, rfl, (br_f (by with_unfolding_all rfl) ?_)⟩
    refine s_next (s_seq (s_set (d_c (by with_unfolding_all rfl) ?_)))
    refine s_seq (s_for (i_zipT (d_cons (d_var (by with_unfolding_all rfl) ?_))))
    refine d_cons (d_slT1 (d_var (by with_unfolding_all rfl) ?_))
    refine ⟨_, _, rfl, (d_nil ⟨_, _, rfl, ?_⟩)⟩
    ((with_reducible refine forW_id ?_); refine forW_pair ?_)
    ((with_reducible refine g_tid ?_); refine g_tup rfl ?_)
    refine gs_cons (g_name (gs_cons (g_name (gs_nil (s_if (d_test (d_op (d_var (by with_unfolding_all rfl) ?_))))))))
    refine d_c (by with_unfolding_all rfl) ?_
    refine r_eqS ⟨_, rfl, (br_t (by with_unfolding_all rfl) ?_)⟩
    refine s_seq (s_set ?_)
    dsimp only
    refine d_callS (fun _ => trivial) (dds := []) (fun _ => RelL.nil) (d_cons (d_var (by with_unfolding_all rfl) ?_))
    refine d_cons (d_var (by with_unfolding_all rfl) ?_)
    refine d_cons (d_var (by with_unfolding_all rfl) ?_)
    refine d_cons (d_op (d_var (by with_unfolding_all rfl) ?_))
    refine d_c (by with_unfolding_all rfl) ?_
    refine r_I0 (by with_unfolding_all rfl) ?_
    refine d_nil ?_
    refine ⟨_, a + 1, rfl, ox, (by omega), (by omega), ?_⟩
    refine s_seq (s_if (d_test (d_op (d_var (by with_unfolding_all rfl) ?_))))
    refine d_c (by with_unfolding_all rfl) ?_
    refine r_eqI ⟨_, rfl, (br_t (by assumption) ?_)⟩
    refine s_ret (d_c (by with_unfolding_all rfl) ?_)
    with_reducible assumption
    all_goals exact q0
   ·have zx := zf c1
    rw [if_neg c1] at q
    refine s_seq (s_if (d_or (d_test (d_op (d_var (by with_unfolding_all rfl) ?_)))))
    refine d_c (by with_unfolding_all rfl) ?_
    refine r_I0 (by with_unfolding_all rfl) ?_
    refine ⟨_, rfl, (br_f (by assumption) ?_)⟩
    refine d_or (d_not (d_tB (d_cb (d_cons (d_var (by with_unfolding_all rfl) ?_)))))
    refine d_cons (d_c (by with_unfolding_all rfl) ?_)
    refine d_nil (c_tup (by with_unfolding_all rfl) ?_)
    refine ⟨_, rfl, (br_f (by with_unfolding_all rfl) ?_)⟩
    refine d_not (d_truth (d_var (by with_unfolding_all rfl) ?_))
    refine truOk_tup (br_f (by with_unfolding_all rfl) ?_)
    refine s_next (s_seq (s_set (d_callLP (by with_unfolding_all rfl) ?_)))
    refine d_cons (d_op (d_var (by with_unfolding_all rfl) ?_))
    refine d_c (by with_unfolding_all rfl) ?_
    refine r_ix (.inr (r_ixT (by with_unfolding_all rfl) ?_))
    refine d_nil ?_
    dsimp only
    refine ⟨_, _, rfl, ha, (s_seq (s_if (d_or (d_test (d_op (d_var (by with_unfolding_all rfl) ?_))))))⟩
    refine d_c (by with_unfolding_all rfl) ?_
    refine r_isN ⟨_, rfl, (br_f (by with_unfolding_all rfl) ?_)⟩
    refine d_test (d_op (d_cb (d_cons (d_var (by with_unfolding_all rfl) ?_))))
    refine d_nil (c_lenS (.inr rfl) (d_op (d_cb (d_cons (d_var (by with_unfolding_all rfl) ?_)))))
    refine d_nil (c_lenS (.inr rfl) (d_c (by with_unfolding_all rfl) ?_))
    refine r_I0 (by with_unfolding_all rfl) ?_
    refine r_neI ⟨_, rfl, (br_f (by with_unfolding_all rfl) ?_)⟩
    refine s_next (s_seq (s_set (d_c (by with_unfolding_all rfl) ?_)))
    refine s_seq (s_for (i_zipT (d_cons (d_var (by with_unfolding_all rfl) ?_))))
    refine d_cons (d_slT1 (d_var (by with_unfolding_all rfl) ?_))
    refine ⟨_, _, rfl, (d_nil ⟨_, _, rfl, ?_⟩)⟩
    ((with_reducible refine forW_id ?_); refine forW_pair ?_)
    ((with_reducible refine g_tid ?_); refine g_tup rfl ?_)
    refine gs_cons (g_name (gs_cons (g_name (gs_nil (s_if (d_test (d_op (d_var (by with_unfolding_all rfl) ?_))))))))
    refine d_c (by with_unfolding_all rfl) ?_
    refine r_eqS ⟨_, rfl, (br_t (by with_unfolding_all rfl) ?_)⟩
    refine s_seq (s_set ?_)
    dsimp only
    refine d_callS (fun _ => trivial) (dds := []) (fun _ => RelL.nil) (d_cons (d_var (by with_unfolding_all rfl) ?_))
    refine d_cons (d_var (by with_unfolding_all rfl) ?_)
    refine d_cons (d_var (by with_unfolding_all rfl) ?_)
    refine d_cons (d_op (d_var (by with_unfolding_all rfl) ?_))
    refine d_c (by with_unfolding_all rfl) ?_
    refine r_I0 (by with_unfolding_all rfl) ?_
    refine d_nil ?_
    refine ⟨_, a + 1, rfl, ox, (by omega), (by omega), ?_⟩
    refine s_seq (s_if (d_test (d_op (d_var (by with_unfolding_all rfl) ?_))))
    refine d_c (by with_unfolding_all rfl) ?_
    refine r_eqI ⟨_, rfl, (br_f (by assumption) ?_)⟩
    refine s_next (s_aug (by with_unfolding_all rfl) ?_)
    refine d_var (by with_unfolding_all rfl) ?_
    refine ⟨_, rfl, ?_⟩
    ((with_reducible refine forW_id ?_); refine forW_pair ?_)
    ((with_reducible refine g_tid ?_); refine g_tup rfl ?_)
    refine gs_cons (g_name (gs_cons (g_name (gs_nil (s_if (d_test (d_op (d_var (by with_unfolding_all rfl) ?_))))))))
    refine d_c (by with_unfolding_all rfl) ?_
    refine r_eqS ⟨_, rfl, (br_f (by with_unfolding_all rfl) ?_)⟩
    refine s_if (d_not (d_tB ?_))
    dsimp only
    refine d_callF (by with_unfolding_all rfl) ?_
    refine d_cons (d_var (by with_unfolding_all rfl) ?_)
    refine d_cons (d_var (by with_unfolding_all rfl) ?_)
    refine d_nil ?_
    refine Or.inr ⟨_, rfl, ⟨_, rfl, (br_f (by assumption) ?_)⟩⟩
    refine s_next ?_
    ((with_reducible refine forW_id ?_); refine forW_pnil ?_)
    refine s_ret (d_var (by with_unfolding_all rfl) ?_)
    dsimp only
    rotate_left
    exact fin q (by omega)
  case also x d m =>
   have ha : (("also" : Str), (["nest", "deed", "deed"] : List Str)) ∈ treeTab := by decide
   have ox := hb'.1
   have hf : (!decide (d ∈ deedsS)) = false := by simp [hb'.2.1]
   have hf2 : (!decide (m ∈ deedsS)) = false := by simp [hb'.2.2]
   by_cases c1 : x.sz ss (a + 1) = 0
   ·have zx := zt c1
    have q0 := fin0 (if_pos c1)
    refine s_seq (s_if (d_or (d_test (d_op (d_var (by with_unfolding_all rfl) ?_)))))
    refine d_c (by with_unfolding_all rfl) ?_
    refine r_I0 (by with_unfolding_all rfl) ?_
    refine ⟨_, rfl, (br_f (by assumption) ?_)⟩
    refine d_or (d_not (d_tB (d_cb (d_cons (d_var (by with_unfolding_all rfl) ?_)))))
    refine d_cons (d_c (by with_unfolding_all rfl) ?_)
    refine d_nil (c_tup (by with_unfolding_all rfl) ?_)
    refine ⟨_, rfl, (br_f (by with_unfolding_all rfl) ?_)⟩
    refine d_not (d_truth (d_var (by with_unfolding_all rfl) ?_))
    refine truOk_tup (br_f (by with_unfolding_all rfl) ?_)
    refine s_next (s_seq (s_set (d_callLP (by with_unfolding_all rfl) ?_)))
    refine d_cons (d_op (d_var (by with_unfolding_all rfl) ?_))
    refine d_c (by with_unfolding_all rfl) ?_
    refine r_ix (.inr (r_ixT (by with_unfolding_all rfl) ?_))
    refine d_nil ?_
    dsimp only
    refine ⟨_, _, rfl, ha, (s_seq (s_if (d_or (d_test (d_op (d_var (by with_unfolding_all rfl) ?_))))))⟩
    refine d_c (by with_unfolding_all rfl) ?_
    refine r_isN ⟨_, rfl, (br_f (by with_unfolding_all rfl) ?_)⟩
    refine d_test (d_op (d_cb (d_cons (d_var (by with_unfolding_all rfl) ?_))))
    refine d_nil (c_lenS (.inr rfl) (d_op (d_cb (d_cons (d_var (by with_unfolding_all rfl) ?_)))))
    refine d_nil (c_lenS (.inr rfl) (d_c (by with_unfolding_all rfl) ?_))
    refine r_I0 (by with_unfolding_all rfl) ?_
    refine r_neI ⟨_, rfl, (br_f (by with_unfolding_all rfl) ?_)⟩
    refine s_next (s_seq (s_set (d_c (by with_unfolding_all rfl) ?_)))
    refine s_seq (s_for (i_zipT (d_cons (d_var (by with_unfolding_all rfl) ?_))))
    refine d_cons (d_slT1 (d_var (by with_unfolding_all rfl) ?_))
    refine ⟨_, _, rfl, (d_nil ⟨_, _, rfl, ?_⟩)⟩
    ((with_reducible refine forW_id ?_); refine forW_pair ?_)
    ((with_reducible refine g_tid ?_); refine g_tup rfl ?_)
    refine gs_cons (g_name (gs_cons (g_name (gs_nil (s_if (d_test (d_op (d_var (by with_unfolding_all rfl) ?_))))))))
    refine d_c (by with_unfolding_all rfl) ?_
    refine r_eqS ⟨_, rfl, (br_t (by with_unfolding_all rfl) ?_)⟩
    refine s_seq (s_set ?_)
    dsimp only
    refine d_callS (fun _ => trivial) (dds := []) (fun _ => RelL.nil) (d_cons (d_var (by with_unfolding_all rfl) ?_))
    refine d_cons (d_var (by with_unfolding_all rfl) ?_)
    refine d_cons (d_var (by with_unfolding_all rfl) ?_)
    refine d_cons (d_op (d_var (by with_unfolding_all rfl) ?_))
    refine d_c (by with_unfolding_all rfl) ?_
    refine r_I0 (by with_unfolding_all rfl) ?_
    refine d_nil ?_
    refine ⟨_, a + 1, rfl, ox, (by omega), (by omega), ?_⟩
    refine s_seq (s_if (d_test (d_op (d_var (by with_unfolding_all rfl) ?_))))
    refine d_c (by with_unfolding_all rfl) ?_
    refine r_eqI ⟨_, rfl, (br_t (by assumption) ?_)⟩
    refine s_ret (d_c (by with_unfolding_all rfl) ?_)
    with_reducible assumption
    all_goals exact q0
   ·have zx := zf c1
    rw [if_neg c1] at q
    refine s_seq (s_if (d_or (d_test (d_op (d_var (by with_unfolding_all rfl) ?_)))))
    refine d_c (by with_unfolding_all rfl) ?_
    refine r_I0 (by with_unfolding_all rfl) ?_
    refine ⟨_, rfl, (br_f (by assumption) ?_)⟩
    refine d_or (d_not (d_tB (d_cb (d_cons (d_var (by with_unfolding_all rfl) ?_)))))
    refine d_cons (d_c (by with_unfolding_all rfl) ?_)
    refine d_nil (c_tup (by with_unfolding_all rfl) ?_)
    refine ⟨_, rfl, (br_f (by with_unfolding_all rfl) ?_)⟩
    refine d_not (d_truth (d_var (by with_unfolding_all rfl) ?_))
    refine truOk_tup (br_f (by with_unfolding_all rfl) ?_)
    refine s_next (s_seq (s_set (d_callLP (by with_unfolding_all rfl) ?_)))
    refine d_cons (d_op (d_var (by with_unfolding_all rfl) ?_))
    refine d_c (by with_unfolding_all rfl) ?_
    refine r_ix (.inr (r_ixT (by with_unfolding_all rfl) ?_))
    refine d_nil ?_
    dsimp only
    refine ⟨_, _, rfl, ha, (s_seq (s_if (d_or (d_test (d_op (d_var (by with_unfolding_all rfl) ?_))))))⟩
    refine d_c (by with_unfolding_all rfl) ?_
    refine r_isN ⟨_, rfl, (br_f (by with_unfolding_all rfl) ?_)⟩
    refine d_test (d_op (d_cb (d_cons (d_var (by with_unfolding_all rfl) ?_))))
    refine d_nil (c_lenS (.inr rfl) (d_op (d_cb (d_cons (d_var (by with_unfolding_all rfl) ?_)))))
    refine d_nil (c_lenS (.inr rfl) (d_c (by with_unfolding_all rfl) ?_))
    refine r_I0 (by with_unfolding_all rfl) ?_
    refine r_neI ⟨_, rfl, (br_f (by with_unfolding_all rfl) ?_)⟩
    refine s_next (s_seq (s_set (d_c (by with_unfolding_all rfl) ?_)))
    refine s_seq (s_for (i_zipT (d_cons (d_var (by with_unfolding_all rfl) ?_))))
    refine d_cons (d_slT1 (d_var (by with_unfolding_all rfl) ?_))
    refine ⟨_, _, rfl, (d_nil ⟨_, _, rfl, ?_⟩)⟩
    ((with_reducible refine forW_id ?_); refine forW_pair ?_)
    ((with_reducible refine g_tid ?_); refine g_tup rfl ?_)
    refine gs_cons (g_name (gs_cons (g_name (gs_nil (s_if (d_test (d_op (d_var (by with_unfolding_all rfl) ?_))))))))
    refine d_c (by with_unfolding_all rfl) ?_
    refine r_eqS ⟨_, rfl, (br_t (by with_unfolding_all rfl) ?_)⟩
    refine s_seq (s_set ?_)
    dsimp only
    refine d_callS (fun _ => trivial) (dds := []) (fun _ => RelL.nil) (d_cons (d_var (by with_unfolding_all rfl) ?_))
    refine d_cons (d_var (by with_unfolding_all rfl) ?_)
    refine d_cons (d_var (by with_unfolding_all rfl) ?_)
    refine d_cons (d_op (d_var (by with_unfolding_all rfl) ?_))
    refine d_c (by with_unfolding_all rfl) ?_
    refine r_I0 (by with_unfolding_all rfl) ?_
    refine d_nil ?_
    refine ⟨_, a + 1, rfl, ox, (by omega), (by omega), ?_⟩
    refine s_seq (s_if (d_test (d_op (d_var (by with_unfolding_all rfl) ?_))))
    refine d_c (by with_unfolding_all rfl) ?_
    refine r_eqI ⟨_, rfl, (br_f (by assumption) ?_)⟩
    refine s_next (s_aug (by with_unfolding_all rfl) ?_)
    refine d_var (by with_unfolding_all rfl) ?_
    refine ⟨_, rfl, ?_⟩
    ((with_reducible refine forW_id ?_); refine forW_pair ?_)
    ((with_reducible refine g_tid ?_); refine g_tup rfl ?_)
    refine gs_cons (g_name (gs_cons (g_name (gs_nil (s_if (d_test (d_op (d_var (by with_unfolding_all rfl) ?_))))))))
    refine d_c (by with_unfolding_all rfl) ?_
    refine r_eqS ⟨_, rfl, (br_f (by with_unfolding_all rfl) ?_)⟩
    refine s_if (d_not (d_tB ?_))
    dsimp only
    refine d_callF (by with_unfolding_all rfl) ?_
    refine d_cons (d_var (by with_unfolding_all rfl) ?_)
    refine d_cons (d_var (by with_unfolding_all rfl) ?_)
    refine d_nil ?_
    refine Or.inr ⟨_, rfl, ⟨_, rfl, (br_f (by assumption) ?_)⟩⟩
    refine s_next ?_
    ((with_reducible refine forW_id ?_); refine forW_pair ?_)
    ((with_reducible refine g_tid ?_); refine g_tup rfl ?_)
    refine gs_cons (g_name (gs_cons (g_name (gs_nil (s_if (d_test (d_op (d_var (by with_unfolding_all rfl) ?_))))))))
    refine d_c (by with_unfolding_all rfl) ?_
    refine r_eqS ⟨_, rfl, (br_f (by with_unfolding_all rfl) ?_)⟩
    refine s_if (d_not (d_tB ?_))
    dsimp only
    refine d_callF (by with_unfolding_all rfl) ?_
    refine d_cons (d_var (by with_unfolding_all rfl) ?_)
    refine d_cons (d_var (by with_unfolding_all rfl) ?_)
    refine d_nil ?_
    refine Or.inr ⟨_, rfl, ⟨_, rfl, (br_f (by assumption) ?_)⟩⟩
    refine s_next ?_
    ((with_reducible refine forW_id ?_); refine forW_pnil ?_)
    refine s_ret (d_var (by with_unfolding_all rfl) ?_)
    dsimp only
    rotate_left
    exact fin q (by omega)
  case ren x d m =>
   have ha : (("renamed" : Str), (["nest", "deed", "deed"] : List Str)) ∈ treeTab := by decide
   have ox := hb'.1
   have hf : (!decide (d ∈ deedsS)) = false := by simp [hb'.2.1]
   have hf2 : (!decide (m ∈ deedsS)) = false := by simp [hb'.2.2]
   by_cases c1 : x.sz ss (a + 1) = 0
   ·have zx := zt c1
    have q0 := fin0 (if_pos c1)
    refine s_seq (s_if (d_or (d_test (d_op (d_var (by with_unfolding_all rfl) ?_)))))
    refine d_c (by with_unfolding_all rfl) ?_
    refine r_I0 (by with_unfolding_all rfl) ?_
    refine ⟨_, rfl, (br_f (by assumption) ?_)⟩
    refine d_or (d_not (d_tB (d_cb (d_cons (d_var (by with_unfolding_all rfl) ?_)))))
    refine d_cons (d_c (by with_unfolding_all rfl) ?_)
    refine d_nil (c_tup (by with_unfolding_all rfl) ?_)
    refine ⟨_, rfl, (br_f (by with_unfolding_all rfl) ?_)⟩
    refine d_not (d_truth (d_var (by with_unfolding_all rfl) ?_))
    refine truOk_tup (br_f (by with_unfolding_all rfl) ?_)
    refine s_next (s_seq (s_set (d_callLP (by with_unfolding_all rfl) ?_)))
    refine d_cons (d_op (d_var (by with_unfolding_all rfl) ?_))
    refine d_c (by with_unfolding_all rfl) ?_
    refine r_ix (.inr (r_ixT (by with_unfolding_all rfl) ?_))
    refine d_nil ?_
    dsimp only
    refine ⟨_, _, rfl, ha, (s_seq (s_if (d_or (d_test (d_op (d_var (by with_unfolding_all rfl) ?_))))))⟩
    refine d_c (by with_unfolding_all rfl) ?_
    refine r_isN ⟨_, rfl, (br_f (by with_unfolding_all rfl) ?_)⟩
    refine d_test (d_op (d_cb (d_cons (d_var (by with_unfolding_all rfl) ?_))))
    refine d_nil (c_lenS (.inr rfl) (d_op (d_cb (d_cons (d_var (by with_unfolding_all rfl) ?_)))))
    refine d_nil (c_lenS (.inr rfl) (d_c (by with_unfolding_all rfl) ?_))
    refine r_I0 (by with_unfolding_all rfl) ?_
    refine r_neI ⟨_, rfl, (br_f (by with_unfolding_all rfl) ?_)⟩
    refine s_next (s_seq (s_set (d_c (by with_unfolding_all rfl) ?_)))
    refine s_seq (s_for (i_zipT (d_cons (d_var (by with_unfolding_all rfl) ?_))))
    refine d_cons (d_slT1 (d_var (by with_unfolding_all rfl) ?_))
    refine ⟨_, _, rfl, (d_nil ⟨_, _, rfl, ?_⟩)⟩
    ((with_reducible refine forW_id ?_); refine forW_pair ?_)
    ((with_reducible refine g_tid ?_); refine g_tup rfl ?_)
    refine gs_cons (g_name (gs_cons (g_name (gs_nil (s_if (d_test (d_op (d_var (by with_unfolding_all rfl) ?_))))))))
    refine d_c (by with_unfolding_all rfl) ?_
    refine r_eqS ⟨_, rfl, (br_t (by with_unfolding_all rfl) ?_)⟩
    refine s_seq (s_set ?_)
    dsimp only
    refine d_callS (fun _ => trivial) (dds := []) (fun _ => RelL.nil) (d_cons (d_var (by with_unfolding_all rfl) ?_))
    refine d_cons (d_var (by with_unfolding_all rfl) ?_)
    refine d_cons (d_var (by with_unfolding_all rfl) ?_)
    refine d_cons (d_op (d_var (by with_unfolding_all rfl) ?_))
    refine d_c (by with_unfolding_all rfl) ?_
    refine r_I0 (by with_unfolding_all rfl) ?_
    refine d_nil ?_
    refine ⟨_, a + 1, rfl, ox, (by omega), (by omega), ?_⟩
    refine s_seq (s_if (d_test (d_op (d_var (by with_unfolding_all rfl) ?_))))
    refine d_c (by with_unfolding_all rfl) ?_
    refine r_eqI ⟨_, rfl, (br_t (by assumption) ?_)⟩
    refine s_ret (d_c (by with_unfolding_all rfl) ?_)
    with_reducible assumption
    all_goals exact q0
   ·have zx := zf c1
    rw [if_neg c1] at q
    refine s_seq (s_if (d_or (d_test (d_op (d_var (by with_unfolding_all rfl) ?_)))))
    refine d_c (by with_unfolding_all rfl) ?_
    refine r_I0 (by with_unfolding_all rfl) ?_
    refine ⟨_, rfl, (br_f (by assumption) ?_)⟩
    refine d_or (d_not (d_tB (d_cb (d_cons (d_var (by with_unfolding_all rfl) ?_)))))
    refine d_cons (d_c (by with_unfolding_all rfl) ?_)
    refine d_nil (c_tup (by with_unfolding_all rfl) ?_)
    refine ⟨_, rfl, (br_f (by with_unfolding_all rfl) ?_)⟩
    refine d_not (d_truth (d_var (by with_unfolding_all rfl) ?_))
    refine truOk_tup (br_f (by with_unfolding_all rfl) ?_)
    refine s_next (s_seq (s_set (d_callLP (by with_unfolding_all rfl) ?_)))
    refine d_cons (d_op (d_var (by with_unfolding_all rfl) ?_))
    refine d_c (by with_unfolding_all rfl) ?_
    refine r_ix (.inr (r_ixT (by with_unfolding_all rfl) ?_))
    refine d_nil ?_
    dsimp only
    refine ⟨_, _, rfl, ha, (s_seq (s_if (d_or (d_test (d_op (d_var (by with_unfolding_all rfl) ?_))))))⟩
    refine d_c (by with_unfolding_all rfl) ?_
    refine r_isN ⟨_, rfl, (br_f (by with_unfolding_all rfl) ?_)⟩
    refine d_test (d_op (d_cb (d_cons (d_var (by with_unfolding_all rfl) ?_))))
    refine d_nil (c_lenS (.inr rfl) (d_op (d_cb (d_cons (d_var (by with_unfolding_all rfl) ?_)))))
    refine d_nil (c_lenS (.inr rfl) (d_c (by with_unfolding_all rfl) ?_))
    refine r_I0 (by with_unfolding_all rfl) ?_
    refine r_neI ⟨_, rfl, (br_f (by with_unfolding_all rfl) ?_)⟩
    refine s_next (s_seq (s_set (d_c (by with_unfolding_all rfl) ?_)))
    refine s_seq (s_for (i_zipT (d_cons (d_var (by with_unfolding_all rfl) ?_))))
    refine d_cons (d_slT1 (d_var (by with_unfolding_all rfl) ?_))
    refine ⟨_, _, rfl, (d_nil ⟨_, _, rfl, ?_⟩)⟩
    ((with_reducible refine forW_id ?_); refine forW_pair ?_)
    ((with_reducible refine g_tid ?_); refine g_tup rfl ?_)
    refine gs_cons (g_name (gs_cons (g_name (gs_nil (s_if (d_test (d_op (d_var (by with_unfolding_all rfl) ?_))))))))
    refine d_c (by with_unfolding_all rfl) ?_
    refine r_eqS ⟨_, rfl, (br_t (by with_unfolding_all rfl) ?_)⟩
    refine s_seq (s_set ?_)
    dsimp only
    refine d_callS (fun _ => trivial) (dds := []) (fun _ => RelL.nil) (d_cons (d_var (by with_unfolding_all rfl) ?_))
    refine d_cons (d_var (by with_unfolding_all rfl) ?_)
    refine d_cons (d_var (by with_unfolding_all rfl) ?_)
    refine d_cons (d_op (d_var (by with_unfolding_all rfl) ?_))
    refine d_c (by with_unfolding_all rfl) ?_
    refine r_I0 (by with_unfolding_all rfl) ?_
    refine d_nil ?_
    refine ⟨_, a + 1, rfl, ox, (by omega), (by omega), ?_⟩
    refine s_seq (s_if (d_test (d_op (d_var (by with_unfolding_all rfl) ?_))))
    refine d_c (by with_unfolding_all rfl) ?_
    refine r_eqI ⟨_, rfl, (br_f (by assumption) ?_)⟩
    refine s_next (s_aug (by with_unfolding_all rfl) ?_)
    refine d_var (by with_unfolding_all rfl) ?_
    refine ⟨_, rfl, ?_⟩
    ((with_reducible refine forW_id ?_); refine forW_pair ?_)
    ((with_reducible refine g_tid ?_); refine g_tup rfl ?_)
    refine gs_cons (g_name (gs_cons (g_name (gs_nil (s_if (d_test (d_op (d_var (by with_unfolding_all rfl) ?_))))))))
    refine d_c (by with_unfolding_all rfl) ?_
    refine r_eqS ⟨_, rfl, (br_f (by with_unfolding_all rfl) ?_)⟩
    refine s_if (d_not (d_tB ?_))
    dsimp only
    refine d_callF (by with_unfolding_all rfl) ?_
    refine d_cons (d_var (by with_unfolding_all rfl) ?_)
    refine d_cons (d_var (by with_unfolding_all rfl) ?_)
    refine d_nil ?_
    refine Or.inr ⟨_, rfl, ⟨_, rfl, (br_f (by assumption) ?_)⟩⟩
    refine s_next ?_
    ((with_reducible refine forW_id ?_); refine forW_pair ?_)
    ((with_reducible refine g_tid ?_); refine g_tup rfl ?_)
    refine gs_cons (g_name (gs_cons (g_name (gs_nil (s_if (d_test (d_op (d_var (by with_unfolding_all rfl) ?_))))))))
    refine d_c (by with_unfolding_all rfl) ?_
    refine r_eqS ⟨_, rfl, (br_f (by with_unfolding_all rfl) ?_)⟩
    refine s_if (d_not (d_tB ?_))
    dsimp only
    refine d_callF (by with_unfolding_all rfl) ?_
    refine d_cons (d_var (by with_unfolding_all rfl) ?_)
    refine d_cons (d_var (by with_unfolding_all rfl) ?_)
    refine d_nil ?_
    refine Or.inr ⟨_, rfl, ⟨_, rfl, (br_f (by assumption) ?_)⟩⟩
    refine s_next ?_
    ((with_reducible refine forW_id ?_); refine forW_pnil ?_)
    refine s_ret (d_var (by with_unfolding_all rfl) ?_)
    dsimp only
    rotate_left
    exact fin q (by omega)
  case over x p =>
   have ha : (("over" : Str), (["nest", "part"] : List Str)) ∈ treeTab := by decide
   have ox := hb'.1
   by_cases c1 : x.sz ss (a + 1) = 0
   ·have zx := zt c1
    have q0 := fin0 (if_pos c1)
    refine s_seq (s_if (d_or (d_test (d_op (d_var (by with_unfolding_all rfl) ?_)))))
    refine d_c (by with_unfolding_all rfl) ?_
    refine r_I0 (by with_unfolding_all rfl) ?_
    refine ⟨_, rfl, (br_f (by assumption) ?_)⟩
    refine d_or (d_not (d_tB (d_cb (d_cons (d_var (by with_unfolding_all rfl) ?_)))))
    refine d_cons (d_c (by with_unfolding_all rfl) ?_)
    refine d_nil (c_tup (by with_unfolding_all rfl) ?_)
    refine ⟨_, rfl, (br_f (by with_unfolding_all rfl) ?_)⟩
    refine d_not (d_truth (d_var (by with_unfolding_all rfl) ?_))
    refine truOk_tup (br_f (by with_unfolding_all rfl) ?_)
    refine s_next (s_seq (s_set (d_callLP (by with_unfolding_all rfl) ?_)))
    refine d_cons (d_op (d_var (by with_unfolding_all rfl) ?_))
    refine d_c (by with_unfolding_all rfl) ?_
    refine r_ix (.inr (r_ixT (by with_unfolding_all rfl) ?_))
    refine d_nil ?_
    dsimp only
    refine ⟨_, _, rfl, ha, (s_seq (s_if (d_or (d_test (d_op (d_var (by with_unfolding_all rfl) ?_))))))⟩
    refine d_c (by with_unfolding_all rfl) ?_
    refine r_isN ⟨_, rfl, (br_f (by with_unfolding_all rfl) ?_)⟩
    refine d_test (d_op (d_cb (d_cons (d_var (by with_unfolding_all rfl) ?_))))
    refine d_nil (c_lenS (.inr rfl) (d_op (d_cb (d_cons (d_var (by with_unfolding_all rfl) ?_)))))
    refine d_nil (c_lenS (.inr rfl) (d_c (by with_unfolding_all rfl) ?_))
    refine r_I0 (by with_unfolding_all rfl) ?_
    refine r_neI ⟨_, rfl, (br_f (by with_unfolding_all rfl) ?_)⟩
    refine s_next (s_seq (s_set (d_c (by with_unfolding_all rfl) ?_)))
    refine s_seq (s_for (i_zipT (d_cons (d_var (by with_unfolding_all rfl) ?_))))
    refine d_cons (d_slT1 (d_var (by with_unfolding_all rfl) ?_))
    refine ⟨_, _, rfl, (d_nil ⟨_, _, rfl, ?_⟩)⟩
    ((with_reducible refine forW_id ?_); refine forW_pair ?_)
    ((with_reducible refine g_tid ?_); refine g_tup rfl ?_)
    refine gs_cons (g_name (gs_cons (g_name (gs_nil (s_if (d_test (d_op (d_var (by with_unfolding_all rfl) ?_))))))))
    refine d_c (by with_unfolding_all rfl) ?_
    refine r_eqS ⟨_, rfl, (br_t (by with_unfolding_all rfl) ?_)⟩
    refine s_seq (s_set ?_)
    dsimp only
    refine d_callS (fun _ => trivial) (dds := []) (fun _ => RelL.nil) (d_cons (d_var (by with_unfolding_all rfl) ?_))
    refine d_cons (d_var (by with_unfolding_all rfl) ?_)
    refine d_cons (d_var (by with_unfolding_all rfl) ?_)
    refine d_cons (d_op (d_var (by with_unfolding_all rfl) ?_))
    refine d_c (by with_unfolding_all rfl) ?_
    refine r_I0 (by with_unfolding_all rfl) ?_
    refine d_nil ?_
    refine ⟨_, a + 1, rfl, ox, (by omega), (by omega), ?_⟩
    refine s_seq (s_if (d_test (d_op (d_var (by with_unfolding_all rfl) ?_))))
    refine d_c (by with_unfolding_all rfl) ?_
    refine r_eqI ⟨_, rfl, (br_t (by assumption) ?_)⟩
    refine s_ret (d_c (by with_unfolding_all rfl) ?_)
    with_reducible assumption
    all_goals exact q0
   ·have zx := zf c1
    by_cases hp : p ∈ ss
    ·rw [if_neg c1, if_pos hp] at q
     have hf : (!decide (p ∈ ss)) = false := by simp [hp]
     refine s_seq (s_if (d_or (d_test (d_op (d_var (by with_unfolding_all rfl) ?_)))))
     refine d_c (by with_unfolding_all rfl) ?_
     refine r_I0 (by with_unfolding_all rfl) ?_
     refine ⟨_, rfl, (br_f (by assumption) ?_)⟩
     refine d_or (d_not (d_tB (d_cb (d_cons (d_var (by with_unfolding_all rfl) ?_)))))
     refine d_cons (d_c (by with_unfolding_all rfl) ?_)
     refine d_nil (c_tup (by with_unfolding_all rfl) ?_)
     refine ⟨_, rfl, (br_f (by with_unfolding_all rfl) ?_)⟩
     refine d_not (d_truth (d_var (by with_unfolding_all rfl) ?_))
     refine truOk_tup (br_f (by with_unfolding_all rfl) ?_)
     refine s_next (s_seq (s_set (d_callLP (by with_unfolding_all rfl) ?_)))
     refine d_cons (d_op (d_var (by with_unfolding_all rfl) ?_))
     refine d_c (by with_unfolding_all rfl) ?_
     refine r_ix (.inr (r_ixT (by with_unfolding_all rfl) ?_))
     refine d_nil ?_
     dsimp only
     refine ⟨_, _, rfl, ha, (s_seq (s_if (d_or (d_test (d_op (d_var (by with_unfolding_all rfl) ?_))))))⟩
     refine d_c (by with_unfolding_all rfl) ?_
     refine r_isN ⟨_, rfl, (br_f (by with_unfolding_all rfl) ?_)⟩
     refine d_test (d_op (d_cb (d_cons (d_var (by with_unfolding_all rfl) ?_))))
     refine d_nil (c_lenS (.inr rfl) (d_op (d_cb (d_cons (d_var (by with_unfolding_all rfl) ?_)))))
     refine d_nil (c_lenS (.inr rfl) (d_c (by with_unfolding_all rfl) ?_))
     refine r_I0 (by with_unfolding_all rfl) ?_
     refine r_neI ⟨_, rfl, (br_f (by with_unfolding_all rfl) ?_)⟩
     refine s_next (s_seq (s_set (d_c (by with_unfolding_all rfl) ?_)))
     refine s_seq (s_for (i_zipT (d_cons (d_var (by with_unfolding_all rfl) ?_))))
     refine d_cons (d_slT1 (d_var (by with_unfolding_all rfl) ?_))
     refine ⟨_, _, rfl, (d_nil ⟨_, _, rfl, ?_⟩)⟩
     ((with_reducible refine forW_id ?_); refine forW_pair ?_)
     ((with_reducible refine g_tid ?_); refine g_tup rfl ?_)
     refine gs_cons (g_name (gs_cons (g_name (gs_nil (s_if (d_test (d_op (d_var (by with_unfolding_all rfl) ?_))))))))
     refine d_c (by with_unfolding_all rfl) ?_
     refine r_eqS ⟨_, rfl, (br_t (by with_unfolding_all rfl) ?_)⟩
     refine s_seq (s_set ?_)
     dsimp only
     refine d_callS (fun _ => trivial) (dds := []) (fun _ => RelL.nil) (d_cons (d_var (by with_unfolding_all rfl) ?_))
     refine d_cons (d_var (by with_unfolding_all rfl) ?_)
     refine d_cons (d_var (by with_unfolding_all rfl) ?_)
     refine d_cons (d_op (d_var (by with_unfolding_all rfl) ?_))
     refine d_c (by with_unfolding_all rfl) ?_
     refine r_I0 (by with_unfolding_all rfl) ?_
     refine d_nil ?_
     refine ⟨_, a + 1, rfl, ox, (by omega), (by omega), ?_⟩
     refine s_seq (s_if (d_test (d_op (d_var (by with_unfolding_all rfl) ?_))))
     refine d_c (by with_unfolding_all rfl) ?_
     refine r_eqI ⟨_, rfl, (br_f (by assumption) ?_)⟩
     refine s_next (s_aug (by with_unfolding_all rfl) ?_)
     refine d_var (by with_unfolding_all rfl) ?_
     refine ⟨_, rfl, ?_⟩
     ((with_reducible refine forW_id ?_); refine forW_pair ?_)
     ((with_reducible refine g_tid ?_); refine g_tup rfl ?_)
     refine gs_cons (g_name (gs_cons (g_name (gs_nil (s_if (d_test (d_op (d_var (by with_unfolding_all rfl) ?_))))))))
     refine d_c (by with_unfolding_all rfl) ?_
     refine r_eqS ⟨_, rfl, (br_f (by with_unfolding_all rfl) ?_)⟩
     refine s_if (d_not (d_tB ?_))
     dsimp only
     refine d_callF (by with_unfolding_all rfl) ?_
     refine d_cons (d_var (by with_unfolding_all rfl) ?_)
     refine d_cons (d_var (by with_unfolding_all rfl) ?_)
     refine d_nil ?_
     refine Or.inl ⟨_, rfl, ⟨_, rfl, (br_f (by assumption) ?_)⟩⟩
     refine s_next ?_
     ((with_reducible refine forW_id ?_); refine forW_pnil ?_)
     refine s_ret (d_var (by with_unfolding_all rfl) ?_)
     dsimp only
     rotate_left
     exact fin q (by omega)
    ·have q0 := fin0 (by rw [if_neg c1, if_neg hp])
     have hf : (!decide (p ∈ ss)) = true := by simp [hp]
     refine s_seq (s_if (d_or (d_test (d_op (d_var (by with_unfolding_all rfl) ?_)))))
     refine d_c (by with_unfolding_all rfl) ?_
     refine r_I0 (by with_unfolding_all rfl) ?_
     refine ⟨_, rfl, (br_f (by assumption) ?_)⟩
     refine d_or (d_not (d_tB (d_cb (d_cons (d_var (by with_unfolding_all rfl) ?_)))))
     refine d_cons (d_c (by with_unfolding_all rfl) ?_)
     refine d_nil (c_tup (by with_unfolding_all rfl) ?_)
     refine ⟨_, rfl, (br_f (by with_unfolding_all rfl) ?_)⟩
     refine d_not (d_truth (d_var (by with_unfolding_all rfl) ?_))
     refine truOk_tup (br_f (by with_unfolding_all rfl) ?_)
     refine s_next (s_seq (s_set (d_callLP (by with_unfolding_all rfl) ?_)))
     refine d_cons (d_op (d_var (by with_unfolding_all rfl) ?_))
     refine d_c (by with_unfolding_all rfl) ?_
     refine r_ix (.inr (r_ixT (by with_unfolding_all rfl) ?_))
     refine d_nil ?_
     dsimp only
     refine ⟨_, _, rfl, ha, (s_seq (s_if (d_or (d_test (d_op (d_var (by with_unfolding_all rfl) ?_))))))⟩
     refine d_c (by with_unfolding_all rfl) ?_
     refine r_isN ⟨_, rfl, (br_f (by with_unfolding_all rfl) ?_)⟩
     refine d_test (d_op (d_cb (d_cons (d_var (by with_unfolding_all rfl) ?_))))
     refine d_nil (c_lenS (.inr rfl) (d_op (d_cb (d_cons (d_var (by with_unfolding_all rfl) ?_)))))
     refine d_nil (c_lenS (.inr rfl) (d_c (by with_unfolding_all rfl) ?_))
     refine r_I0 (by with_unfolding_all rfl) ?_
     refine r_neI ⟨_, rfl, (br_f (by with_unfolding_all rfl) ?_)⟩
     refine s_next (s_seq (s_set (d_c (by with_unfolding_all rfl) ?_)))
     refine s_seq (s_for (i_zipT (d_cons (d_var (by with_unfolding_all rfl) ?_))))
     refine d_cons (d_slT1 (d_var (by with_unfolding_all rfl) ?_))
     refine ⟨_, _, rfl, (d_nil ⟨_, _, rfl, ?_⟩)⟩
     ((with_reducible refine forW_id ?_); refine forW_pair ?_)
     ((with_reducible refine g_tid ?_); refine g_tup rfl ?_)
     refine gs_cons (g_name (gs_cons (g_name (gs_nil (s_if (d_test (d_op (d_var (by with_unfolding_all rfl) ?_))))))))
     refine d_c (by with_unfolding_all rfl) ?_
     refine r_eqS ⟨_, rfl, (br_t (by with_unfolding_all rfl) ?_)⟩
     refine s_seq (s_set ?_)
     dsimp only
     refine d_callS (fun _ => trivial) (dds := []) (fun _ => RelL.nil) (d_cons (d_var (by with_unfolding_all rfl) ?_))
     refine d_cons (d_var (by with_unfolding_all rfl) ?_)
     refine d_cons (d_var (by with_unfolding_all rfl) ?_)
     refine d_cons (d_op (d_var (by with_unfolding_all rfl) ?_))
     refine d_c (by with_unfolding_all rfl) ?_
     refine r_I0 (by with_unfolding_all rfl) ?_
     refine d_nil ?_
     refine ⟨_, a + 1, rfl, ox, (by omega), (by omega), ?_⟩
     refine s_seq (s_if (d_test (d_op (d_var (by with_unfolding_all rfl) ?_))))
     refine d_c (by with_unfolding_all rfl) ?_
     refine r_eqI ⟨_, rfl, (br_f (by assumption) ?_)⟩
     refine s_next (s_aug (by with_unfolding_all rfl) ?_)
     refine d_var (by with_unfolding_all rfl) ?_
     refine ⟨_, rfl, ?_⟩
     ((with_reducible refine forW_id ?_); refine forW_pair ?_)
     ((with_reducible refine g_tid ?_); refine g_tup rfl ?_)
     refine gs_cons (g_name (gs_cons (g_name (gs_nil (s_if (d_test (d_op (d_var (by with_unfolding_all rfl) ?_))))))))
     refine d_c (by with_unfolding_all rfl) ?_
     refine r_eqS ⟨_, rfl, (br_f (by with_unfolding_all rfl) ?_)⟩
     refine s_if (d_not (d_tB ?_))
     dsimp only
     refine d_callF (by with_unfolding_all rfl) ?_
     refine d_cons (d_var (by with_unfolding_all rfl) ?_)
     refine d_cons (d_var (by with_unfolding_all rfl) ?_)
     refine d_nil ?_
     refine Or.inl ⟨_, rfl, ⟨_, rfl, (br_t (by assumption) ?_)⟩⟩
     refine s_ret (d_c (by with_unfolding_all rfl) ?_)
     with_reducible assumption
     all_goals exact q0
structure RaiseT (K : PySem.W.Frag) (mg : Str → Option Value) (x : Str) (C : Addr) : Prop where
 g : mg x = some (.ref C)
 kp : PySem.W.keepIn K (.ref C) = true
 ex : PySem.W.excIn K C [.type "ValueError", .type "Exception", .type "BaseException", .type "object"] "ValueError.__new__" = true
 sub : PySem.W.subIn K (.ref C) (.type "BaseException") = some true
 ty : PySem.W.typeIn K (.ref C) = some (.type "type")
abbrev mkFX (P : Program) (w : World) (K : PySem.W.Frag) (mg : Str → Option Value) (base : Heap) (f c : Addr) (A : Around) (outer : List Env) (s : Shared) (H : Hp) (E : XK) (c' : Addr) : NF :=
 fitF (cloFrom (cxOf (L2.CX P w) P w K mg base N_check_tree "check_tree" (defScope s_check_tree) f (.ref c) A outer s H E).env.cells (C8.fnScope s_fits_tree).names []) c'
def M_ctreeX (C : Addr) : List D → (D → Prop) → (Value → Fx → Prop) → Prop := fun ds k kx => ∃ (ps : List Pt) (t : Tr), ds = [.lst (ps.map Pt.toD), t.toD] ∧ ShOk ps ∧ t.ok partsS ∧ (goodT (ps.map Pt.name) t → k .non) ∧ (¬ goodT (ps.map Pt.name) t → kx (.ref C) none)
theorem ok_ctreeX {C c p : Addr} {nm : Nat → Nat → Str} (T : Txt w K mg) (CT : CkTab K mg base c p nm) (R : RaiseT K mg "BadTree" C) : CalY P w K mg base 20 "check_tree" ["shelf", "tree"] none (M_ctreeX C) := by
 obtain ⟨fa, fda, Ca⟩ := ok_tree_arms (P := P) (base := base) T
 obtain ⟨fs, fds, hm, FD⟩ := T.f_size_of
 have b2 := FD.binds1 (ps := ["nest", "arms_of", "fits", "around"]) 4 1 (by decide) rfl fun T kV doc pm an cdv ct us its h3 h4 => match us, h3, its, h4 with | [_, _, _, _], _, [_], _ => ⟨_, rfl, rfl⟩
 have b1 := FD.binds1 (ps := ["nest", "arms_of", "fits", "around"]) 3 0 (by decide) rfl fun T kV doc pm an cdv ct us its h3 h4 => match us, h3, its, h4 with | [_, _, _], _, [_], _ => ⟨_, rfl, rfl⟩
 obtain ⟨ds1, v1, b1⟩ := b1
 obtain ⟨ds2, v2, b2⟩ := b2
 cases v2
 refine okYC T.f_check_tree CT.code sc_check_tree (fun _ _ _ _ _ _ us hl => match us, hl with | [_, _], _ => rfl) (fun ds k kx h => ?_) (fun f A outer s H E ds kk kx hr h => ?_)
 ·obtain ⟨_, _, rfl, _⟩ := h
  rfl
 obtain ⟨ps, t, rfl, hp, ht, q1, q2⟩ := h
 obtain ⟨tm, gM⟩ := T.MTREES
 obtain ⟨aD, gD, rD⟩ := T.DEEDS.ex
 have ga := Ca.at_
 refine ⟨_, (pss_cons (ps_set (i := 2) sc_check_tree.nd rfl (by first | exact Or.inl rfl | exact Or.inr rfl) (pe_lc (own := [("part", 3)]) (g := gName 3) (tt := tYes) rfl sc_check_tree.nd (pi_list (pv 0)) (blkOk_by (own := [("part", 3)]) (N := N_check_tree) (sc := defScope s_check_tree) (by decide +kernel)) (fun _ _ _ _ _ => (pg_name (i := 3) sc_check_tree.nd rfl (by first | exact Or.inl rfl | exact Or.inr rfl))) (fun _ _ _ _ _ => pts_nil) (fun _ _ _ _ _ => (pe_ix (r := rIx K) ix_seq (pv 3) pe_int (fun _ _ => rfl)))))
   (pss_cons (ps_nd (i := 4) (st := s_fits_tree) (nm := nm) (c := c) (P := p) rfl CT.tab rfl (CT.nm _ ⟨_, rfl⟩) free_ok rfl rfl rfl sc_check_tree.nd rfl (by first | exact Or.inl rfl | exact Or.inr rfl) (.inl rfl))
   (pss_one (ps_if (pt_not (pt_chain op_le op_le pe_int (pe_callM (j := 2) (y := "names") (mk := mkFX P w K mg base f c A outer s H E) (sp := fun f F l => spD K none (M_sizeA 11 fa f F l (ps.map Pt.name))) (fun f' c' l' => ok_sizeA T Ca (ok_fitsT T _ f' c' l' (ps.map Pt.name)) hm FD FD.kp b2 11) (fun _ => rfl) (fun ok => Caps.made (scope := C8.fnScope s_fits_tree) ok free_ok (by decide +kernel) rfl) (fun _ => rfl) rfl rfl (hr.mono (show 14 ≤ 19 by decide)) rfl hm FD.kp b1 v1 (pa_cons (pv 1) (pa_cons (pe_gref rfl ga) (pa_cons (pv 4) pa_nil)))) (pe_gint rfl gM))) (pss_one (show PS _ _ (tRaiseO C E) from ps_raise rfl (takes_of rfl rfl rfl rfl) (pmk_own PySem.F.excBase_ValueError R.ex R.g R.kp (raises_own R.sub R.ty) (by exact rfl)))) pss_nil)))), ?_⟩
 try dsimp only [cxOf]
 change dSf _ _ _ _ _ [Sl.d _, Sl.d _, Sl.un, Sl.un, Sl.un] _
 have l6 := hp.len
 refine sf_names (mk := mkFX P w K mg base f c A outer s H E) CT.mem CT.one (fun _ => rfl) (d_lc (i_list (d_var rfl ⟨_, rfl, by rw [List.length_map]; omega, ?_⟩)))
 refine names_of (by decide) (show 3 < 5 by decide) ⟨_, rfl, fun c' f' l' => ?_⟩
 have gs := good_sz (ss := ps.map Pt.name) ht
 refine sf_if (d_not (d_test (d_chain (d_c rfl (d_callM (M := fun f F l => M_sizeA 11 fa f F l (ps.map Pt.name)) (f := f') (c := c') (l := l') (dds := [.int 0]) rfl (fun _ => RelL.cons Rel.int RelL.nil) (d_cons (d_var rfl (d_cons (d_c rfl (d_cons (d_var rfl (d_nil ⟨t, 0, rfl, ht, by omega, by omega, r_I0 rfl ⟨_, rfl, fun e1 => d_c rfl (r_I0 rfl ⟨_, rfl, fun e2 => ?_, fun e2 => ?_⟩), fun e1 => ⟨_, rfl, fun _ => ?_, fun e => (by cases e)⟩⟩⟩))))))))))))
 ·refine sf_raise (q2 fun g => ?_)
  have g := (gs.mp g).2
  simp at e2
  omega
 ·have e1 := of_decide_eq_true e1
  simp at e2
  exact sf_of (s_next (q1 (gs.mpr ⟨by omega, by omega⟩)))
 ·refine sf_raise (q2 fun g => ?_)
  have g := (gs.mp g).1
  have e1 := of_decide_eq_false e1
  omega
end
end Pr
set_option Elab.async false
set_option linter.all false
set_option maxRecDepth 100000
set_option maxHeartbeats 2000000
namespace Pr
open PySem L2 PD
variable [Tabs]
def sp (ws : List Str) : Str := Txt.join " " ws
def FU : Nat := 140
structure TxOk (n : Nat) (t : Str) : Prop where
 ws : (Txt.split t " ").length ≤ n
 len : t.length ≤ 40000
abbrev s_BadText_init : Stmt := inClass (top 9) 0
abbrev N_BadText_init : List Str := ["self", "place"]
theorem sc_BadText_init : FnScope N_BadText_init ["self", "place"] (defScope s_BadText_init) := ⟨rfl, rfl, rfl, by decide +kernel, rfl, by decide +kernel, by decide +kernel⟩
section
variable {P : Program} {w : World} {K : PySem.W.Frag} {mg : Str → Option Value} {base : Heap}
structure RaiseF (P : Program) (w : World) (K : PySem.W.Frag) (mg : Str → Option Value) (base : Heap) (x fld : Str) (C : Addr) : Prop where
 g : mg x = some (.ref C)
 ox : OexC K C
 init : ∃ (fI : Addr) (fd : FuncData) (ps : List Str), PySem.W.findIn K (.ref C) "__init__" = some (some (.ref fI)) ∧ PySem.W.typeIn K (.ref fI) = some (.type "function") ∧ FnOk P w K mg base CX0 1 fI fd ps (spXI fld C) ∧ Binds K fd ps []
theorem ok_xinit {f C : Addr} {fd : FuncData} (F : FunD K "__init__" "BadText.__init__" (defArgs s_BadText_init) (defBody s_BadText_init) (defScope s_BadText_init) [] [] f fd) (ox : OexC K C) (hf : PySem.W.findIn K (.ref C) "place" = some none) : FnOk P w K mg base CX0 1 f fd ["self", "place"] (spXI "place" C) := by
 refine F.ok sc_BadText_init (fun vs H Q E h => ?_) (fun cdv A outer s H vs Q E hr h => ?_)
 ·obtain ⟨_, _, rfl, _⟩ := h
  rfl
 obtain ⟨a, y, rfl, ha, q⟩ := h
 refine ⟨_, PSs.nox ((pss_one (ps_ost (pv 0) (pv 1)))), ?_⟩
 exact ⟨_, rfl, _, rfl, a, C, rfl, ox, hf, .inl ⟨ha, fun dx h1 h2 => q dx h1 h2⟩⟩
def M_rtreeX (C7 C2 : Addr) : List D → (D → Prop) → (Value → Fx → Prop) → Prop := fun ds k kx => ∃ (ps : List Pt) (tx : Str) (r : D), ds = [.lst (ps.map Pt.toD), .str tx] ∧ ShOk ps ∧ TxOk 135 tx ∧ Res FU (ps.map Pt.name) (Txt.split tx " ") r ∧
 (∀ i : Int, r = .tup [.str "BadText", .int i] → kx (.ref C7) (some ("place", .int i))) ∧ (r = .str "BadTree" → kx (.ref C2) none) ∧ ((∃ t : Tr, r = t.toD ∧ t.ok partsS ∧ goodT (ps.map Pt.name) t) → k r)
theorem ok_rtreeX {C7 C2 c p : Addr} {nm : Nat → Nat → Str} (T : Txt w K mg) (CT : CkTab K mg base c p nm) (R : RaiseT K mg "BadTree" C2) (R7 : RaiseF P w K mg base "BadText" "place" C7) : CalY P w K mg base 21 "read_tree" ["shelf", "text"] none (M_rtreeX C7 C2) := by
 have C_check_shelf := ok_check_shelf (P := P) (base := base) T
 have C_check_tree := ok_ctreeX (P := P) T CT R
 obtain ⟨fa, fda, Ca⟩ := ok_tarms (P := P) (base := base) T
 obtain ⟨ff, fdf, Cf⟩ := ok_fitT (P := P) (base := base) T
 obtain ⟨fw, fdw, Cw⟩ := ok_tellw (P := P) (base := base) T
 have C_misplaced := ok_misT T Ca Cf
 have C_read_nest := ok_rnest T Ca Cw
 have ga := Ca.at_
 have gf := Cf.at_
 have gw := Cw.at_
 obtain ⟨fI, fdI, psI, i1, i2, i3, i4⟩ := R7.init
 refine okY T.f_read_tree sc_read_tree (fun _ _ _ _ _ _ us hl => match us, hl with | [_, _], _ => rfl) (fun ds k kx h => ?_) (fun f cdv A outer s H E ds kk kx hr h => ?_)
 ·obtain ⟨_, _, _, rfl, _⟩ := h
  rfl
 obtain ⟨ps, tx, r, rfl, sh, ht, hres, q7, q2, q1⟩ := h
 refine ⟨_, (pss_cons (ps_expr (pe_calK (K := K) rfl C_check_shelf (hr.mono (by first | decide | omega)) rfl (pa_cons (pv 0) pa_nil)))
   (pss_cons (ps_set (i := 2) sc_read_tree.nd rfl (by first | exact Or.inl rfl | exact Or.inr rfl) (pe_split (pv 1) pe_str))
   (pss_cons (ps_set (i := 3) sc_read_tree.nd rfl (by first | exact Or.inl rfl | exact Or.inr rfl) (pe_calK (K := K) rfl C_misplaced (hr.mono (by first | decide | omega)) rfl (pa_cons (pv 2) (pa_cons (pe_gref rfl ga) (pa_cons (pe_gref rfl gf) pa_nil)))))
   (pss_cons (ps_if (pt_cmpR op_notN (pv 3) pe_non (nomark _)) (pss_one (show PS _ _ (tRaiseF C7 "place" (tCons (tVar 3) tNil) E) from ps_raise rfl (takes_of rfl rfl rfl rfl) (pmk_oex R7.ox i1 i2 i3 (hr.mono (by decide)) i4 .nil pass0 rfl R7.g (pa_cons (pv 3) pa_nil)))) pss_nil)
   (pss_cons (ps_set (i := 4) sc_read_tree.nd rfl (by first | exact Or.inl rfl | exact Or.inr rfl) (pe_calK (K := K) rfl C_read_nest (hr.mono (by first | decide | omega)) rfl (pa_cons (pv 2) (pa_cons (pe_gref rfl ga) (pa_cons (pe_gref rfl gw) pa_nil)))))
   (pss_cons (ps_expr (PD.pe_calY (E := E) C_check_tree (takes_of rfl rfl rfl rfl) (hr.mono (by first | decide | omega)) rfl (pa_cons (pv 0) (pa_cons (pv 4) pa_nil))))
   (pss_one (ps_ret (pv 4))))))))), ?_⟩
 try dsimp only [cxOf]
 change dSf _ _ _ _ _ [Sl.d _, Sl.d _, Sl.un, Sl.un, Sl.un] _
 have hw := ht.ws
 have hl := ht.len
 refine sf_seq (sf_of (s_drop (d_call (d_cons (d_var rfl (d_nil ⟨ps, rfl, sh, ?_⟩))))))
 refine sf_seq (sf_of (s_set (d_split (d_var rfl ⟨_, rfl, d_c rfl ⟨_, rfl, by decide +kernel, Nat.le_trans (Nat.add_le_add_right hl 2) (by decide), ?_⟩⟩))))
 refine sf_seq (sf_of (s_set (d_call (d_cons (d_var rfl (d_cons (d_c rfl (d_cons (d_c rfl (d_nil ⟨_, rfl, by omega, ?_⟩))))))))))
 have hm := frm_mis FU (Txt.split tx " ") [] (by have : FU = 140 := rfl; omega)
 cases hres with
 | @text o r1 e1 h1 =>
  have em : misR treeTab fitB ["nest"] (Txt.split tx " ") = some r1 := by
   rw [hm, e1]
   cases o with
   | none => rfl
   | some d =>
    cases r1 with
    | nil => exact absurd h1 (by simp)
    | cons => rfl
  rw [em]
  refine sf_seq (sf_if (d_test (d_op (d_var rfl (d_c rfl (r_notN ⟨_, rfl, fun _ => ?_, fun e => (by cases e)⟩))))))
  exact sf_raiseF (d_cons (d_var rfl (d_nil ⟨_, rfl, q7 _ rfl⟩)))
 | @bad t e1 ht1 hg =>
  have em : misR treeTab fitB ["nest"] (Txt.split tx " ") = none := by rw [hm, e1]; rfl
  rw [em]
  refine sf_seq (sf_if (d_test (d_op (d_var rfl (d_c rfl (r_notN ⟨_, rfl, fun e => (by cases e), fun _ => sf_of (s_next ?_)⟩))))))
  have hw2 := (frm_tree _ _ _ _ e1).1
  rw [List.append_nil] at hw2
  rw [hw2] at hw ⊢
  have ns : Nst treeTab ["nest"] [t.toD] := Tr.nst (ns := partsS) (fun _ h => h) ht1 .nil
  refine sf_seq (sf_of (s_set (d_call (d_cons (d_var rfl (d_cons (d_c rfl (d_cons (d_c rfl (d_nil ⟨_, rfl, ns, by omega, ?_⟩))))))))))
  exact sf_seq (sf_drop (f_call (d_cons (d_var rfl (d_cons (d_var rfl (d_nil ⟨ps, t, rfl, sh, ht1, fun g => absurd g hg, fun _ => q2 rfl⟩)))))))
 | @tree t e1 ht1 hg =>
  have em : misR treeTab fitB ["nest"] (Txt.split tx " ") = none := by rw [hm, e1]; rfl
  rw [em]
  refine sf_seq (sf_if (d_test (d_op (d_var rfl (d_c rfl (r_notN ⟨_, rfl, fun e => (by cases e), fun _ => sf_of (s_next ?_)⟩))))))
  have hw2 := (frm_tree _ _ _ _ e1).1
  rw [List.append_nil] at hw2
  rw [hw2] at hw ⊢
  have ns : Nst treeTab ["nest"] [t.toD] := Tr.nst (ns := partsS) (fun _ h => h) ht1 .nil
  refine sf_seq (sf_of (s_set (d_call (d_cons (d_var rfl (d_cons (d_c rfl (d_cons (d_c rfl (d_nil ⟨_, rfl, ns, by omega, ?_⟩))))))))))
  refine sf_seq (sf_drop (f_call (d_cons (d_var rfl (d_cons (d_var rfl (d_nil ⟨ps, t, rfl, sh, ht1, fun g => ?_, fun g => absurd hg g⟩)))))))
  exact sf_ret (fx_of (d_var rfl (q1 ⟨t, rfl, ht1, hg⟩)))
def M_wtree : List D → (D → Prop) → Prop := fun ds k => ∃ (ps : List Pt) (t : Tr), ds = [.lst (ps.map Pt.toD), t.toD] ∧ ShOk ps ∧ t.ok (ps.map Pt.name) ∧ t.depth ≤ 9 ∧ t.size ≤ 40 ∧ k (.str (sp (wdsD t.toD)))
theorem ok_wtree {c p : Addr} {nm : Nat → Nat → Str} (T : Txt w K mg) (CT : CkTab K mg base c p nm) : Cal P w K mg base 21 "written_tree" ["shelf", "tree"] none M_wtree := by
 have C_check_shelf := ok_check_shelf (P := P) (base := base) T
 have C_check_tree := ok_check_tree (P := P) T CT
 have C_written_nest := ok_written (P := P) (base := base) T 10
 refine okF T.f_written_tree sc_written_tree (fun _ _ _ _ _ _ us hl => match us, hl with | [_, _], _ => rfl) (fun ds k h => ?_) (fun f cdv A outer s H E ds kk hr h => ?_)
 ·obtain ⟨_, _, rfl, _⟩ := h
  rfl
 obtain ⟨ps, t, rfl, sh, ht, hd, hz, q⟩ := h
 refine ⟨_, (pss_cons (ps_expr (pe_calK (K := K) rfl C_check_shelf (hr.mono (by first | decide | omega)) rfl (pa_cons (pv 0) pa_nil)))
   (pss_cons (ps_expr (pe_calK (K := K) rfl C_check_tree (hr.mono (by first | decide | omega)) rfl (pa_cons (pv 0) (pa_cons (pv 1) pa_nil))))
   (pss_one (ps_ret (pe_calK (K := K) rfl C_written_nest (hr.mono (by first | decide | omega)) rfl (pa_cons (pv 1) pa_nil)))))), ?_⟩
 try dsimp only [cxOf]
 change dS _ _ _ [Sl.d _, Sl.d _] _
 have hn : ∀ x ∈ ps.map Pt.name, x ∈ partsS := fun x hx => by
  obtain ⟨a, ha, rfl⟩ := List.mem_map.mp hx
  exact (sh.ok a ha).n
 have no := tree_of hn ht
 refine s_seq (s_drop (d_call (d_cons (d_var rfl (d_nil ⟨ps, rfl, sh, ?_⟩)))))
 refine s_seq (s_drop (d_call (d_cons (d_var rfl (d_cons (d_var rfl (d_nil ⟨ps, t, rfl, sh, ht, hd, hz, ?_⟩)))))))
 refine s_ret (d_call (d_cons (d_var rfl (d_nil ⟨_, rfl, nst_up (by omega) no, by omega, ?_⟩))))
 rw [(nest_wds _ no).2]
 exact q
end
end Pr
set_option Elab.async false
set_option linter.all false
set_option maxRecDepth 100000
set_option maxHeartbeats 4000000
namespace Pr
open PySem L2 PD LamX PyProof.Rows
variable [Tabs]
abbrev s_law_kind : Stmt := top 68
abbrev N_law_kind : List Str := ["_law_work", "_law_e", "_law_kinds"]
theorem sc_law_kind : FnScope N_law_kind ["_law_work"] (defScope s_law_kind) := ⟨rfl, rfl, rfl, by decide +kernel, rfl, by decide +kernel, by decide +kernel⟩
def kindN : List Str := ["BadPart", "BadShelf", "BadTree", "NotRight", "NotWhole", "BadCall", "Long", "BadText"]
def kindW : List Str := ["", "BadShelf", "BadTree", "", "NotWhole", "BadCall", "Long"]
def errC (K : PySem.W.Frag) (j : Nat) : Addr := He.ga K (kindN.getD j "")
structure KindT (K : PySem.W.Frag) (mg : Str → Option Value) : Prop where
 g_PartError : mg "PartError" = some (.ref (He.ga K "PartError"))
 g_BadPart : mg "BadPart" = some (.ref (He.ga K "BadPart"))
 g_BadShelf : mg "BadShelf" = some (.ref (He.ga K "BadShelf"))
 g_BadTree : mg "BadTree" = some (.ref (He.ga K "BadTree"))
 g_NotRight : mg "NotRight" = some (.ref (He.ga K "NotRight"))
 g_NotWhole : mg "NotWhole" = some (.ref (He.ga K "NotWhole"))
 g_BadCall : mg "BadCall" = some (.ref (He.ga K "BadCall"))
 g_Long : mg "Long" = some (.ref (He.ga K "Long"))
 g_BadText : mg "BadText" = some (.ref (He.ga K "BadText"))
 z_isinstance : mg "isinstance" = none
 z_ValueError : mg "ValueError" = none
structure ErrT (K : PySem.W.Frag) (j : Nat) : Prop where
 exm : PySem.W.exmOne K (.ref (errC K j)) (.ref (He.ga K "PartError")) = some true
 ec : ExcC K (errC K j)
 kit : ∀ i, i < 8 → PySem.W.kitOne K (.ref (errC K j)) (.ref (errC K i)) = some (decide (i = j))
 val : PySem.W.kitOne K (.ref (errC K j)) (.type "ValueError") = some true
structure FldT (K : PySem.W.Frag) (j : Nat) (f : Str) : Prop where
 x : XfC K (errC K j)
 n : PySem.W.findIn K (.ref (errC K j)) f = some none
inductive Tells : Nat → Fx → D → Prop
 | why {y : D} : Tells 0 (some ("why", y)) (.tup [.str "BadPart", y])
 | name {y : D} : Tells 3 (some ("name", y)) (.tup [.str "NotRight", y])
 | place {y : D} : Tells 7 (some ("place", y)) (.tup [.str "BadText", y])
 | word {j : Nat} : (j = 1 ∨ j = 2 ∨ j = 4 ∨ j = 5 ∨ j = 6) → Tells j none (.str (kindW.getD j ""))
theorem Tells.lt {j : Nat} {x : Fx} {d : D} (h : Tells j x d) : j < 8 := by
 cases h with
 | why => omega
 | name => omega
 | place => omega
 | word h => omega
def kxF (K : PySem.W.Frag) (c : Value) (x : Fx) (wd : D) : Prop := ∃ j, ErrT K j ∧ c = .ref (errC K j) ∧ Tells j x wd
theorem raw_ifS {K : PySem.W.Frag} {hs : Option (Addr × Addr)} {tt : TT} {t u : TS} {ρ : List Sl} {σ : L2.St} {G H H0 : Hp} {DD : Ends} {kb : Bool → Prop} (f : Fr hs G H) (R : EnvR K hs H0 G H σ ρ) (h : dT K hs tt ρ kb) (q : ∀ b G1 H1, Step hs G H G1 H1 → kb b → if b = true then t DD σ H1 else u DD σ H1) : tIfS tt t u DD σ H := h H0 σ G H _ f R fun b G1 H1 s k => q b G1 H1 s k
theorem raw_orS {K : PySem.W.Frag} {hs : Option (Addr × Addr)} {ta tb : TT} {t u : TS} {ρ : List Sl} {σ : L2.St} {G H H0 : Hp} {DD : Ends} (f : Fr hs G H) (R : EnvR K hs H0 G H σ ρ) (h : dT K hs ta ρ fun b => b = false) (q : ∀ G1 H1, Step hs G H G1 H1 → tb σ H1 fun b H2 => if b = true then t DD σ H2 else u DD σ H2) : tIfS (tOr ta tb) t u DD σ H := h H0 σ G H _ f R fun b G1 H1 s k => by
 subst k
 rw [if_neg Bool.false_ne_true]
 exact q G1 H1 s
theorem raw_if {K : PySem.W.Frag} {hs : Option (Addr × Addr)} {tt : TT} {ta tb : TE} {ρ : List Sl} {σ : L2.St} {G H H0 : Hp} {Q : VK} {kb : Bool → Prop} (f : Fr hs G H) (R : EnvR K hs H0 G H σ ρ) (h : dT K hs tt ρ kb) (q : ∀ b G1 H1, Step hs G H G1 H1 → kb b → if b = true then ta σ H1 Q else tb σ H1 Q) : tIf tt ta tb σ H Q := h H0 σ G H _ f R fun b G1 H1 s k => q b G1 H1 s k
theorem raw_ret {K : PySem.W.Frag} {hs : Option (Addr × Addr)} {te : TE} {ρ : List Sl} {σ : L2.St} {G H H0 : Hp} {DD : Ends} {k : D → Prop} (f : Fr hs G H) (R : EnvR K hs H0 G H σ ρ) (h : dE K hs te ρ k) (q : ∀ v G1 H1 d, Step hs G H G1 H1 → Rel K G1 v d → k d → DD.rt v H1) : tRet te DD σ H := h H0 σ G H _ f R q
theorem raw_pair {K : PySem.W.Frag} {hs : Option (Addr × Addr)} {σ : L2.St} {G H : Hp} {Q : VK} {a C : Addr} {d : Option Addr} {f wd : Str} {x : D} {i : Nat} (fr : Fr hs G H) (e : σ[i]? = some (some (.ref a))) (h : ExAt K G (some (f, x)) d) (q : ∀ v G1 H1, Step hs G H G1 H1 → Rel K G1 v (.tup [.str wd, x]) → Q v H1) :
  tTup (tCons (tC (.str wd)) (tCons (tXf a (.ref C) d C f (tVar i)) tNil)) σ H Q := d_xfRaw fr e h fun v r => ⟨(show (2 : Nat) ≤ sizeLine by decide), fun p hp => by
 have s1 : Step hs G H (upd G p (.tup [.str wd, v])) (upd H p (.tup [.str wd, v])) := Step.alloc fr.sub fr.st hp
 exact q _ _ _ s1 (.tup (.inl (.inl upd_same)) (.cons .str (.cons (r.mono s1.exg) .nil)))⟩
theorem gives_kindF {X : Cx} {g : Addr} {q : Str} {cdv : Value} (T : KindT X.K X.mg) (F0 : FldT X.K 0 "why") (F3 : FldT X.K 3 "name") (F7 : FldT X.K 7 "place") : GivesTo X N_law_kind "_law_kind" (defScope s_law_kind) g cdv (defBody s_law_kind) "_law_work" q (TWorkF X.K (kxF X.K) "") := by
 obtain ⟨prog, w, K, mg, base, A0, N0, s0, H00, env0, outer0, stack0, ex0, fn0, calm0, pn0, xe0⟩ := X
 have T : KindT K mg := T
 intro f c' s H Q tl hact hc hT
 refine ⟨_, (pss_cons (ps_try_as (i := 1) rfl rfl sc_law_kind.nd rfl rfl ⟨rfl, by decide, .inl T.g_PartError⟩ takes0 (fun W pn xe tk _ => (pss_one (ps_expr (hact (fun cls d σ H => σ.length = N_law_kind.length → W cls d σ H) pn xe (fun cls d H' => ∀ σ', σ'.length = N_law_kind.length → W cls d σ' H') _ _ (takes_len tk) (fun cls d σ' H' e => e σ'))))) (fun a oe cls d pn hz hf => (pss_cons (ps_set (i := 2) sc_law_kind.nd rfl (by first | exact Or.inl rfl | exact Or.inr rfl) (pe_lst (pa_cons (pe_callB (r := PD.rIsEx2 K a cls d) (id := "isinstance") (PD.call_isEx2 hz hf) (by rfl) T.z_isinstance (by decide +kernel) (pa_cons (pv 1) (pa_cons (pe_gref rfl T.g_BadPart) pa_nil))) (pa_cons (pe_callB (r := PD.rIsEx2 K a cls d) (id := "isinstance") (PD.call_isEx2 hz hf) (by rfl) T.z_isinstance (by decide +kernel) (pa_cons (pv 1) (pa_cons (pe_gref rfl T.g_BadShelf) pa_nil))) (pa_cons (pe_callB (r := PD.rIsEx2 K a cls d) (id := "isinstance") (PD.call_isEx2 hz hf) (by rfl) T.z_isinstance (by decide +kernel) (pa_cons (pv 1) (pa_cons (pe_gref rfl T.g_BadTree) pa_nil))) (pa_cons (pe_callB (r := PD.rIsEx2 K a cls d) (id := "isinstance") (PD.call_isEx2 hz hf) (by rfl) T.z_isinstance (by decide +kernel) (pa_cons (pv 1) (pa_cons (pe_gref rfl T.g_NotRight) pa_nil))) pa_nil))))))
   (pss_cons (ps_set (i := 2) sc_law_kind.nd rfl (by first | exact Or.inl rfl | exact Or.inr rfl) (pe_op op_cat (pv 2) (pe_lst (pa_cons (pe_callB (r := PD.rIsEx2 K a cls d) (id := "isinstance") (PD.call_isEx2 hz hf) (by rfl) T.z_isinstance (by decide +kernel) (pa_cons (pv 1) (pa_cons (pe_gref rfl T.g_NotWhole) pa_nil))) (pa_cons (pe_callB (r := PD.rIsEx2 K a cls d) (id := "isinstance") (PD.call_isEx2 hz hf) (by rfl) T.z_isinstance (by decide +kernel) (pa_cons (pv 1) (pa_cons (pe_gref rfl T.g_BadCall) pa_nil))) (pa_cons (pe_callB (r := PD.rIsEx2 K a cls d) (id := "isinstance") (PD.call_isEx2 hz hf) (by rfl) T.z_isinstance (by decide +kernel) (pa_cons (pv 1) (pa_cons (pe_gref rfl T.g_Long) pa_nil))) pa_nil))))))
   (pss_cons (ps_expr (by exact (PD.pe_bmK (K := K) (r := rAppend) rfl PySem.F.plainAttrs_list PySem.F.slot_list_append PySem.F.type_list_append mt_append (pv 2) (pa_cons (pe_callB (r := PD.rIsEx2 K a cls d) (id := "isinstance") (PD.call_isEx2 hz hf) (by rfl) T.z_isinstance (by decide +kernel) (pa_cons (pv 1) (pa_cons (pe_gref rfl T.g_BadText) pa_nil))) pa_nil))))
   (pss_cons (ps_if (PW.pt (pw_or (pt_cmpR op_ne (PD.pe_bmK (K := K) (r := PD.rCountV) rfl PySem.F.plainAttrs_list PySem.F.slot_list_count PySem.F.type_list_count PD.mt_countV (pv 2) (pa_cons pe_bl pa_nil)) pe_int (nomark _)) (pw_or1 (pt_not (pt_val (pe_callB (r := PD.rIsEx2 K a cls d) (id := "isinstance") (PD.call_isEx2 hz hf) (by rfl) T.z_isinstance (by decide +kernel) (pa_cons (pv 1) (pa_cons (pe_bty (n := "ValueError") rfl T.z_ValueError (by decide +kernel)) pa_nil)))))))) (pss_one (ps_ret pe_str)) pss_nil)
   (pss_cons (ps_if (PW.pt (pw_or (pt_val (pe_ix (r := rIx K) ix_seq (pv 2) pe_int (fun _ _ => rfl))) (pw_or1 (pt_val (pe_ix (r := rIx K) ix_seq (pv 2) pe_int (fun _ _ => rfl)))))) (pss_one (ps_ret (pe_ifExp (pt_val (pe_ix (r := rIx K) ix_seq (pv 2) pe_int (fun _ _ => rfl))) (pe_tup (pa_cons pe_str (pa_cons (pe_xf (C := errC K 0) F0.x F0.n hz hf (pv 1)) pa_nil))) (pe_tup (pa_cons pe_str (pa_cons (pe_xf (C := errC K 3) F3.x F3.n hz hf (pv 1)) pa_nil)))))) pss_nil)
   (pss_cons (ps_if (pt_val (pe_ix (r := rIx K) ix_seq (pv 2) pe_int (fun _ _ => rfl))) (pss_one (ps_ret (pe_tup (pa_cons pe_str (pa_cons (pe_xf (C := errC K 7) F7.x F7.n hz hf (pv 1)) pa_nil))))) pss_nil)
   (pss_one (ps_ret (pe_ix (r := rIx K) ix_seq (pe_lst (pa_cons pe_str (pa_cons pe_str (pa_cons pe_str (pa_cons pe_str (pa_cons pe_str (pa_cons pe_str (pa_cons pe_str pa_nil)))))))) (PD.pe_bmK (K := K) (r := rIndex K) rfl PySem.F.plainAttrs_list PySem.F.slot_list_index PySem.F.type_list_index mt_index (pv 2) (pa_cons pe_bl pa_nil)) (fun _ _ => rfl))))))))))))
   (pss_one (ps_ret pe_str))), ?_⟩
 refine ⟨rfl, hc, hT _ _ (fun c x d H' G' wd fr ex kx qk => ?_) (fun v H' q => q)⟩
 intro σ' hl
 obtain ⟨j, ET, rfl, hk⟩ := kx
 have hj := hk.lt
 refine ⟨true, ET.exm, fun _ a ha => ?_, fun e => (by cases e)⟩
 have ki : ∀ {σ : L2.St} {H : Hp} {Q : VK} (i : Nat), i < 8 → σ[1]? = some (some (.ref a)) → XdAt d H → Q (.bl (decide (i = j))) H → (tCB (rIsEx2 K a (.ref (errC K j)) d) (tCons (tVar 1) (tCons (tC (.ref (errC K i))) tNil))) σ H Q := fun i hi e x q => isE_raw ET.ec e x (fun u r => r) (ET.kit i hi) q
 have e0 : (σ'.set 1 (some (V.ref a)))[1]? = some (some (.ref a)) := List.getElem?_set_self (by rw [hl]; decide)
 have e1 : ∀ v, ((σ'.set 1 (some (V.ref a))).set 2 v)[1]? = some (some (.ref a)) := fun v => by rw [List.getElem?_set_ne (by decide)]; exact e0
 have e2 : ∀ v, ((σ'.set 1 (some (V.ref a))).set 2 (some v))[2]? = some (some v) := fun v => List.getElem?_set_self (by rw [List.length_set, hl]; decide)
 have xa : XdAt d H' := ex.xd fr
 dsimp only [tSeq, gName]
 refine ki 0 (by decide) e0 xa (ki 1 (by decide) e0 xa (ki 2 (by decide) e0 xa (ki 3 (by decide) e0 xa ⟨(show (4 : Nat) ≤ sizeLine by decide), fun p1 hp1 => ?_⟩)))
 have x1 := xa.new (o := .lst [.bl (decide (0 = j)), .bl (decide (1 = j)), .bl (decide (2 = j)), .bl (decide (3 = j))]) hp1
 refine ⟨_, e2 _, ki 4 (by decide) (e1 _) x1 (ki 5 (by decide) (e1 _) x1 (ki 6 (by decide) (e1 _) x1 ⟨(show (3 : Nat) ≤ sizeLine by decide), fun p2 hp2 => ⟨p1, p2, _, _, rfl, rfl, (upd_ne (ne_of_none upd_same hp2)).trans upd_same, upd_same, (show (7 : Nat) ≤ sizeLine by decide), fun p3 hp3 => ?_⟩⟩))⟩
 have x3 := (x1.new (o := .lst [.bl (decide (4 = j)), .bl (decide (5 = j)), .bl (decide (6 = j))]) hp2).new (o := .lst ([.bl (decide (0 = j)), .bl (decide (1 = j)), .bl (decide (2 = j)), .bl (decide (3 = j))] ++ [.bl (decide (4 = j)), .bl (decide (5 = j)), .bl (decide (6 = j))])) hp3
 dsimp only [gName]
 rw [List.set_set]
 refine ⟨_, e2 _, .inl ⟨rfl, _, SqL.of upd_same⟩, ki 7 (by decide) (e1 _) x3 ⟨p3, _, _, rfl, rfl, upd_same, (show (7 : Nat) < sizeLine by decide), ?_⟩⟩
 have t1 : Step none G' H' G' _ := Step.fresh (o := .lst [.bl (decide (0 = j)), .bl (decide (1 = j)), .bl (decide (2 = j)), .bl (decide (3 = j))]) fr.sub fr.st hp1
 have t2 := t1.trans (Step.fresh (o := .lst [.bl (decide (4 = j)), .bl (decide (5 = j)), .bl (decide (6 = j))]) t1.sub t1.st hp2)
 have t3 := t2.trans (Step.fresh (o := .lst ([.bl (decide (0 = j)), .bl (decide (1 = j)), .bl (decide (2 = j)), .bl (decide (3 = j))] ++ [.bl (decide (4 = j)), .bl (decide (5 = j)), .bl (decide (6 = j))])) t2.sub t2.st hp3)
 have h0 : H' p3 = none := t2.back hp3
 have g0 : G' p3 = none := Same.free fr.sub h0
 obtain ⟨bs, hbs⟩ : ∃ bs : List Bool, bs = [decide (0 = j), decide (1 = j), decide (2 = j), decide (3 = j), decide (4 = j), decide (5 = j), decide (6 = j), decide (7 = j)] := ⟨_, rfl⟩
 have t4 := t3.mut (o := .lst (bs.map V.bl)) h0 (fr.outs h0) g0
 have t5 := t4.freeze h0 (fr.outs h0) g0 upd_same
 have ebs : ([V.bl (decide (0 = j)), .bl (decide (1 = j)), .bl (decide (2 = j)), .bl (decide (3 = j))] ++ [.bl (decide (4 = j)), .bl (decide (5 = j)), .bl (decide (6 = j))]) ++ [.bl (decide (7 = j))] = bs.map V.bl := by rw [hbs]; rfl
 rw [ebs]
 generalize hG4 : upd G' p3 (.lst (bs.map V.bl)) = G4 at t5
 have rb : ∀ l : List Bool, RelL K G4 (l.map V.bl) (l.map D.bl) := fun l => by
  induction l with
  | nil => exact .nil
  | cons x r ih => exact .cons .bl ih
 have rl : Rel K G4 (.ref p3) (.lst (bs.map D.bl)) := .lst (by rw [← hG4]; exact upd_same) (rb bs)
 generalize hH4 : upd _ p3 (.lst (bs.map V.bl)) = H4 at t5 ⊢
 generalize hσ : (σ'.set 1 (some (V.ref a))).set 2 (some (.ref p3)) = σ3
 have eσ : σ3[1]? = some (some (.ref a)) := by rw [← hσ]; exact e1 _
 have env : ∀ {G H : Hp}, Step none G' H' G H → Same G4 G → EnvR K none H' G H σ3 [.un, .d (.adr a), .d (.lst (bs.map D.bl))] := fun {G H} s e => by
  rw [← hσ]
  exact (((env_un (n := 3) hl).set (i := 1) (v := some (.ref a)) (s := .d (.adr a)) ⟨_, rfl, .adr⟩ fun _ e => (by cases e))).set (i := 2) (v := some (.ref p3)) (s := .d (.lst (bs.map D.bl))) ⟨_, rfl, rl.mono e⟩ fun _ e => (by cases e)
 have hcnt : bs.count true = 1 := by
  have : ∀ j : Fin 8, ([decide (0 = j.val), decide (1 = j.val), decide (2 = j.val), decide (3 = j.val), decide (4 = j.val), decide (5 = j.val), decide (6 = j.val), decide (7 = j.val)] : List Bool).count true = 1 := by decide
  rw [hbs]
  exact this ⟨j, hj⟩
 have hix : ∀ n, n < 8 → bs[n]? = some (decide (n = j)) := fun n hn => by
  have : ∀ (j n : Fin 8), ([decide (0 = j.val), decide (1 = j.val), decide (2 = j.val), decide (3 = j.val), decide (4 = j.val), decide (5 = j.val), decide (6 = j.val), decide (7 = j.val)] : List Bool)[n.val]? = some (decide (n.val = j.val)) := by decide
  rw [hbs]
  exact this ⟨j, hj⟩ ⟨n, hn⟩
 have ix : ∀ {ρ : List Sl} {n : Nat} {kb : Bool → Prop}, n < 8 → ρ[2]? = some (.d (.lst (bs.map D.bl))) → kb (decide (n = j)) → dT K none (tB (tOp (rIx K) (tVar 2) (tC (.int (n : Int))))) ρ kb := fun {ρ n kb} hn e q => d_tB (d_op (d_var e (d_c rfl (r_ix (.inl (r_ixL (atI_nat (by rw [List.getElem?_map, hix n hn]; rfl)) ⟨_, rfl, q⟩))))))
 refine raw_orS t5.fr (env t5 (Same.refl _)) (d_test (d_op (d_countB (d_var rfl ⟨bs, rfl, d_cons (d_c rfl (d_nil ⟨true, rfl, d_c rfl (r_neI ⟨_, rfl, by rw [hcnt]; decide⟩)⟩))⟩)))) fun G5 H5 s5 => ?_
 have t6 := t5.trans s5
 refine isE_raw (T := .ty "ValueError") (cv := .type "ValueError") ET.ec eσ ((ex.mono t6.exg).xd t6.fr) (fun u r => r) ET.val ⟨_, rfl, ?_⟩
 show (if (!true) = true then _ else _)
 rw [if_neg (by decide)]
 dsimp only [tNext, tSeq]
 have done : ∀ (v : V) (G6 H6 : Hp) (wd' : D), Step none G' H' G6 H6 → Rel K G6 v wd' → wd' = wd → Q v H6 := fun v G6 H6 wd' s r e => qk v G6 H6 s (e ▸ r)
 refine raw_ifS t6.fr (env t6 s5.exg) (kb := fun b => b = (decide (0 = j) || decide (3 = j))) (d_or (ix (n := 0) (by decide) rfl ⟨fun e => by rw [e]; rfl, fun e => ix (n := 3) (by decide) rfl (by rw [e]; rfl)⟩)) fun b G7 H7 s7 hb => ?_
 have t7 := t6.trans s7
 have m7 := s5.exg.trans s7.exg
 have x7 := ex.mono t7.exg
 cases hk with
 | why =>
  rw [hb, if_pos (by decide)]
  refine raw_if t7.fr (env t7 m7) (kb := fun b => b = true) (ix (n := 0) (by decide) rfl (by decide)) fun b G8 H8 s8 hb8 => ?_
  rw [if_pos hb8]
  exact raw_pair (t7.trans s8).fr eσ (x7.mono s8.exg) fun v G9 H9 s9 r => done v G9 H9 _ ((t7.trans s8).trans s9) r rfl
 | name =>
  rw [hb, if_pos (by decide)]
  refine raw_if t7.fr (env t7 m7) (kb := fun b => b = false) (ix (n := 0) (by decide) rfl (by decide)) fun b G8 H8 s8 hb8 => ?_
  rw [hb8, if_neg Bool.false_ne_true]
  exact raw_pair (t7.trans s8).fr eσ (x7.mono s8.exg) fun v G9 H9 s9 r => done v G9 H9 _ ((t7.trans s8).trans s9) r rfl
 | place =>
  rw [hb, if_neg (by decide)]
  refine raw_ifS t7.fr (env t7 m7) (kb := fun b => b = true) (ix (n := 7) (by decide) rfl (by decide)) fun b G8 H8 s8 hb8 => ?_
  rw [if_pos hb8]
  exact raw_pair (t7.trans s8).fr eσ (x7.mono s8.exg) fun v G9 H9 s9 r => done v G9 H9 _ ((t7.trans s8).trans s9) r rfl
 | word hj5 =>
  have n0 : (decide (0 = j) || decide (3 = j)) = false := by rcases hj5 with rfl | rfl | rfl | rfl | rfl <;> decide
  rw [hb, n0, if_neg Bool.false_ne_true]
  refine raw_ifS t7.fr (env t7 m7) (kb := fun b => b = false) (ix (n := 7) (by decide) rfl (by rcases hj5 with rfl | rfl | rfl | rfl | rfl <;> decide)) fun b G8 H8 s8 hb8 => ?_
  rw [hb8, if_neg Bool.false_ne_true]
  have t8 := t7.trans s8
  dsimp only [tNext]
  refine raw_ret t8.fr (env t8 (m7.trans s8.exg)) (k := fun d => d = .str (kindW.getD j "")) ?_ ?_
  rotate_left
  ·exact fun v G9 H9 d9 s9 r hd => done v G9 H9 _ (t8.trans s9) r hd
  refine d_op (d_lst (d_cons (d_c rfl (d_cons (d_c rfl (d_cons (d_c rfl (d_cons (d_c rfl (d_cons (d_c rfl (d_cons (d_c rfl (d_cons (d_c rfl (d_nil ⟨by simp, ?_⟩))))))))))))))))
  refine d_indexB (d_var rfl ⟨bs, rfl, d_cons (d_c rfl (d_nil ⟨true, j, rfl, ?_, ?_, r_ix (.inl (r_ixL (d := .str (kindW.getD j "")) (atI_nat ?_) rfl))⟩))⟩)
  ·rw [hix j (by omega)]; simp
  ·intro m hm
   rw [hix m (by omega)]
   simp; omega
  ·rcases hj5 with rfl | rfl | rfl | rfl | rfl <;> rfl
end Pr
set_option Elab.async false
set_option linter.all false
set_option maxRecDepth 100000
set_option maxHeartbeats 4000000
namespace Pr
open PySem L2 PD
variable [Tabs]
abbrev s_law_deep : Stmt := top 70
abbrev N_law_deep : List Str := ["_law_tree_here", "_law_arm"]
theorem sc_law_deep : FnScope N_law_deep ["_law_tree_here"] (defScope s_law_deep) := ⟨rfl, rfl, rfl, by decide +kernel, rfl, by decide +kernel, by decide +kernel⟩
abbrev s_law_many : Stmt := top 71
abbrev N_law_many : List Str := ["_law_tree_here", "_law_arm"]
theorem sc_law_many : FnScope N_law_many ["_law_tree_here"] (defScope s_law_many) := ⟨rfl, rfl, rfl, by decide +kernel, rfl, by decide +kernel, by decide +kernel⟩
section
variable {P : Program} {w : World} {K : PySem.W.Frag} {mg : Str → Option Value} {base : Heap}
theorem tg_toT (t : Tr) : tgD t.toD = some .tup := by cases t <;> rfl
def M_ldeep (n : Nat) : List D → (D → Prop) → Prop := fun ds k => ∃ b : Tr, ds = [b.toD] ∧ b.depth ≤ n ∧ k (.int (b.depth : Nat))
theorem m_ldeep {n : Nat} {b : Tr} {k : D → Prop} (h1 : b.depth ≤ n) (h : k (.int (b.depth : Nat))) : M_ldeep n [b.toD] k := ⟨b, rfl, h1, h⟩
theorem ok_ldeep (F : DefT K mg "_law_deep" s_law_deep) (zs : mg "max" = none) (zi : mg "isinstance" = none) (zt : mg "tuple" = none) : ∀ n : Nat, Cal P w K mg base (n + 1) "_law_deep" ["_law_tree_here"] none (M_ldeep n) := by
 intro n
 induction n with
 | zero =>
  refine okF F sc_law_deep (fun _ _ _ _ _ _ us hl => match us, hl with | [_], _ => rfl) (fun ds k h => ?_) (fun f cdv A outer s H E ds kk hr h => ?_)
  ·obtain ⟨_, rfl, _⟩ := h
   rfl
  ·obtain ⟨b, _, h, _⟩ := h
   have := tdepth_pos b
   omega
 | succ n ih =>
  have C_law_deep := ih
  refine okF F sc_law_deep (fun _ _ _ _ _ _ us hl => match us, hl with | [_], _ => rfl) (fun ds k h => ?_) (fun f cdv A outer s H E ds kk hr h => ?_)
  ·obtain ⟨_, rfl, _⟩ := h
   rfl
  obtain ⟨b, rfl, hd, q⟩ := h
  have T : Unit := ()
  refine ⟨_, (pss_one (ps_ret (pe_op op_add pe_int (pe_callBK (id := "max") (r := PD.rMaxDf K) (PD.cr_maxDf rfl hr.units) (by rfl) zs (by decide +kernel) (pa_cons (pe_lc (own := [("_law_arm", 1)]) (g := gName 1) rfl sc_law_deep.nd (pi_tup (pv 0)) (blkOk_by (own := [("_law_arm", 1)]) (N := N_law_deep) (sc := defScope s_law_deep) (by decide +kernel)) (fun _ _ _ _ _ => (pg_name (i := 1) sc_law_deep.nd rfl (by first | exact Or.inl rfl | exact Or.inr rfl))) (fun _ _ _ _ _ => (pts_one (pt_val (pe_callB (r := rIsi K) (id := "isinstance")  call_isi (by rfl) zi (by decide +kernel) (pa_cons (pv 1) (pa_cons (pe_bty (n := "tuple") rfl zt (by decide +kernel)) pa_nil)))))) (fun _ _ _ _ _ => (pe_calK (K := K) rfl C_law_deep (hr.mono (by first | decide | omega)) rfl (pa_cons (pv 1) pa_nil)))) pa_nil) (pk_cons pe_int pk_nil))))), ?_⟩
  try dsimp only [cxOf]
  change dS _ _ _ [Sl.d _, Sl.un] _
  have fin : ∀ {i j : Int}, kk (.int i) → i = j → kk (.int j) := fun h e => e ▸ h
  cases b <;> simp only [Tr.depth] at hd <;> dsimp only [Tr.toD]
  refine s_ret (d_op (d_c (by with_unfolding_all rfl) ?_))
  refine d_maxDf (d_cons (d_lc (i_tup (d_var (by with_unfolding_all rfl) ?_))))
  refine ⟨_, rfl, ?_⟩
  (refine ⟨(show _ ≤ 50000 by simp), ?_⟩)
  with_reducible refine lcW_cons ?_
  refine g_nameV (by decide) ?_
  refine d_tB (d_cb (d_cons (d_var (by with_unfolding_all rfl) ?_)))
  refine d_cons (d_c (by with_unfolding_all rfl) ?_)
  refine d_nil (c_tup (by with_unfolding_all rfl) ?_)
  refine ⟨_, rfl, (br_f (by with_unfolding_all rfl) ?_)⟩
  with_reducible refine lcW_cons ?_
  refine g_nameV (by decide) ?_
  refine d_tB (d_cb (d_cons (d_var (by with_unfolding_all rfl) ?_)))
  refine d_cons (d_c (by with_unfolding_all rfl) ?_)
  refine d_nil (c_tup (by with_unfolding_all rfl) ?_)
  refine ⟨_, rfl, (br_f (by with_unfolding_all rfl) ?_)⟩
  with_reducible refine lcW_nil ?_
  refine d_nil (d_cons (d_c (by with_unfolding_all rfl) ?_))
  refine d_nil ?_
  dsimp only
  rotate_left
  refine s_ret (d_op (d_c (by with_unfolding_all rfl) ?_))
  refine d_maxDf (d_cons (d_lc (i_tup (d_var (by with_unfolding_all rfl) ?_))))
  refine ⟨_, rfl, ?_⟩
  (refine ⟨(show _ ≤ 50000 by simp), ?_⟩)
  with_reducible refine lcW_cons ?_
  refine g_nameV (by decide) ?_
  refine d_tB (d_cb (d_cons (d_var (by with_unfolding_all rfl) ?_)))
  refine d_cons (d_c (by with_unfolding_all rfl) ?_)
  refine d_nil (c_tup (by with_unfolding_all rfl) ?_)
  refine ⟨_, rfl, (br_f (by with_unfolding_all rfl) ?_)⟩
  with_reducible refine lcW_cons ?_
  refine g_nameV (by decide) ?_
  refine d_tB (d_cb (d_cons (d_var (by with_unfolding_all rfl) ?_)))
  refine d_cons (d_c (by with_unfolding_all rfl) ?_)
  refine d_nil ?_
  refine c_tup (tg_toT _) ⟨_, rfl, (br_t (by with_unfolding_all rfl) ?_)⟩
  refine d_call (d_cons (d_var (by with_unfolding_all rfl) ?_))
  refine d_nil (m_ldeep (by omega) ?_)
  with_reducible refine lcW_cons ?_
  refine g_nameV (by decide) ?_
  refine d_tB (d_cb (d_cons (d_var (by with_unfolding_all rfl) ?_)))
  refine d_cons (d_c (by with_unfolding_all rfl) ?_)
  refine d_nil ?_
  refine c_tup (tg_toT _) ⟨_, rfl, (br_t (by with_unfolding_all rfl) ?_)⟩
  refine d_call (d_cons (d_var (by with_unfolding_all rfl) ?_))
  refine d_nil (m_ldeep (by omega) ?_)
  with_reducible refine lcW_nil ?_
  refine d_nil (d_cons (d_c (by with_unfolding_all rfl) ?_))
  refine d_nil ?_
  dsimp only
  rotate_left
  refine s_ret (d_op (d_c (by with_unfolding_all rfl) ?_))
  refine d_maxDf (d_cons (d_lc (i_tup (d_var (by with_unfolding_all rfl) ?_))))
  refine ⟨_, rfl, ?_⟩
  (refine ⟨(show _ ≤ 50000 by simp), ?_⟩)
  with_reducible refine lcW_cons ?_
  refine g_nameV (by decide) ?_
  refine d_tB (d_cb (d_cons (d_var (by with_unfolding_all rfl) ?_)))
  refine d_cons (d_c (by with_unfolding_all rfl) ?_)
  refine d_nil (c_tup (by with_unfolding_all rfl) ?_)
  refine ⟨_, rfl, (br_f (by with_unfolding_all rfl) ?_)⟩
  with_reducible refine lcW_cons ?_
  refine g_nameV (by decide) ?_
  refine d_tB (d_cb (d_cons (d_var (by with_unfolding_all rfl) ?_)))
  refine d_cons (d_c (by with_unfolding_all rfl) ?_)
  refine d_nil ?_
  refine c_tup (tg_toT _) ⟨_, rfl, (br_t (by with_unfolding_all rfl) ?_)⟩
  refine d_call (d_cons (d_var (by with_unfolding_all rfl) ?_))
  refine d_nil (m_ldeep (by omega) ?_)
  with_reducible refine lcW_cons ?_
  refine g_nameV (by decide) ?_
  refine d_tB (d_cb (d_cons (d_var (by with_unfolding_all rfl) ?_)))
  refine d_cons (d_c (by with_unfolding_all rfl) ?_)
  refine d_nil (c_tup (by with_unfolding_all rfl) ?_)
  refine ⟨_, rfl, (br_f (by with_unfolding_all rfl) ?_)⟩
  with_reducible refine lcW_nil ?_
  refine d_nil (d_cons (d_c (by with_unfolding_all rfl) ?_))
  refine d_nil ?_
  dsimp only
  rotate_left
  refine s_ret (d_op (d_c (by with_unfolding_all rfl) ?_))
  refine d_maxDf (d_cons (d_lc (i_tup (d_var (by with_unfolding_all rfl) ?_))))
  refine ⟨_, rfl, ?_⟩
  (refine ⟨(show _ ≤ 50000 by simp), ?_⟩)
  with_reducible refine lcW_cons ?_
  refine g_nameV (by decide) ?_
  refine d_tB (d_cb (d_cons (d_var (by with_unfolding_all rfl) ?_)))
  refine d_cons (d_c (by with_unfolding_all rfl) ?_)
  refine d_nil (c_tup (by with_unfolding_all rfl) ?_)
  refine ⟨_, rfl, (br_f (by with_unfolding_all rfl) ?_)⟩
  with_reducible refine lcW_cons ?_
  refine g_nameV (by decide) ?_
  refine d_tB (d_cb (d_cons (d_var (by with_unfolding_all rfl) ?_)))
  refine d_cons (d_c (by with_unfolding_all rfl) ?_)
  refine d_nil ?_
  refine c_tup (tg_toT _) ⟨_, rfl, (br_t (by with_unfolding_all rfl) ?_)⟩
  refine d_call (d_cons (d_var (by with_unfolding_all rfl) ?_))
  refine d_nil (m_ldeep (by omega) ?_)
  with_reducible refine lcW_cons ?_
  refine g_nameV (by decide) ?_
  refine d_tB (d_cb (d_cons (d_var (by with_unfolding_all rfl) ?_)))
  refine d_cons (d_c (by with_unfolding_all rfl) ?_)
  refine d_nil (c_tup (by with_unfolding_all rfl) ?_)
  refine ⟨_, rfl, (br_f (by with_unfolding_all rfl) ?_)⟩
  with_reducible refine lcW_cons ?_
  refine g_nameV (by decide) ?_
  refine d_tB (d_cb (d_cons (d_var (by with_unfolding_all rfl) ?_)))
  refine d_cons (d_c (by with_unfolding_all rfl) ?_)
  refine d_nil (c_tup (by with_unfolding_all rfl) ?_)
  refine ⟨_, rfl, (br_f (by with_unfolding_all rfl) ?_)⟩
  with_reducible refine lcW_nil ?_
  refine d_nil (d_cons (d_c (by with_unfolding_all rfl) ?_))
  refine d_nil ?_
  dsimp only
  rotate_left
  refine s_ret (d_op (d_c (by with_unfolding_all rfl) ?_))
  refine d_maxDf (d_cons (d_lc (i_tup (d_var (by with_unfolding_all rfl) ?_))))
  refine ⟨_, rfl, ?_⟩
  (refine ⟨(show _ ≤ 50000 by simp), ?_⟩)
  with_reducible refine lcW_cons ?_
  refine g_nameV (by decide) ?_
  refine d_tB (d_cb (d_cons (d_var (by with_unfolding_all rfl) ?_)))
  refine d_cons (d_c (by with_unfolding_all rfl) ?_)
  refine d_nil (c_tup (by with_unfolding_all rfl) ?_)
  refine ⟨_, rfl, (br_f (by with_unfolding_all rfl) ?_)⟩
  with_reducible refine lcW_cons ?_
  refine g_nameV (by decide) ?_
  refine d_tB (d_cb (d_cons (d_var (by with_unfolding_all rfl) ?_)))
  refine d_cons (d_c (by with_unfolding_all rfl) ?_)
  refine d_nil ?_
  refine c_tup (tg_toT _) ⟨_, rfl, (br_t (by with_unfolding_all rfl) ?_)⟩
  refine d_call (d_cons (d_var (by with_unfolding_all rfl) ?_))
  refine d_nil (m_ldeep (by omega) ?_)
  with_reducible refine lcW_cons ?_
  refine g_nameV (by decide) ?_
  refine d_tB (d_cb (d_cons (d_var (by with_unfolding_all rfl) ?_)))
  refine d_cons (d_c (by with_unfolding_all rfl) ?_)
  refine d_nil (c_tup (by with_unfolding_all rfl) ?_)
  refine ⟨_, rfl, (br_f (by with_unfolding_all rfl) ?_)⟩
  with_reducible refine lcW_cons ?_
  refine g_nameV (by decide) ?_
  refine d_tB (d_cb (d_cons (d_var (by with_unfolding_all rfl) ?_)))
  refine d_cons (d_c (by with_unfolding_all rfl) ?_)
  refine d_nil (c_tup (by with_unfolding_all rfl) ?_)
  refine ⟨_, rfl, (br_f (by with_unfolding_all rfl) ?_)⟩
  with_reducible refine lcW_nil ?_
  refine d_nil (d_cons (d_c (by with_unfolding_all rfl) ?_))
  refine d_nil ?_
  dsimp only
  rotate_left
  refine s_ret (d_op (d_c (by with_unfolding_all rfl) ?_))
  refine d_maxDf (d_cons (d_lc (i_tup (d_var (by with_unfolding_all rfl) ?_))))
  refine ⟨_, rfl, ?_⟩
  (refine ⟨(show _ ≤ 50000 by simp), ?_⟩)
  with_reducible refine lcW_cons ?_
  refine g_nameV (by decide) ?_
  refine d_tB (d_cb (d_cons (d_var (by with_unfolding_all rfl) ?_)))
  refine d_cons (d_c (by with_unfolding_all rfl) ?_)
  refine d_nil (c_tup (by with_unfolding_all rfl) ?_)
  refine ⟨_, rfl, (br_f (by with_unfolding_all rfl) ?_)⟩
  with_reducible refine lcW_cons ?_
  refine g_nameV (by decide) ?_
  refine d_tB (d_cb (d_cons (d_var (by with_unfolding_all rfl) ?_)))
  refine d_cons (d_c (by with_unfolding_all rfl) ?_)
  refine d_nil ?_
  refine c_tup (tg_toT _) ⟨_, rfl, (br_t (by with_unfolding_all rfl) ?_)⟩
  refine d_call (d_cons (d_var (by with_unfolding_all rfl) ?_))
  refine d_nil (m_ldeep (by omega) ?_)
  with_reducible refine lcW_cons ?_
  refine g_nameV (by decide) ?_
  refine d_tB (d_cb (d_cons (d_var (by with_unfolding_all rfl) ?_)))
  refine d_cons (d_c (by with_unfolding_all rfl) ?_)
  refine d_nil (c_tup (by with_unfolding_all rfl) ?_)
  refine ⟨_, rfl, (br_f (by with_unfolding_all rfl) ?_)⟩
  with_reducible refine lcW_nil ?_
  refine d_nil (d_cons (d_c (by with_unfolding_all rfl) ?_))
  refine d_nil ?_
  dsimp only
  rotate_left
  all_goals first
   | exact ⟨[], 0, rfl, rfl, r_I0 rfl (fin q (by simp [Tr.depth, bigOf]))⟩
   | exact ⟨[_], 0, rfl, rfl, r_I0 rfl (fin q (by simp [Tr.depth, bigOf]; omega))⟩
   | exact ⟨[_, _], 0, rfl, rfl, r_I0 rfl (fin q (by simp [Tr.depth, bigOf]; omega))⟩
   | exact ⟨[_, _, _], 0, rfl, rfl, r_I0 rfl (fin q (by simp [Tr.depth, bigOf]; omega))⟩
   | trace_state
def M_lmany (n : Nat) : List D → (D → Prop) → Prop := fun ds k => ∃ b : Tr, ds = [b.toD] ∧ b.depth ≤ n ∧ b.size ≤ 1000 ∧ k (.int (b.size : Nat))
theorem m_lmany {n : Nat} {b : Tr} {k : D → Prop} (h1 : b.depth ≤ n) (h2 : b.size ≤ 1000) (h : k (.int (b.size : Nat))) : M_lmany n [b.toD] k := ⟨b, rfl, h1, h2, h⟩
theorem ok_lmany (F : DefT K mg "_law_many" s_law_many) (zs : mg "sum" = none) (zi : mg "isinstance" = none) (zt : mg "tuple" = none) : ∀ n : Nat, Cal P w K mg base (n + 1) "_law_many" ["_law_tree_here"] none (M_lmany n) := by
 intro n
 induction n with
 | zero =>
  refine okF F sc_law_many (fun _ _ _ _ _ _ us hl => match us, hl with | [_], _ => rfl) (fun ds k h => ?_) (fun f cdv A outer s H E ds kk hr h => ?_)
  ·obtain ⟨_, rfl, _⟩ := h
   rfl
  ·obtain ⟨b, _, h, _⟩ := h
   have := tdepth_pos b
   omega
 | succ n ih =>
  have C_law_many := ih
  refine okF F sc_law_many (fun _ _ _ _ _ _ us hl => match us, hl with | [_], _ => rfl) (fun ds k h => ?_) (fun f cdv A outer s H E ds kk hr h => ?_)
  ·obtain ⟨_, rfl, _⟩ := h
   rfl
  obtain ⟨b, rfl, hd, hz, q⟩ := h
  have T : Unit := ()
  refine ⟨_, (pss_one (ps_ret (pe_op op_add pe_int (pe_callB (r := rSum K) (id := "sum")  (cr_sum rfl) (by rfl) zs (by decide +kernel) (pa_cons (pe_lc (own := [("_law_arm", 1)]) (g := gName 1) rfl sc_law_many.nd (pi_tup (pv 0)) (blkOk_by (own := [("_law_arm", 1)]) (N := N_law_many) (sc := defScope s_law_many) (by decide +kernel)) (fun _ _ _ _ _ => (pg_name (i := 1) sc_law_many.nd rfl (by first | exact Or.inl rfl | exact Or.inr rfl))) (fun _ _ _ _ _ => (pts_one (pt_val (pe_callB (r := rIsi K) (id := "isinstance")  call_isi (by rfl) zi (by decide +kernel) (pa_cons (pv 1) (pa_cons (pe_bty (n := "tuple") rfl zt (by decide +kernel)) pa_nil)))))) (fun _ _ _ _ _ => (pe_calK (K := K) rfl C_law_many (hr.mono (by first | decide | omega)) rfl (pa_cons (pv 1) pa_nil)))) pa_nil))))), ?_⟩
  try dsimp only [cxOf]
  change dS _ _ _ [Sl.d _, Sl.un] _
  have fin : ∀ {i j : Int}, kk (.int i) → i = j → kk (.int j) := fun h e => e ▸ h
  cases b <;> simp only [Tr.depth] at hd <;> simp only [Tr.size] at hz <;> dsimp only [Tr.toD]
  refine s_ret (d_op (d_c (by with_unfolding_all rfl) ?_))
  refine d_cb (d_cons (d_lc (i_tup (d_var (by with_unfolding_all rfl) ?_))))
  refine ⟨_, rfl, ?_⟩
  (refine ⟨(show _ ≤ 50000 by simp), ?_⟩)
  with_reducible refine lcW_cons ?_
  refine g_nameV (by decide) ?_
  refine d_tB (d_cb (d_cons (d_var (by with_unfolding_all rfl) ?_)))
  refine d_cons (d_c (by with_unfolding_all rfl) ?_)
  refine d_nil (c_tup (by with_unfolding_all rfl) ?_)
  refine ⟨_, rfl, (br_f (by with_unfolding_all rfl) ?_)⟩
  with_reducible refine lcW_cons ?_
  refine g_nameV (by decide) ?_
  refine d_tB (d_cb (d_cons (d_var (by with_unfolding_all rfl) ?_)))
  refine d_cons (d_c (by with_unfolding_all rfl) ?_)
  refine d_nil (c_tup (by with_unfolding_all rfl) ?_)
  refine ⟨_, rfl, (br_f (by with_unfolding_all rfl) ?_)⟩
  with_reducible refine lcW_nil ?_
  refine d_nil ?_
  dsimp only
  rotate_left
  refine s_ret (d_op (d_c (by with_unfolding_all rfl) ?_))
  refine d_cb (d_cons (d_lc (i_tup (d_var (by with_unfolding_all rfl) ?_))))
  refine ⟨_, rfl, ?_⟩
  (refine ⟨(show _ ≤ 50000 by simp), ?_⟩)
  with_reducible refine lcW_cons ?_
  refine g_nameV (by decide) ?_
  refine d_tB (d_cb (d_cons (d_var (by with_unfolding_all rfl) ?_)))
  refine d_cons (d_c (by with_unfolding_all rfl) ?_)
  refine d_nil (c_tup (by with_unfolding_all rfl) ?_)
  refine ⟨_, rfl, (br_f (by with_unfolding_all rfl) ?_)⟩
  with_reducible refine lcW_cons ?_
  refine g_nameV (by decide) ?_
  refine d_tB (d_cb (d_cons (d_var (by with_unfolding_all rfl) ?_)))
  refine d_cons (d_c (by with_unfolding_all rfl) ?_)
  refine d_nil ?_
  refine c_tup (tg_toT _) ⟨_, rfl, (br_t (by with_unfolding_all rfl) ?_)⟩
  refine d_call (d_cons (d_var (by with_unfolding_all rfl) ?_))
  refine d_nil (m_lmany (by omega) (by omega) ?_)
  with_reducible refine lcW_cons ?_
  refine g_nameV (by decide) ?_
  refine d_tB (d_cb (d_cons (d_var (by with_unfolding_all rfl) ?_)))
  refine d_cons (d_c (by with_unfolding_all rfl) ?_)
  refine d_nil ?_
  refine c_tup (tg_toT _) ⟨_, rfl, (br_t (by with_unfolding_all rfl) ?_)⟩
  refine d_call (d_cons (d_var (by with_unfolding_all rfl) ?_))
  refine d_nil (m_lmany (by omega) (by omega) ?_)
  with_reducible refine lcW_nil ?_
  refine d_nil ?_
  dsimp only
  rotate_left
  refine s_ret (d_op (d_c (by with_unfolding_all rfl) ?_))
  refine d_cb (d_cons (d_lc (i_tup (d_var (by with_unfolding_all rfl) ?_))))
  refine ⟨_, rfl, ?_⟩
  (refine ⟨(show _ ≤ 50000 by simp), ?_⟩)
  with_reducible refine lcW_cons ?_
  refine g_nameV (by decide) ?_
  refine d_tB (d_cb (d_cons (d_var (by with_unfolding_all rfl) ?_)))
  refine d_cons (d_c (by with_unfolding_all rfl) ?_)
  refine d_nil (c_tup (by with_unfolding_all rfl) ?_)
  refine ⟨_, rfl, (br_f (by with_unfolding_all rfl) ?_)⟩
  with_reducible refine lcW_cons ?_
  refine g_nameV (by decide) ?_
  refine d_tB (d_cb (d_cons (d_var (by with_unfolding_all rfl) ?_)))
  refine d_cons (d_c (by with_unfolding_all rfl) ?_)
  refine d_nil ?_
  refine c_tup (tg_toT _) ⟨_, rfl, (br_t (by with_unfolding_all rfl) ?_)⟩
  refine d_call (d_cons (d_var (by with_unfolding_all rfl) ?_))
  refine d_nil (m_lmany (by omega) (by omega) ?_)
  with_reducible refine lcW_cons ?_
  refine g_nameV (by decide) ?_
  refine d_tB (d_cb (d_cons (d_var (by with_unfolding_all rfl) ?_)))
  refine d_cons (d_c (by with_unfolding_all rfl) ?_)
  refine d_nil (c_tup (by with_unfolding_all rfl) ?_)
  refine ⟨_, rfl, (br_f (by with_unfolding_all rfl) ?_)⟩
  with_reducible refine lcW_nil ?_
  refine d_nil ?_
  dsimp only
  rotate_left
  refine s_ret (d_op (d_c (by with_unfolding_all rfl) ?_))
  refine d_cb (d_cons (d_lc (i_tup (d_var (by with_unfolding_all rfl) ?_))))
  refine ⟨_, rfl, ?_⟩
  (refine ⟨(show _ ≤ 50000 by simp), ?_⟩)
  with_reducible refine lcW_cons ?_
  refine g_nameV (by decide) ?_
  refine d_tB (d_cb (d_cons (d_var (by with_unfolding_all rfl) ?_)))
  refine d_cons (d_c (by with_unfolding_all rfl) ?_)
  refine d_nil (c_tup (by with_unfolding_all rfl) ?_)
  refine ⟨_, rfl, (br_f (by with_unfolding_all rfl) ?_)⟩
  with_reducible refine lcW_cons ?_
  refine g_nameV (by decide) ?_
  refine d_tB (d_cb (d_cons (d_var (by with_unfolding_all rfl) ?_)))
  refine d_cons (d_c (by with_unfolding_all rfl) ?_)
  refine d_nil ?_
  refine c_tup (tg_toT _) ⟨_, rfl, (br_t (by with_unfolding_all rfl) ?_)⟩
  refine d_call (d_cons (d_var (by with_unfolding_all rfl) ?_))
  refine d_nil (m_lmany (by omega) (by omega) ?_)
  with_reducible refine lcW_cons ?_
  refine g_nameV (by decide) ?_
  refine d_tB (d_cb (d_cons (d_var (by with_unfolding_all rfl) ?_)))
  refine d_cons (d_c (by with_unfolding_all rfl) ?_)
  refine d_nil (c_tup (by with_unfolding_all rfl) ?_)
  refine ⟨_, rfl, (br_f (by with_unfolding_all rfl) ?_)⟩
  with_reducible refine lcW_cons ?_
  refine g_nameV (by decide) ?_
  refine d_tB (d_cb (d_cons (d_var (by with_unfolding_all rfl) ?_)))
  refine d_cons (d_c (by with_unfolding_all rfl) ?_)
  refine d_nil (c_tup (by with_unfolding_all rfl) ?_)
  refine ⟨_, rfl, (br_f (by with_unfolding_all rfl) ?_)⟩
  with_reducible refine lcW_nil ?_
  refine d_nil ?_
  dsimp only
  rotate_left
  refine s_ret (d_op (d_c (by with_unfolding_all rfl) ?_))
  refine d_cb (d_cons (d_lc (i_tup (d_var (by with_unfolding_all rfl) ?_))))
  refine ⟨_, rfl, ?_⟩
  (refine ⟨(show _ ≤ 50000 by simp), ?_⟩)
  with_reducible refine lcW_cons ?_
  refine g_nameV (by decide) ?_
  refine d_tB (d_cb (d_cons (d_var (by with_unfolding_all rfl) ?_)))
  refine d_cons (d_c (by with_unfolding_all rfl) ?_)
  refine d_nil (c_tup (by with_unfolding_all rfl) ?_)
  refine ⟨_, rfl, (br_f (by with_unfolding_all rfl) ?_)⟩
  with_reducible refine lcW_cons ?_
  refine g_nameV (by decide) ?_
  refine d_tB (d_cb (d_cons (d_var (by with_unfolding_all rfl) ?_)))
  refine d_cons (d_c (by with_unfolding_all rfl) ?_)
  refine d_nil ?_
  refine c_tup (tg_toT _) ⟨_, rfl, (br_t (by with_unfolding_all rfl) ?_)⟩
  refine d_call (d_cons (d_var (by with_unfolding_all rfl) ?_))
  refine d_nil (m_lmany (by omega) (by omega) ?_)
  with_reducible refine lcW_cons ?_
  refine g_nameV (by decide) ?_
  refine d_tB (d_cb (d_cons (d_var (by with_unfolding_all rfl) ?_)))
  refine d_cons (d_c (by with_unfolding_all rfl) ?_)
  refine d_nil (c_tup (by with_unfolding_all rfl) ?_)
  refine ⟨_, rfl, (br_f (by with_unfolding_all rfl) ?_)⟩
  with_reducible refine lcW_cons ?_
  refine g_nameV (by decide) ?_
  refine d_tB (d_cb (d_cons (d_var (by with_unfolding_all rfl) ?_)))
  refine d_cons (d_c (by with_unfolding_all rfl) ?_)
  refine d_nil (c_tup (by with_unfolding_all rfl) ?_)
  refine ⟨_, rfl, (br_f (by with_unfolding_all rfl) ?_)⟩
  with_reducible refine lcW_nil ?_
  refine d_nil ?_
  dsimp only
  rotate_left
  refine s_ret (d_op (d_c (by with_unfolding_all rfl) ?_))
  refine d_cb (d_cons (d_lc (i_tup (d_var (by with_unfolding_all rfl) ?_))))
  refine ⟨_, rfl, ?_⟩
  (refine ⟨(show _ ≤ 50000 by simp), ?_⟩)
  with_reducible refine lcW_cons ?_
  refine g_nameV (by decide) ?_
  refine d_tB (d_cb (d_cons (d_var (by with_unfolding_all rfl) ?_)))
  refine d_cons (d_c (by with_unfolding_all rfl) ?_)
  refine d_nil (c_tup (by with_unfolding_all rfl) ?_)
  refine ⟨_, rfl, (br_f (by with_unfolding_all rfl) ?_)⟩
  with_reducible refine lcW_cons ?_
  refine g_nameV (by decide) ?_
  refine d_tB (d_cb (d_cons (d_var (by with_unfolding_all rfl) ?_)))
  refine d_cons (d_c (by with_unfolding_all rfl) ?_)
  refine d_nil ?_
  refine c_tup (tg_toT _) ⟨_, rfl, (br_t (by with_unfolding_all rfl) ?_)⟩
  refine d_call (d_cons (d_var (by with_unfolding_all rfl) ?_))
  refine d_nil (m_lmany (by omega) (by omega) ?_)
  with_reducible refine lcW_cons ?_
  refine g_nameV (by decide) ?_
  refine d_tB (d_cb (d_cons (d_var (by with_unfolding_all rfl) ?_)))
  refine d_cons (d_c (by with_unfolding_all rfl) ?_)
  refine d_nil (c_tup (by with_unfolding_all rfl) ?_)
  refine ⟨_, rfl, (br_f (by with_unfolding_all rfl) ?_)⟩
  with_reducible refine lcW_nil ?_
  refine d_nil ?_
  dsimp only
  rotate_left
  all_goals first
   | exact c_sum (ns := []) (r_I0 rfl (fin q (by simp [Tr.size])))
   | exact c_sum (ns := [_]) (r_I0 rfl (fin q (by simp [Tr.size]; omega)))
   | exact c_sum (ns := [_, _]) (r_I0 rfl (fin q (by simp [Tr.size]; omega)))
   | trace_state
end
end Pr
set_option Elab.async false
set_option linter.all false
set_option maxRecDepth 100000
set_option maxHeartbeats 2000000
namespace Pr
open PySem L2 PD
variable [Tabs]
abbrev s_law_from : Stmt := top 69
abbrev N_law_from : List Str := ["_law_words", "_law_at", "_law_shapes", "_law_found", "_law_here", "_law_sort", "_law_inner"]
theorem sc_law_from : FnScope N_law_from ["_law_words", "_law_at"] (defScope s_law_from) := ⟨rfl, rfl, rfl, by decide +kernel, rfl, by decide +kernel, by decide +kernel⟩
def shapesD : List (Str × D) := [("part", .str "p"), ("with", .str "tt"), ("without", .str "td"), ("also", .str "tdd"), ("renamed", .str "tdd"), ("over", .str "tp")]
def sortC (c : Str) : Str := if c = "t" then "nest" else if c = "p" then "part" else "deed"
theorem shape_of : ∀ p ∈ treeTab, ∃ (z : Str) (cs : List Str), lookD shapesD p.1 = some (.str z) ∧ z.cps.toList.map sgn = strsOf cs ∧ cs.map sortC = p.2 ∧ (∀ c ∈ cs, c = "t" ∨ c = "p" ∨ c = "d") ∧ cs.length ≤ 3 := by
 intro p hp
 have one : ∀ (z : Str) (cs : List Str), (z.cps.toList.map fun c => (⟨#[c]⟩ : Str)) = cs → z.cps.toList.map sgn = strsOf cs := fun z cs e => by
  unfold strsOf
  rw [← e, List.map_map]
  rfl
 simp only [treeTab, List.mem_cons, List.not_mem_nil, or_false] at hp
 rcases hp with rfl | rfl | rfl | rfl | rfl | rfl
 ·exact ⟨"p", ["p"], rfl, one _ _ (by decide +kernel), by decide, by decide, by decide⟩
 ·exact ⟨"tt", ["t", "t"], rfl, one _ _ (by decide +kernel), by decide, by decide, by decide⟩
 ·exact ⟨"td", ["t", "d"], rfl, one _ _ (by decide +kernel), by decide, by decide, by decide⟩
 ·exact ⟨"tdd", ["t", "d", "d"], rfl, one _ _ (by decide +kernel), by decide, by decide, by decide⟩
 ·exact ⟨"tdd", ["t", "d", "d"], rfl, one _ _ (by decide +kernel), by decide, by decide, by decide⟩
 ·exact ⟨"tp", ["t", "p"], rfl, one _ _ (by decide +kernel), by decide, by decide, by decide⟩
theorem shape_no {x : Str} (h : lookS treeTab x = none) : (lookD shapesD x).isSome = false := by
 have h := tab_no h
 simp only [treeTab, List.map_cons, List.map_nil, List.mem_cons, List.not_mem_nil, or_false, not_or] at h
 obtain ⟨h1, h2, h3, h4, h5, h6⟩ := h
 unfold lookD shapesD
 simp [Ne.symm h1, Ne.symm h2, Ne.symm h3, Ne.symm h4, Ne.symm h5, Ne.symm h6]
theorem abc6 : (("ABCDEF" : Str).cps.toList.map sgn) = strsOf partsS := by
 have e : (("ABCDEF" : Str).cps.toList.map fun c => (⟨#[c]⟩ : Str)) = partsS := by decide +kernel
 unfold strsOf
 rw [← e, List.map_map]
 rfl
def orN : Option D → D
 | none => .non
 | some d => d
def fromD (W : List Str) (p : Option D × List Str) : D := .tup [orN p.1, .int ((W.length - p.2.length : Nat) : Int)]
section
variable {P : Program} {w : World} {K : PySem.W.Frag} {mg : Str → Option Value} {base : Heap}
theorem take_suf {W p r : List Str} (h : W = p ++ r) : W = W.take (W.length - r.length) ++ r ∧ (W.length - r.length) + r.length = W.length := by
 have hl : W.length = p.length + r.length := by rw [h, List.length_append]
 have e : W.length - r.length = p.length := by omega
 rw [e]
 refine ⟨?_, by omega⟩
 conv => lhs; rw [h]
 rw [h, List.take_left]
def M_from (n : Nat) : List D → (D → Prop) → Prop := fun ds k => ∃ (W ws : List Str) (a : Nat), ds = [.lst (strsOf W), .int (a : Int)] ∧ W.length ≤ 1000 ∧ W = W.take a ++ ws ∧ a + ws.length = W.length ∧ ws.length + 1 ≤ n ∧ k (fromD W (frm n ws))
theorem ok_from (F : DefT K mg "_law_from" s_law_from) (zl : mg "len" = none) (zm : mg "min" = none) (zi : mg "list" = none) : ∀ n : Nat, Cal P w K mg base (n + 1) "_law_from" ["_law_words", "_law_at"] none (M_from n) := by
 intro n
 induction n with
 | zero =>
  refine okF F sc_law_from (fun _ _ _ _ _ _ us hl => match us, hl with | [_, _], _ => rfl) (fun ds k h => ?_) (fun f cdv A outer s H E ds kk hr h => ?_)
  ·obtain ⟨_, _, _, rfl, _⟩ := h
   rfl
  ·obtain ⟨_, _, _, _, _, _, _, h, _⟩ := h
   omega
 | succ n ih =>
  have C_law_from := ih
  refine okF F sc_law_from (fun _ _ _ _ _ _ us hl => match us, hl with | [_, _], _ => rfl) (fun ds k h => ?_) (fun f cdv A outer s H E ds kk hr h => ?_)
  ·obtain ⟨_, _, _, rfl, _⟩ := h
   rfl
  obtain ⟨W, ws, a, rfl, hW, eW, ha, hn, q⟩ := h
  have hu := hu_of hr
  have T : Unit := ()
  refine ⟨_, (pss_cons (ps_set (i := 2) sc_law_from.nd rfl (by first | exact Or.inl rfl | exact Or.inr rfl) (pe_frz (pe_disp (pps_cons pe_str pe_str (pps_cons pe_str pe_str (pps_cons pe_str pe_str (pps_cons pe_str pe_str (pps_cons pe_str pe_str (pps_cons pe_str pe_str pps_nil)))))) (by rfl) (by rfl) (fun z => by cases z) (by decide))))
   (pss_cons (ps_if (PW.pt (pw_or (pt_cmpR op_ge (pv 1) (pe_callB (r := rLenQ K) (id := "len")  call_len_seq (by rfl) zl PySem.boot_len (pa_cons (pv 0) pa_nil)) (nomark _)) (pw_or1 (pt_cmp (pc_dnotin hu (pe_ix (r := rIx K) ix_seq (pv 0) (pv 1) (fun _ _ => rfl)) (pv 2)))))) (pss_one (ps_ret (pe_tup (pa_cons pe_non (pa_cons (pe_callB  (call_min2 rfl) (by rfl) zm (by decide +kernel) (pa_cons (pv 1) (pa_cons (pe_callB (r := rLenQ K) (id := "len")  call_len_seq (by rfl) zl PySem.boot_len (pa_cons (pv 0) pa_nil)) pa_nil))) pa_nil))))) pss_nil)
   (pss_cons (ps_set (i := 3) sc_law_from.nd rfl (by first | exact Or.inl rfl | exact Or.inr rfl) (pe_tup (pa_cons (pe_ix (r := rIx K) ix_seq (pv 0) (pv 1) (fun _ _ => rfl)) pa_nil)))
   (pss_cons (ps_set (i := 4) sc_law_from.nd rfl (by first | exact Or.inl rfl | exact Or.inr rfl) (pe_op op_add (pv 1) pe_int))
   (pss_cons (ps_for PassesOwn.never rfl (pi_str (pe_dget hu (pv 2) (pe_ix (r := rIx K) ix_seq (pv 0) (pv 1) (fun _ _ => rfl)) (fun _ _ => rfl))) (pg_name (i := 5) sc_law_from.nd rfl (by first | exact Or.inl rfl | exact Or.inr rfl)) (pss_one (ps_if (pt_cmpR op_eq (pv 5) pe_str (nomark _)) (pss_cons (ps_asg (pe_calK (K := K) rfl C_law_from (hr.mono (by first | decide | omega)) rfl (pa_cons (pv 0) (pa_cons (pv 4) pa_nil))) (pg_tupK (K := K) (n := 2) rfl rfl (pgs_cons (pg_name (i := 6) sc_law_from.nd rfl (by first | exact Or.inl rfl | exact Or.inr rfl)) (pgs_cons (pg_name (i := 4) sc_law_from.nd rfl (by first | exact Or.inl rfl | exact Or.inr rfl)) pgs_nil))))
   (pss_cons (ps_if (pt_cmpR op_isN (pv 6) pe_non (nomark _)) (pss_one (ps_ret (pe_tup (pa_cons pe_non (pa_cons (pv 4) pa_nil))))) pss_nil)
   (pss_one (ps_set (i := 3) sc_law_from.nd rfl (by first | exact Or.inl rfl | exact Or.inr rfl) (pe_op (r := rCatA K) op_catA (pv 3) (pe_tup (pa_cons (pv 6) pa_nil))))))) (pss_cons (ps_if (PW.pt (pw_or (pt_cmpR op_ge (pv 4) (pe_callB (r := rLenQ K) (id := "len")  call_len_seq (by rfl) zl PySem.boot_len (pa_cons (pv 0) pa_nil)) (nomark _)) (pw_or1 (pt_cmpR (r := rIn K true) op_notIn_seq (pe_ix (r := rIx K) ix_seq (pv 0) (pv 4) (fun _ _ => rfl)) (pe_callTy (r := PD.rListStr) (T := "list")  (PD.cr_listStr rfl) (by rfl) zi (by decide +kernel) (pa_cons (pe_dget hu (pe_frz (pe_disp (pps_cons pe_str pe_str (pps_cons pe_str pe_str pps_nil)) (by rfl) (by rfl) (fun z => by cases z) (by decide))) (pv 5) (fun _ _ => rfl)) pa_nil)) rfl)))) (pss_one (ps_ret (pe_tup (pa_cons pe_non (pa_cons (pe_callB  (call_min2 rfl) (by rfl) zm (by decide +kernel) (pa_cons (pv 4) (pa_cons (pe_callB (r := rLenQ K) (id := "len")  call_len_seq (by rfl) zl PySem.boot_len (pa_cons (pv 0) pa_nil)) pa_nil))) pa_nil))))) pss_nil)
   (pss_cons (ps_set (i := 3) sc_law_from.nd rfl (by first | exact Or.inl rfl | exact Or.inr rfl) (pe_op (r := rCatA K) op_catA (pv 3) (pe_tup (pa_cons (pe_ix (r := rIx K) ix_seq (pv 0) (pv 4) (fun _ _ => rfl)) pa_nil))))
   (pss_one (ps_set (i := 4) sc_law_from.nd rfl (by first | exact Or.inl rfl | exact Or.inr rfl) (pe_op op_add (pv 4) pe_int))))))))
   (pss_one (ps_ret (pe_tup (pa_cons (pv 3) (pa_cons (pv 4) pa_nil)))))))))), ?_⟩
  try dsimp only [cxOf]
  change dS _ _ _ [Sl.d _, Sl.d _, Sl.un, Sl.un, Sl.un, Sl.un, Sl.un] _
  have sl : (strsOf W).length = W.length := by simp [strsOf]
  have at_ : ∀ {b : Nat} {x : Str} {r : List Str}, W = W.take b ++ x :: r → b + (x :: r).length = W.length → atI (strsOf W) ((b : Nat) : Int) = some (.str x) := fun {b x r} e1 e2 => by
   refine atI_nat ?_
   have hb : b < W.length := by rw [List.length_cons] at e2; omega
   have hx : W[b]? = some x := by
    rw [e1, List.getElem?_append_right (by rw [List.length_take]; omega), List.length_take, Nat.min_eq_left (by omega), Nat.sub_self]
    rfl
   unfold strsOf
   rw [List.getElem?_map, hx]
   rfl
  have em : mergeD [] [("part", D.str "p"), ("with", .str "tt"), ("without", .str "td"), ("also", .str "tdd"), ("renamed", .str "tdd"), ("over", .str "tp")] = shapesD := by rfl
  refine s_seq (s_set (d_disp (dP_cons (d_c rfl ⟨_, rfl, d_c rfl (dP_cons (d_c rfl ⟨_, rfl, d_c rfl (dP_cons (d_c rfl ⟨_, rfl, d_c rfl (dP_cons (d_c rfl ⟨_, rfl, d_c rfl (dP_cons (d_c rfl ⟨_, rfl, d_c rfl (dP_cons (d_c rfl ⟨_, rfl, d_c rfl (dP_nil ⟨by simp, ?_⟩)⟩))⟩))⟩))⟩))⟩))⟩))))
  rw [em]
  cases ws with
  | nil =>
   rw [List.length_nil] at ha
   have q : kk (.tup [.non, .int (a : Int)]) := by
    have e : W.length - ([] : List Str).length = a := by rw [List.length_nil]; omega
    unfold frm fromD at q
    rw [e] at q
    exact q
   refine s_seq (s_if (d_or (d_test (d_op (d_var rfl (d_cb (d_cons (d_var rfl (d_nil (c_lenS (.inl rfl) (r_I0 rfl ⟨_, rfl, fun _ => ⟨fun _ => ?_, fun e => (by cases e)⟩, fun e => ?_⟩)))))))))))
   ·refine s_ret (d_tup (d_cons (d_c rfl (d_cons (d_cb (d_cons (d_var rfl (d_cons (d_cb (d_cons (d_var rfl (d_nil (c_lenS (.inl rfl) (d_nil (c_min2 (d_nil ⟨by simp, ?_⟩))))))))))))))))
    rw [sl, show (if ((W.length : Nat) : Int) < ((a : Nat) : Int) then ((W.length : Nat) : Int) else (a : Int)) = (a : Int) from by split <;> omega]
    exact q
   ·exfalso
    have := of_decide_eq_false e
    rw [sl] at this
    omega
  | cons x ws =>
   have hx := at_ eW ha
   rw [List.length_cons] at ha hn
   refine s_seq (s_if (d_or (d_test (d_op (d_var rfl (d_cb (d_cons (d_var rfl (d_nil (c_lenS (.inl rfl) (r_I0 rfl ⟨_, rfl, fun e => ?_, fun _ => ?_⟩)))))))))))
   ·exfalso
    have := of_decide_eq_true e
    rw [sl] at this
    omega
   refine d_test (d_dnotin (d_op (d_var rfl (d_var rfl (r_ix (.inl (r_ixL hx (d_var rfl ⟨_, _, rfl, rfl, _, rfl, ?_⟩))))))))
   cases el : lookS treeTab x with
   | none =>
    rw [shape_no el]
    refine ⟨fun _ => ?_, fun e => (by cases e)⟩
    refine s_ret (d_tup (d_cons (d_c rfl (d_cons (d_cb (d_cons (d_var rfl (d_cons (d_cb (d_cons (d_var rfl (d_nil (c_lenS (.inl rfl) (d_nil (c_min2 (d_nil ⟨by simp, ?_⟩))))))))))))))))
    rw [sl, show (if ((W.length : Nat) : Int) < ((a : Nat) : Int) then ((W.length : Nat) : Int) else (a : Int)) = (a : Int) from by split <;> omega]
    rw [frm, el] at q
    have e : W.length - (x :: ws).length = a := by rw [List.length_cons]; omega
    unfold fromD at q
    simp only [e] at q
    exact q
   | some ss =>
    obtain ⟨z, cs, lk, ez, ec, hc, hc3⟩ := shape_of _ (tab_in el)
    rw [show (lookD shapesD x).isSome = true from by rw [lk]; rfl]
    refine ⟨fun e => (by cases e), fun _ => s_next ?_⟩
    refine s_seq (s_set (d_tup (d_cons (d_op (d_var rfl (d_var rfl (r_ix (.inl (r_ixL hx (d_nil ⟨by simp, ?_⟩))))))))))
    refine s_seq (s_set (d_op (d_var rfl (d_c rfl (r_I0 rfl ?_)))))
    refine s_seq (s_for (i_str (d_dget (d_var rfl (d_op (d_var rfl (d_var rfl (r_ix (.inl (r_ixL hx ⟨_, _, _, rfl, rfl, lk, _, rfl, ?_⟩))))))))))
    rw [ez]
    generalize hEE : (DEnds.mk _ _ _ _) = EE
    generalize hB : (tIfS _ _ _) = B
    have hrt : ∀ d, kk d → EE.rt d := fun d h => by rw [← hEE]; exact h
    have key : ∀ (cs : List Str) (acc : List D) (b : Nat) (ws' : List Str) (s5 s6 : Sl), (∀ c ∈ cs, c = "t" ∨ c = "p" ∨ c = "d") → W = W.take b ++ ws' → b + ws'.length = W.length → ws'.length + 1 ≤ n → acc.length + cs.length ≤ 3 →
      (∀ o r', armsR (frm n) (cs.map sortC) ws' = (o, r') → kk (.tup [(match o with | none => .non | some ds => .tup (.str x :: (acc ++ ds))), .int ((W.length - r'.length : Nat) : Int)])) →
      forW K none (gName 5) B EE (strsOf cs) [.d (.lst (strsOf W)), .d (.int (a : Int)), .d (.dct shapesD), .d (.tup (.str x :: acc)), .d (.int (b : Int)), s5, s6] := by
     intro cs
     induction cs with
     | nil =>
      intro acc b ws' s5 s6 _ h1 h2 h3 h4 h
      refine forW_nil ?_
      subst hEE
      refine s_ret (d_tup (d_cons (d_var rfl (d_cons (d_var rfl (d_nil ⟨by simp, ?_⟩))))))
      have this : kk (.tup [.tup (.str x :: (acc ++ [])), .int ((W.length - ws'.length : Nat) : Int)]) := h (some []) ws' rfl
      rw [List.append_nil, show W.length - ws'.length = b from by omega] at this
      exact this
     | cons c cs ihc =>
      intro acc b ws' s5 s6 hcs h1 h2 h3 h4 h
      rw [List.length_cons] at h4
      have hcs' : ∀ c ∈ cs, c = "t" ∨ c = "p" ∨ c = "d" := fun y hy => hcs y (List.mem_cons_of_mem _ hy)
      refine forW_cons (g_name ?_)
      refine Eq.mp (congrArg (fun t => dS K none t _ _) hB) ?_
      show dS K none (tIfS _ _ _) _ _
      refine s_if (d_test (d_op (d_var rfl (d_c rfl (r_eqS ⟨_, rfl, fun e => ?_, fun e => ?_⟩)))))
      ·have ec : c = "t" := of_decide_eq_true e
       subst ec
       refine s_seq (s_asg (d_call (d_cons (d_var rfl (d_cons (d_var rfl (d_nil ⟨W, ws', b, rfl, hW, h1, h2, h3, ?_⟩)))))))
       cases e1 : frm n ws' with
       | mk o r1 =>
       obtain ⟨l, hl⟩ := frm_suf n ws' o r1 e1
       have hp : W = (W.take b ++ l) ++ r1 := by rw [List.append_assoc, ← hl]; exact h1
       obtain ⟨t1, t2⟩ := take_suf hp
       have lr := suf_len hl
       rw [List.map_cons, show sortC "t" = "nest" from rfl] at h
       cases o with
       | none =>
        refine g_tup rfl (gs_cons (g_name (gs_cons (g_name (gs_nil ?_)))))
        refine s_seq (s_if (d_test (d_op (d_var rfl (d_c rfl (r_isN ⟨_, rfl, fun _ => ?_, fun e => (by cases e)⟩))))))
        refine s_ret (d_tup (d_cons (d_c rfl (d_cons (d_var rfl (d_nil ⟨by simp, ?_⟩))))))
        refine hrt _ (h none r1 ?_)
        rw [armsR.eq_def]
        simp only [if_true, e1]
       | some d =>
        obtain ⟨dl, rfl⟩ : ∃ dl, d = .tup dl := by
         obtain ⟨_, t, rfl, _⟩ := frm_tree _ _ _ _ e1
         cases t <;> exact ⟨_, rfl⟩
        refine g_tup rfl (gs_cons (g_name (gs_cons (g_name (gs_nil ?_)))))
        refine s_seq (s_if (d_test (d_op (d_var rfl (d_c rfl (r_isN ⟨_, rfl, fun e => (by cases e), fun _ => s_next ?_⟩))))))
        refine s_set (d_op (d_var rfl (d_tup (d_cons (d_var rfl (d_nil ⟨by simp, r_catA (by simp; omega) ?_⟩))))))
        refine ihc (acc ++ [.tup dl]) _ r1 _ _ hcs' t1 t2 (by omega) (by rw [List.length_append, List.length_singleton]; omega) fun o' r' e2 => ?_
        have := h (match o' with | none => none | some ds => some (.tup dl :: ds)) r' (by
         rw [armsR.eq_def]
         simp only [if_true, e1, e2]
         cases o' <;> rfl)
        cases o' with
        | none => exact this
        | some ds =>
         show kk (.tup [.tup (.str x :: (acc ++ [.tup dl] ++ ds)), .int ((W.length - r'.length : Nat) : Int)])
         rw [List.append_assoc]
         exact this
      ·have ns : sortC c ≠ "nest" := by
        rcases hcs c List.mem_cons_self with rfl | rfl | rfl
        ·exact absurd e (by decide)
        ·decide
        ·decide
       have hpd : c = "p" ∨ c = "d" := by
        rcases hcs c List.mem_cons_self with rfl | h | h
        ·exact absurd e (by decide)
        ·exact .inl h
        ·exact .inr h
       cases ws' with
       | nil =>
        rw [List.length_nil] at h2
        refine s_seq (s_if (d_or (d_test (d_op (d_var rfl (d_cb (d_cons (d_var rfl (d_nil (c_lenS (.inl rfl) (r_I0 rfl ⟨_, rfl, fun _ => ⟨fun _ => ?_, fun e => (by cases e)⟩, fun e => ?_⟩)))))))))))
        ·refine s_ret (d_tup (d_cons (d_c rfl (d_cons (d_cb (d_cons (d_var rfl (d_cons (d_cb (d_cons (d_var rfl (d_nil (c_lenS (.inl rfl) (d_nil (c_min2 (d_nil ⟨by simp, ?_⟩))))))))))))))))
         rw [sl, show (if ((W.length : Nat) : Int) < ((b : Nat) : Int) then ((W.length : Nat) : Int) else (b : Int)) = (b : Int) from by split <;> omega]
         have := h none [] (by
          rw [List.map_cons, armsR.eq_def]
          simp only [if_neg ns])
         rw [show W.length - ([] : List Str).length = b from by rw [List.length_nil]; omega] at this
         exact hrt _ this
        ·exfalso
         have := of_decide_eq_false e
         rw [sl] at this
         omega
       | cons y r =>
        have hy := at_ h1 h2
        have sf : W = (W.take b ++ [y]) ++ r := by rw [List.append_assoc]; exact h1
        obtain ⟨t1, t2⟩ := take_suf sf
        rw [List.length_cons] at h2 h3
        have eb : W.length - r.length = b + 1 := by omega
        rw [eb] at t1 t2
        refine s_seq (s_if (d_or (d_test (d_op (d_var rfl (d_cb (d_cons (d_var rfl (d_nil (c_lenS (.inl rfl) (r_I0 rfl ⟨_, rfl, fun e => ?_, fun _ => ?_⟩)))))))))))
        ·exfalso
         have := of_decide_eq_true e
         rw [sl] at this
         omega
        have two : ∀ {ρ : List Sl} {k : List D → Prop}, ρ[5]? = some (.d (.str c)) → k (strsOf (if c = "p" then partsS else deedsS)) → dL K none (tCB rListStr (tCons (tDGet (tFrz (tDisp [(tC (.str "p"), tC (.str "ABCDEF")), (tC (.str "d"), tC (.str "abcdefgh"))])) (tVar 5)) tNil)) ρ k := fun {ρ k} e5 q => by
         refine l_listStr (d_dget (d_disp (dP_cons (d_c rfl ⟨_, rfl, d_c rfl (dP_cons (d_c rfl ⟨_, rfl, d_c rfl (dP_nil ⟨by simp, d_var e5 ⟨_, _, (if c = "p" then .str "ABCDEF" else .str "abcdefgh"), rfl, rfl, ?_, ?_⟩⟩)⟩))⟩))))
         ·rcases hpd with rfl | rfl <;> rfl
         ·rcases hpd with rfl | rfl
          ·refine ⟨_, rfl, by decide +kernel, ?_⟩
           rw [abc6]
           exact q
          ·refine ⟨_, rfl, by decide +kernel, ?_⟩
           rw [abc]
           exact q
        refine d_test (d_op (d_op (d_var rfl (d_var rfl (r_ix (.inl (r_ixL hy (d_ofL (two rfl (r_in3 ⟨_, rfl, ?_⟩))))))))))
        have ef : fitB (sortC c) y = decide (y ∈ (if c = "p" then partsS else deedsS)) := by rcases hpd with rfl | rfl <;> rfl
        rw [← ef]
        cases hf : fitB (sortC c) y with
        | false =>
         refine ⟨fun _ => ?_, fun e => (by cases e)⟩
         refine s_ret (d_tup (d_cons (d_c rfl (d_cons (d_cb (d_cons (d_var rfl (d_cons (d_cb (d_cons (d_var rfl (d_nil (c_lenS (.inl rfl) (d_nil (c_min2 (d_nil ⟨by simp, ?_⟩))))))))))))))))
         rw [sl, show (if ((W.length : Nat) : Int) < ((b : Nat) : Int) then ((W.length : Nat) : Int) else (b : Int)) = (b : Int) from by split <;> omega]
         have := h none (y :: r) (by
          rw [List.map_cons, armsR.eq_def]
          simp only [if_neg ns, hf, Bool.false_eq_true, if_false])
         rw [show W.length - (y :: r).length = b from by rw [List.length_cons]; omega] at this
         exact hrt _ this
        | true =>
         refine ⟨fun e => (by cases e), fun _ => s_next ?_⟩
         refine s_seq (s_set (d_op (d_var rfl (d_tup (d_cons (d_op (d_var rfl (d_var rfl (r_ix (.inl (r_ixL hy (d_nil ⟨by simp, r_catA (by simp; omega) ?_⟩))))))))))))
         refine s_set (d_op (d_var rfl (d_c rfl (r_I0 rfl ?_))))
         refine ihc (acc ++ [.str y]) (b + 1) r _ _ hcs' t1 t2 (by omega) (by rw [List.length_append, List.length_singleton]; omega) fun o' r' e2 => ?_
         have := h (match o' with | none => none | some ds => some (.str y :: ds)) r' (by
          rw [List.map_cons, armsR.eq_def]
          simp only [if_neg ns, hf, if_true, e2]
          cases o' <;> rfl)
         cases o' with
         | none => exact this
         | some ds =>
          show kk (.tup [.tup (.str x :: (acc ++ [.str y] ++ ds)), .int ((W.length - r'.length : Nat) : Int)])
          rw [List.append_assoc]
          exact this
    have sf : W = (W.take a ++ [x]) ++ ws := by rw [List.append_assoc]; exact eW
    obtain ⟨t1, t2⟩ := take_suf sf
    have eb : W.length - ws.length = a + 1 := by omega
    rw [eb] at t1 t2
    refine key cs [] (a + 1) ws _ _ hc t1 t2 (by omega) (by simpa using hc3) fun o r' e2 => ?_
    rw [ec] at e2
    rw [frm, el] at q
    simp only [e2] at q
    unfold fromD at q
    cases o <;> exact q
end
end Pr
set_option Elab.async false
set_option linter.all false
set_option maxRecDepth 100000
set_option maxHeartbeats 2000000
namespace Pr
open PySem L2 PD
variable [Tabs]
theorem pre32 (c : Nat) (r : List Nat) : TL.pre [32] (c :: r) = decide (c = 32) := by
 unfold TL.pre
 rw [Bool.eq_iff_iff]
 simp
theorem spl_cnt : ∀ (l acc : List Nat), (TL.spl [32] 0 acc l).length = l.count 32 + 1
 | [], acc => by rw [TL.spl_nil]; rfl
 | c :: r, acc => by
  by_cases h : c = 32
  ·rw [TL.spl_hit (by rw [pre32]; exact decide_eq_true h), List.length_cons]
   show (TL.spl [32] 0 [] r).length + 1 = _
   rw [spl_cnt r [], h, List.count_cons_self]
  ·rw [TL.spl_miss (by rw [pre32]; exact decide_eq_false h), spl_cnt r (acc ++ [c]), List.count_cons_of_ne h]
theorem spl_free : ∀ (l acc : List Nat), 32 ∉ acc → ∀ p ∈ TL.spl [32] 0 acc l, 32 ∉ p
 | [], acc, ha, p, hp => by
  rw [TL.spl_nil, List.mem_singleton] at hp
  rw [hp]
  exact ha
 | c :: r, acc, ha, p, hp => by
  by_cases h : c = 32
  ·rw [TL.spl_hit (by rw [pre32]; exact decide_eq_true h)] at hp
   rcases List.mem_cons.mp hp with e | hp
   ·rw [e]
    exact ha
   ·exact spl_free r [] (by simp) p hp
  ·rw [TL.spl_miss (by rw [pre32]; exact decide_eq_false h)] at hp
   exact spl_free r (acc ++ [c]) (by simp [ha, Ne.symm h]) p hp
theorem spl_sum : ∀ (l acc : List Nat), ((TL.spl [32] 0 acc l).map fun p => p.length + 1).sum = acc.length + l.length + 1
 | [], acc => by rw [TL.spl_nil]; simp
 | c :: r, acc => by
  by_cases h : c = 32
  ·rw [TL.spl_hit (by rw [pre32]; exact decide_eq_true h), List.map_cons, List.sum_cons]
   show _ + ((TL.spl [32] 0 [] r).map fun p => p.length + 1).sum = _
   rw [spl_sum r [], List.length_cons, List.length_nil]
   omega
  ·rw [TL.spl_miss (by rw [pre32]; exact decide_eq_false h), spl_sum r (acc ++ [c]), List.length_append, List.length_cons, List.length_cons, List.length_nil]
   omega
theorem join_cnt : ∀ l : List (List Nat), l ≠ [] → (TL.joinL [32] l).count 32 + 1 = (l.map fun p => p.count 32 + 1).sum
 | [], h => absurd rfl h
 | [p], _ => by show p.count 32 + 1 = _; simp
 | p :: q :: r, _ => by
  have ih := join_cnt (q :: r) (by simp)
  show (p ++ ([32] ++ TL.joinL [32] (q :: r))).count 32 + 1 = _
  rw [List.count_append, List.count_append, List.map_cons, List.sum_cons, ← ih]
  have : List.count 32 [32] = 1 := by decide
  omega
theorem join_len : ∀ l : List (List Nat), l ≠ [] → (TL.joinL [32] l).length + 1 = (l.map fun p => p.length + 1).sum
 | [], h => absurd rfl h
 | [p], _ => by show p.length + 1 = _; simp
 | p :: q :: r, _ => by
  have ih := join_len (q :: r) (by simp)
  show (p ++ ([32] ++ TL.joinL [32] (q :: r))).length + 1 = _
  rw [List.length_append, List.length_append, List.map_cons, List.sum_cons, ← ih]
  have : List.length [32] = 1 := rfl
  omega
theorem sum_set {α : Type} (f : α → Nat) (y : α) : ∀ (l : List α) (n : Nat), ((l.set n y).map f).sum ≤ (l.map f).sum + f y
 | [], n => by simp
 | x :: l, 0 => by simp only [List.set_cons_zero, List.map_cons, List.sum_cons]; omega
 | x :: l, n + 1 => by
  have := sum_set f y l n
  simp only [List.set_cons_succ, List.map_cons, List.sum_cons]
  omega
def cnt (t : Str) : Nat := (TL.tl t).count 32
structure TxI (n m : Nat) (t : Str) : Prop where
 c : cnt t ≤ n
 l : t.length ≤ m
theorem tl_sp : TL.tl (" " : Str) = [32] := by decide +kernel
theorem split_tl (t : Str) : (Txt.split t " ").map TL.tl = TL.spl [32] 0 [] (TL.tl t) := by
 have := TL.split_spl t " " (by rw [tl_sp]; simp) (TL.kind_ok (by decide +kernel))
 rw [tl_sp] at this
 exact this
theorem split_cnt (t : Str) : (Txt.split t " ").length = cnt t + 1 := by
 have := congrArg List.length (split_tl t)
 rw [List.length_map, spl_cnt] at this
 exact this
theorem split_free (t : Str) : ∀ w ∈ Txt.split t " ", cnt w = 0 := fun w hw => by
 have h : TL.tl w ∈ (Txt.split t " ").map TL.tl := List.mem_map.mpr ⟨w, hw, rfl⟩
 rw [split_tl] at h
 exact List.count_eq_zero.mpr (spl_free _ [] (by simp) _ h)
theorem split_sum (t : Str) : ((Txt.split t " ").map fun w => w.length + 1).sum = t.length + 1 := by
 have e : ((Txt.split t " ").map fun w => w.length + 1) = ((Txt.split t " ").map TL.tl).map fun p => p.length + 1 := by
  rw [List.map_map]
  exact List.map_congr_left fun w _ => by show w.length + 1 = (TL.tl w).length + 1; rw [TL.len_tl]
 rw [e, split_tl, spl_sum, TL.len_tl]
 simp
theorem joined_cnt {ws : List Str} (h : ws ≠ []) : cnt (Txt.join " " ws) + 1 = (ws.map fun w => cnt w + 1).sum := by
 unfold cnt
 rw [TL.join_eq, TL.tl_join, tl_sp, join_cnt _ (by simpa using h), List.map_map]
 rfl
theorem joined_len {ws : List Str} (h : ws ≠ []) : (Txt.join " " ws).length + 1 = (ws.map fun w => w.length + 1).sum := by
 rw [TL.len_tl, TL.join_eq, TL.tl_join, tl_sp, join_len _ (by simpa using h), List.map_map]
 exact congrArg List.sum (List.map_congr_left fun w _ => by show (TL.tl w).length + 1 = _; rw [TL.len_tl])
theorem sum_zero {ws : List Str} (h : ∀ w ∈ ws, cnt w = 0) : (ws.map fun w => cnt w + 1).sum = ws.length := by
 induction ws with
 | nil => rfl
 | cons w r ih =>
  rw [List.map_cons, List.sum_cons, ih fun x hx => h x (List.mem_cons_of_mem _ hx), h w List.mem_cons_self, List.length_cons]
  omega
theorem sum_cut {f : Str → Nat} (l : List Str) (k : Nat) : ((l.take k).map f).sum + ((l.drop k).map f).sum = (l.map f).sum := by
 rw [← List.sum_append, ← List.map_append, List.take_append_drop]
theorem len_mem {f : Str → Nat} {l : List Str} {x : Str} (h : x ∈ l) : f x ≤ (l.map f).sum := by
 induction l with
 | nil => cases h
 | cons y r ih =>
  rw [List.map_cons, List.sum_cons]
  rcases List.mem_cons.mp h with rfl | h
  ·omega
  ·have := ih h
   omega
theorem tx_swap {n m : Nat} {t : Str} (h : TxI n m t) {i j : Nat} {x y : Str} (hx : (Txt.split t " ")[i]? = some x) (hy : (Txt.split t " ")[j]? = some y) : TxI (n + 1) (3 * m + 12) (Txt.join " " (((Txt.split t " ").set i y).set j x)) := by
 have mx := List.mem_of_getElem? hx
 have my := List.mem_of_getElem? hy
 have ll := split_cnt t
 have hc := h.c
 have hl := h.l
 have ne : ((Txt.split t " ").set i y).set j x ≠ [] := fun e => by
  have := congrArg List.length e
  rw [List.length_set, List.length_set, ll] at this
  simp at this
 refine ⟨?_, ?_⟩
 ·have c1 := joined_cnt ne
  rw [sum_zero (fun w hw => ?_), List.length_set, List.length_set, ll] at c1
  ·omega
  ·rcases List.mem_or_eq_of_mem_set hw with hw | rfl
   ·rcases List.mem_or_eq_of_mem_set hw with hw | rfl
    ·exact split_free t _ hw
    ·exact split_free t _ my
   ·exact split_free t _ mx
 ·have c1 := joined_len ne
  have s1 := sum_set (fun w : Str => w.length + 1) x ((Txt.split t " ").set i y) j
  have s2 := sum_set (fun w : Str => w.length + 1) y (Txt.split t " ") i
  have s3 := split_sum t
  have l1 := len_mem (f := fun w : Str => w.length + 1) mx
  have l2 := len_mem (f := fun w : Str => w.length + 1) my
  omega
theorem tx_put {n m : Nat} {t : Str} (h : TxI n m t) {i : Nat} {x : Str} (hx : (Txt.split t " ")[i]? = some x) {mid : List Str} (hm : mid = [] ∨ mid = [x, x] ∨ ∃ o, mid = [o] ∧ cnt o ≤ 1 ∧ o.length ≤ 10) : TxI (n + 1) (3 * m + 12) (Txt.join " " ((Txt.split t " ").take i ++ mid ++ (Txt.split t " ").drop (i + 1))) := by
 have mx := List.mem_of_getElem? hx
 have ll := split_cnt t
 have hc := h.c
 have hl := h.l
 have hi := (List.getElem?_eq_some_iff.mp hx).1
 have l1 := len_mem (f := fun w : Str => w.length + 1) mx
 have s3 := split_sum t
 have fx := split_free t _ mx
 have ex : (Txt.split t " ")[i] = x := (List.getElem?_eq_some_iff.mp hx).2
 have dr : (Txt.split t " ").drop i = x :: (Txt.split t " ").drop (i + 1) := by rw [List.drop_eq_getElem_cons hi, ex]
 have cut := fun f : Str → Nat => sum_cut (f := f) (Txt.split t " ") i
 have cutL := cut fun w => w.length + 1
 have cutC := cut fun w => cnt w + 1
 rw [dr, List.map_cons, List.sum_cons] at cutL cutC
 have z := sum_zero (split_free t)
 by_cases ne : (Txt.split t " ").take i ++ mid ++ (Txt.split t " ").drop (i + 1) = []
 ·rw [ne]
  have e0 : Txt.join " " ([] : List Str) = "" := rfl
  rw [e0]
  exact ⟨by show cnt "" ≤ _; rw [show cnt ("" : Str) = 0 from by decide +kernel]; omega, by rw [show ("" : Str).length = 0 from by decide +kernel]; omega⟩
 ·have c1 := joined_cnt ne
  have c2 := joined_len ne
  rw [List.map_append, List.sum_append, List.map_append, List.sum_append] at c1 c2
  rcases hm with rfl | rfl | ⟨o, rfl, o1, o2⟩
  ·simp only [List.map_nil, List.sum_nil] at c1 c2
   exact ⟨by omega, by omega⟩
  ·simp only [List.map_cons, List.map_nil, List.sum_cons, List.sum_nil] at c1 c2
   exact ⟨by omega, by omega⟩
  ·simp only [List.map_cons, List.map_nil, List.sum_cons, List.sum_nil] at c1 c2
   exact ⟨by omega, by omega⟩
theorem join_bd (ws : List Str) : (ws.map (·.length)).sum + ws.length * (" " : Str).length ≤ (Txt.join " " ws).length + 1 := by
 have e1 : (" " : Str).length = 1 := by decide +kernel
 rw [e1, Nat.mul_one]
 by_cases h : ws = []
 ·rw [h]
  simp
 ·rw [joined_len h]
  have : ∀ l : List Str, (l.map (·.length)).sum + l.length ≤ (l.map fun w => w.length + 1).sum := fun l => by
   induction l with
   | nil => simp
   | cons x r ih =>
    simp only [List.map_cons, List.sum_cons, List.length_cons]
    omega
  exact this ws
abbrev s_law_changed : Stmt := top 73
abbrev N_law_changed : List Str := ["_law_h", "_law_text", "_law_words", "_law_k", "_law_j", "_law_odd", "_law_turn"]
theorem sc_law_changed : FnScope N_law_changed ["_law_h", "_law_text"] (defScope s_law_changed) := ⟨rfl, rfl, rfl, by decide +kernel, rfl, by decide +kernel, by decide +kernel⟩
section
variable {P : Program} {w : World} {K : PySem.W.Frag} {mg : Str → Option Value} {base : Heap} {ah as : Addr}
def oddW : List Str := ["", "part", "with", "without", "also", "over", "a", "h", "i", "A", "F", "G", "part A", "aa", "Part"]
theorem odd_ok : ∀ o ∈ oddW, cnt o ≤ 1 ∧ o.length ≤ 10 := by decide +kernel
def M_changed (ah : Addr) : List D → (D → Prop) → Prop := fun ds k => ∃ (t : Str) (n m : Nat), ds = [.adr ah, .str t] ∧ TxI n m t ∧ n ≤ 130 ∧ m ≤ 13000 ∧ ∀ t', TxI (n + 1) (3 * m + 12) t' → k (.str t')
theorem ok_changed (F : DefT K mg "_law_changed" s_law_changed) (zl : mg "len" = none) (C_law_next : Cal P w K mg base 1 "_law_next" ["_law_h", "_law_many_here"] (some (ah, as)) (M_next ah)) : Cal P w K mg base 2 "_law_changed" ["_law_h", "_law_text"] (some (ah, as)) (M_changed ah) := by
 have T : Unit := ()
 refine okF F sc_law_changed (fun _ _ _ _ _ _ us hl => match us, hl with | [_, _], _ => rfl) (fun ds k h => ?_) (fun f cdv A outer s H E ds kk hr h => ?_)
 ·obtain ⟨_, _, _, rfl, _⟩ := h
  rfl
 obtain ⟨t, n, m, rfl, ht, hn, hm, q⟩ := h
 refine ⟨_, (pss_cons (ps_set (i := 2) sc_law_changed.nd rfl (by first | exact Or.inl rfl | exact Or.inr rfl) (pe_split (pv 1) pe_str))
   (pss_cons (ps_set (i := 3) sc_law_changed.nd rfl (by first | exact Or.inl rfl | exact Or.inr rfl) (pe_calK (K := K) rfl C_law_next (hr.mono (by first | decide | omega)) rfl (pa_cons (pv 0) (pa_cons (pe_callB (r := rLenQ K) (id := "len")  call_len_seq (by rfl) zl PySem.boot_len (pa_cons (pv 2) pa_nil)) pa_nil))))
   (pss_cons (ps_set (i := 4) sc_law_changed.nd rfl (by first | exact Or.inl rfl | exact Or.inr rfl) (pe_calK (K := K) rfl C_law_next (hr.mono (by first | decide | omega)) rfl (pa_cons (pv 0) (pa_cons (pe_callB (r := rLenQ K) (id := "len")  call_len_seq (by rfl) zl PySem.boot_len (pa_cons (pv 2) pa_nil)) pa_nil))))
   (pss_cons (ps_set (i := 5) sc_law_changed.nd rfl (by first | exact Or.inl rfl | exact Or.inr rfl) (pe_lst (pa_cons pe_str (pa_cons pe_str (pa_cons pe_str (pa_cons pe_str (pa_cons pe_str (pa_cons pe_str (pa_cons pe_str (pa_cons pe_str (pa_cons pe_str (pa_cons pe_str (pa_cons pe_str (pa_cons pe_str (pa_cons pe_str (pa_cons pe_str (pa_cons pe_str pa_nil)))))))))))))))))
   (pss_cons (ps_set (i := 6) sc_law_changed.nd rfl (by first | exact Or.inl rfl | exact Or.inr rfl) (pe_calK (K := K) rfl C_law_next (hr.mono (by first | decide | omega)) rfl (pa_cons (pv 0) (pa_cons pe_int pa_nil))))
   (pss_cons (ps_if (pt_cmpR op_eq (pv 6) pe_int (nomark _)) (pss_cons (ps_asg (pe_tup (pa_cons (pe_ix (r := rIx K) ix_seq (pv 2) (pv 4) (fun _ _ => rfl)) (pa_cons (pe_ix (r := rIx K) ix_seq (pv 2) (pv 3) (fun _ _ => rfl)) pa_nil))) (pg_tupK (K := K) (n := 2) rfl rfl (pgs_cons (pg_sub (pv 2) (pv 3) set_list) (pgs_cons (pg_sub (pv 2) (pv 4) set_list) pgs_nil))))
   (pss_one (ps_ret (pe_join pe_str (pv 2))))) pss_nil)
   (pss_one (ps_ret (pe_join pe_str (pe_op op_cat (pe_op op_cat (pe_slice (r := rSlL K) sl_list (pv 2) po_none (po_some (pv 3))) (pe_ix (r := rIx K) ix_seq (pe_lst (pa_cons (pe_lst pa_nil) (pa_cons (pe_lst (pa_cons (pe_ix (r := rIx K) ix_seq (pv 2) (pv 3) (fun _ _ => rfl)) (pa_cons (pe_ix (r := rIx K) ix_seq (pv 2) (pv 3) (fun _ _ => rfl)) pa_nil))) (pa_cons (pe_lst (pa_cons (pe_ix (r := rIx K) ix_seq (pv 5) (pe_calK (K := K) rfl C_law_next (hr.mono (by first | decide | omega)) rfl (pa_cons (pv 0) (pa_cons pe_int pa_nil))) (fun _ _ => rfl)) pa_nil)) pa_nil)))) (pv 6) (fun _ _ => rfl))) (pe_slice (r := rSlL K) sl_list (pv 2) (po_some (pe_op op_add (pv 3) pe_int)) po_none))))))))))), ?_⟩
 try dsimp only [cxOf]
 change dS _ _ _ [Sl.d _, Sl.d _, Sl.un, Sl.un, Sl.un, Sl.un, Sl.un] _
 have ll := split_cnt t
 have hc := ht.c
 have hl := ht.l
 have sl : ∀ l : List Str, (strsOf l).length = l.length := fun l => by simp [strsOf]
 have jl : ∀ {ws : List Str} {N M : Nat}, ws ≠ [] → True := fun _ => trivial
 refine s_seq (s_own (l_split (d_var rfl ⟨_, rfl, d_c rfl ⟨_, rfl, by decide +kernel, Nat.le_trans (Nat.add_le_add_right hl 2) (Nat.le_trans (Nat.add_le_add_right hm 2) (by decide)), ?_⟩⟩)))
 refine s_seq (s_set (d_call (d_cons (d_var rfl (d_cons (d_lenO2 rfl (d_nil ?_)))))))
 rw [sl]
 refine m_next (by omega) (by omega) fun k0 k1 k2 => ?_
 obtain ⟨i, rfl⟩ := Int.eq_ofNat_of_zero_le k1
 refine s_seq (s_set (d_call (d_cons (d_var rfl (d_cons (d_lenO2 rfl (d_nil ?_)))))))
 rw [sl]
 refine m_next (by omega) (by omega) fun j0 j1 j2 => ?_
 obtain ⟨j, rfl⟩ := Int.eq_ofNat_of_zero_le j1
 have hi : i < (Txt.split t " ").length := by omega
 have hj : j < (Txt.split t " ").length := by omega
 have ei : (Txt.split t " ")[i]? = some (Txt.split t " ")[i] := List.getElem?_eq_getElem hi
 have ej : (Txt.split t " ")[j]? = some (Txt.split t " ")[j] := List.getElem?_eq_getElem hj
 have es : ∀ {n : Nat} {x : Str}, (Txt.split t " ")[n]? = some x → (strsOf (Txt.split t " "))[n]? = some (.str x) := fun {n x} h => by
  unfold strsOf
  rw [List.getElem?_map, h]
  rfl
 refine s_seq (s_set (d_lst (d_cons (d_c rfl (d_cons (d_c rfl (d_cons (d_c rfl (d_cons (d_c rfl (d_cons (d_c rfl (d_cons (d_c rfl (d_cons (d_c rfl (d_cons (d_c rfl (d_cons (d_c rfl (d_cons (d_c rfl (d_cons (d_c rfl (d_cons (d_c rfl (d_cons (d_c rfl (d_cons (d_c rfl (d_cons (d_c rfl (d_nil ⟨by simp, ?_⟩)))))))))))))))))))))))))))))))))
 refine s_seq (s_set (d_call (d_cons (d_var rfl (d_cons (d_c rfl (d_nil (m_next (by decide) (by decide) fun u u1 u2 => ?_))))))))
 obtain ⟨u, rfl⟩ := Int.eq_ofNat_of_zero_le u1
 refine s_seq (s_if (d_test (d_op (d_var rfl (d_c rfl (r_eqI ⟨_, rfl, fun _ => ?_, fun e3 => s_next ?_⟩))))))
 ·refine s_seq (s_swap rfl rfl rfl (es ei) (es ej) ?_)
  refine s_keep (i := 2) rfl ?_
  have e1 : ((strsOf (Txt.split t " ")).set i (.str (Txt.split t " ")[j])).set j (.str (Txt.split t " ")[i]) = strsOf (((Txt.split t " ").set i (Txt.split t " ")[j]).set j (Txt.split t " ")[i]) := by
   unfold strsOf
   rw [List.map_set, List.map_set]
  rw [e1]
  refine s_ret (d_join (r := fun _ _ _ _ => True) (d_c rfl ⟨_, rfl, d_var rfl ⟨_, rfl, ?_, q _ (tx_swap ht ei ej)⟩⟩))
  have := (tx_swap ht ei ej).l
  have := join_bd (((Txt.split t " ").set i (Txt.split t " ")[j]).set j (Txt.split t " ")[i])
  omega
 ·have e3 := of_decide_eq_false e3
  refine s_keep (i := 2) rfl ?_
  refine s_ret (d_join (r := fun _ _ _ _ => True) (d_c rfl ⟨_, rfl, ?_⟩))
  refine d_ofL (l_cat (d_ofL (l_cat (d_ofL (l_slL (d_var rfl (o_no (o_part (d_var rfl ⟨_, rfl, _, rfl, ?_⟩)))))))))
  rw [cut_to (by rw [sl]; omega)]
  refine d_op (d_lst (d_cons (d_lst (d_nil ⟨by simp, d_cons (d_lst (d_cons (d_op (d_var rfl (d_var rfl (r_ix (.inl (r_ixL (atI_nat (es ei)) (d_cons (d_op (d_var rfl (d_var rfl (r_ix (.inl (r_ixL (atI_nat (es ei)) (d_nil ⟨by simp, ?_⟩)))))))))))))) ))⟩))))
  refine d_cons (d_lst (d_cons (d_op (d_var rfl (d_call (d_cons (d_var rfl (d_cons (d_c rfl (d_nil (m_next (by decide) (by decide) fun o o1 o2 => r_pick o1 (by simpa using o2) fun v hv => d_nil ⟨by simp, d_nil ⟨by simp, d_var rfl (r_pick u1 (by simp; omega) fun v' hv' => ?_)⟩⟩)))))))))))
  obtain ⟨ow, hov, rfl⟩ : ∃ ow ∈ oddW, v = .str ow := by
   have : v ∈ strsOf oddW := hv
   obtain ⟨ow, h1, h2⟩ := List.mem_map.mp this
   exact ⟨ow, h1, h2.symm⟩
  obtain ⟨mid, rfl, hm⟩ : ∃ mid : List Str, v' = .lst (strsOf mid) ∧ (mid = [] ∨ mid = [(Txt.split t " ")[i], (Txt.split t " ")[i]] ∨ ∃ o, mid = [o] ∧ cnt o ≤ 1 ∧ o.length ≤ 10) := by
   simp only [List.mem_cons, List.not_mem_nil, or_false] at hv'
   rcases hv' with rfl | rfl | rfl
   ·exact ⟨[], rfl, .inl rfl⟩
   ·exact ⟨_, rfl, .inr (.inl rfl)⟩
   ·exact ⟨[ow], rfl, .inr (.inr ⟨ow, rfl, odd_ok ow hov⟩)⟩
  have lm : mid.length ≤ 2 := by rcases hm with rfl | rfl | ⟨o, rfl, _⟩ <;> simp
  refine ⟨_, _, rfl, rfl, by rw [List.length_take, sl, sl]; omega, ?_⟩
  refine d_ofL (l_slL (d_var rfl (o_part (d_op (d_var rfl (d_c rfl (r_I0 rfl ⟨_, rfl, o_no ⟨_, rfl, ?_⟩⟩)))))))
  rw [show ((i : Int) + 1) = ((i + 1 : Nat) : Int) from rfl, cut_from]
  have tp := tx_put ht ei hm
  have e4 : (strsOf (Txt.split t " ")).take i ++ strsOf mid ++ (strsOf (Txt.split t " ")).drop (i + 1) = strsOf ((Txt.split t " ").take i ++ mid ++ (Txt.split t " ").drop (i + 1)) := by
   unfold strsOf
   simp only [List.map_append, List.map_take, List.map_drop]
  refine ⟨_, _, rfl, rfl, by simp only [List.length_append, List.length_take, List.length_drop, sl]; omega, _, by rw [e4], ?_, q _ tp⟩
  have := tp.l
  have := join_bd ((Txt.split t " ").take i ++ mid ++ (Txt.split t " ").drop (i + 1))
  omega
end
end Pr
set_option Elab.async false
set_option linter.all false
set_option maxRecDepth 100000
set_option maxHeartbeats 4000000
namespace Pr
open PySem L2 PD
variable [Tabs]
local macro_rules | `(tactic| walk_at "d1") => `(tactic| walk_at "D5f2f")
local macro_rules | `(tactic| walk_at "d") => `(tactic| repeat' walk_at "d1")
abbrev s_law_alike : Stmt := top 58
abbrev N_law_alike : List Str := ["_law_found", "_law_due_here", "_law_k"]
theorem sc_law_alike : FnScope N_law_alike ["_law_found", "_law_due_here"] (defScope s_law_alike) := ⟨rfl, rfl, rfl, by decide +kernel, rfl, by decide +kernel, by decide +kernel⟩
section
variable {K : PySem.W.Frag} {hs : Option (Addr × Addr)} {k : D → Prop} {x y : D} {n : Nat}
theorem r_eqFit (hn : n ≤ 64) (hx : D.fit n x = true) (hy : D.fit n y = true) (q : k (.bl (PyData.eqv x.py y.py))) : dR K hs (rEqD K) x y k := fun G H v u Q f r1 r2 z =>
 ⟨_, _, rel_dp f.sub r1 hx, rel_dp f.sub r2 hy, fit_shaped hn hx, fit_shaped hn hy, z _ G H _ f.refl .bl q⟩
end
mutual
theorem eqv_self : ∀ d : D, PyData.eqv d.py d.py = true
 | .non => by simp [D.py, PyData.eqv]
 | .bl _ => by simp [D.py, PyData.eqv]
 | .int _ => by simp [D.py, PyData.eqv]
 | .str _ => by simp [D.py, PyData.eqv]
 | .adr _ => by simp [D.py, PyData.eqv]
 | .ty _ => by simp [D.py, PyData.eqv]
 | .dct _ => by simp [D.py, PyData.eqv]
 | .tpf _ => by simp [D.py, PyData.eqv]
 | .clo _ _ _ _ => by simp [D.py, PyData.eqv]
 | .tup ds => by simp only [D.py, PyData.eqv]; exact eqvL_self ds
 | .lst ds => by simp only [D.py, PyData.eqv]; exact eqvL_self ds
theorem eqvL_self : ∀ ds : List D, PyData.eqvAll (D.pyL ds) (D.pyL ds) = true
 | [] => by simp [D.pyL, PyData.eqvAll]
 | d :: r => by simp only [D.pyL, PyData.eqvAll, eqv_self d, eqvL_self r, Bool.and_self]
end
def okD : Nat → D → Prop
 | _, .non => True
 | _, .bl _ => True
 | _, .int _ => True
 | _, .str _ => True
 | n + 1, .tup ds => ds.length ≤ 40000 ∧ ∀ d ∈ ds, okD n d
 | n + 1, .lst ds => ds.length ≤ 40000 ∧ ∀ d ∈ ds, okD n d
 | _, _ => False
theorem intsUp_len {n : Nat} {i : Int} : (intsUp i n).length = n := by unfold intsUp; simp
theorem intsUp_mem (n : Nat) (d : D) (h : d ∈ intsUp 0 n) : ∃ j : Nat, j < n ∧ d = .int (j : Int) := by
 unfold intsUp at h
 obtain ⟨j, hj, rfl⟩ := List.mem_map.mp h
 exact ⟨j, List.mem_range.mp hj, by rw [Int.zero_add]⟩
section
variable {P : Program} {w : World} {K : PySem.W.Frag} {mg : Str → Option Value} {base : Heap}
def M_lalike (n : Nat) : List D → (D → Prop) → Prop := fun ds k => ∃ d, ds = [d, d] ∧ okD n d ∧ n ≤ 40 ∧ k (.bl true)
theorem ok_lalike (F : DefT K mg "_law_alike" s_law_alike) (zi : mg "isinstance" = none) (zt : mg "tuple" = none) (zl : mg "list" = none) (zs : mg "str" = none) (zn : mg "int" = none) (zb : mg "bool" = none) (ze : mg "len" = none) (zr : mg "range" = none) : ∀ n : Nat, Cal P w K mg base (n + 2) "_law_alike" ["_law_found", "_law_due_here"] none (M_lalike n) := by
 have step : ∀ (n : Nat) (C_law_alike : Cal P w K mg base (n + 1) "_law_alike" ["_law_found", "_law_due_here"] none (fun ds k => ∃ m, m + 1 = n ∧ M_lalike m ds k)), Cal P w K mg base (n + 2) "_law_alike" ["_law_found", "_law_due_here"] none (M_lalike n) := fun n C_law_alike => by
  refine okF F sc_law_alike (fun _ _ _ _ _ _ us hl => match us, hl with | [_, _], _ => rfl) (fun ds k h => ?_) (fun f cdv A outer s H E ds kk hr h => ?_)
  ·obtain ⟨_, rfl, _⟩ := h
   rfl
  obtain ⟨d, rfl, hd, hn, q⟩ := h
  refine ⟨_, (pss_cons (ps_if (pt_val (pe_callB (r := rIsiT K) (id := "isinstance")  call_isiT (by rfl) zi (by decide +kernel) (pa_cons (pv 1) (pa_cons (pe_tup (pa_cons (pe_bty (n := "tuple") rfl zt (by decide +kernel)) (pa_cons (pe_bty (n := "list") rfl zl (by decide +kernel)) pa_nil))) pa_nil)))) (pss_cons (ps_if (PW.pt (pw_or (pt_not (pt_val (pe_callB (r := rIsiT K) (id := "isinstance")  call_isiT (by rfl) zi (by decide +kernel) (pa_cons (pv 0) (pa_cons (pe_tup (pa_cons (pe_bty (n := "tuple") rfl zt (by decide +kernel)) (pa_cons (pe_bty (n := "list") rfl zl (by decide +kernel)) pa_nil))) pa_nil))))) (pw_or1 (pt_cmpR op_ne (pe_callB (r := rIsi K) (id := "isinstance")  call_isi (by rfl) zi (by decide +kernel) (pa_cons (pv 0) (pa_cons (pe_bty (n := "list") rfl zl (by decide +kernel)) pa_nil))) (pe_callB (r := rIsi K) (id := "isinstance")  call_isi (by rfl) zi (by decide +kernel) (pa_cons (pv 1) (pa_cons (pe_bty (n := "list") rfl zl (by decide +kernel)) pa_nil))) (nomark _))))) (pss_one (ps_ret pe_bl)) pss_nil)
   (pss_cons (ps_if (pt_cmpR op_ne (pe_callB (r := rLenQ K) (id := "len")  call_len_seq (by rfl) ze PySem.boot_len (pa_cons (pv 0) pa_nil)) (pe_callB (r := rLenQ K) (id := "len")  call_len_seq (by rfl) ze PySem.boot_len (pa_cons (pv 1) pa_nil)) (nomark _)) (pss_one (ps_ret pe_bl)) pss_nil)
   (pss_one (ps_ret (pe_cmpR (r := rEqD K) (op_eqD hr.units) (pe_lc (own := [("_law_k", 2)]) (g := gName 2) rfl sc_law_alike.nd (pi_range1 rfl zr (pa_cons (pe_callB (r := rLenQ K) (id := "len")  call_len_seq (by rfl) ze PySem.boot_len (pa_cons (pv 1) pa_nil)) pa_nil)) (blkOk_by (own := [("_law_k", 2)]) (N := N_law_alike) (sc := defScope s_law_alike) (by decide +kernel)) (fun _ _ _ _ _ => (pg_name (i := 2) sc_law_alike.nd rfl (by first | exact Or.inl rfl | exact Or.inr rfl))) (fun _ _ _ _ _ => (pts_one (pt_not (pt_val (pe_calK (K := K) rfl C_law_alike (hr.mono (by first | decide | omega)) rfl (pa_cons (pe_ix (r := rIx K) ix_seq (pv 0) (pv 2) (fun _ _ => rfl)) (pa_cons (pe_ix (r := rIx K) ix_seq (pv 1) (pv 2) (fun _ _ => rfl)) pa_nil))))))) (fun _ _ _ _ _ => (pv 2))) (pe_lst pa_nil) (nomark _)))))) pss_nil)
   (pss_cons (ps_if (pt_cmpR op_isN (pv 1) pe_non (nomark _)) (pss_one (ps_ret (pe_cmpR op_isN (pv 0) pe_non (nomark _)))) pss_nil)
   (pss_cons (ps_if (pt_val (pe_callB (r := rIsi K) (id := "isinstance")  call_isi (by rfl) zi (by decide +kernel) (pa_cons (pv 1) (pa_cons (pe_bty (n := "str") rfl zs (by decide +kernel)) pa_nil)))) (pss_one (ps_ret (pe_and (pe_callB (r := rIsi K) (id := "isinstance")  call_isi (by rfl) zi (by decide +kernel) (pa_cons (pv 0) (pa_cons (pe_bty (n := "str") rfl zs (by decide +kernel)) pa_nil))) (pe_one (pe_cmpR op_eq (pv 0) (pv 1) (nomark _)))))) pss_nil)
   (pss_cons (ps_if (PW.pt (pw_or (pt_val (pe_callB (r := rIsi K) (id := "isinstance")  call_isi (by rfl) zi (by decide +kernel) (pa_cons (pv 1) (pa_cons (pe_bty (n := "bool") rfl zb (by decide +kernel)) pa_nil)))) (pw_or1 (pt_val (pe_callB (r := rIsi K) (id := "isinstance")  call_isi (by rfl) zi (by decide +kernel) (pa_cons (pv 0) (pa_cons (pe_bty (n := "bool") rfl zb (by decide +kernel)) pa_nil))))))) (pss_one (ps_ret (pe_and (pe_callB (r := rIsi K) (id := "isinstance")  call_isi (by rfl) zi (by decide +kernel) (pa_cons (pv 1) (pa_cons (pe_bty (n := "bool") rfl zb (by decide +kernel)) pa_nil))) (pe_and (pe_callB (r := rIsi K) (id := "isinstance")  call_isi (by rfl) zi (by decide +kernel) (pa_cons (pv 0) (pa_cons (pe_bty (n := "bool") rfl zb (by decide +kernel)) pa_nil))) (pe_one (pe_cmpR op_eq (pv 0) (pv 1) (nomark _))))))) pss_nil)
   (pss_one (ps_ret (pe_and (pe_callB (r := rIsi K) (id := "isinstance")  call_isi (by rfl) zi (by decide +kernel) (pa_cons (pv 0) (pa_cons (pe_bty (n := "int") rfl zn (by decide +kernel)) pa_nil))) (pe_one (pe_cmpR op_eq (pv 0) (pv 1) (nomark _)))))))))), ?_⟩
  try dsimp only [cxOf]
  change dS _ _ _ [Sl.d _, Sl.d _, Sl.un] _
  have fin : ∀ {y : Bool}, true = y → kk (.bl y) := fun e => e ▸ q
  cases d
  case non =>
   repeat' (first | refine d_isiTL (d_var rfl ⟨_, rfl, ?_⟩) | walk_at "d1")
   all_goals exact fin (by simp)
  case bl b =>
   repeat' (first | refine d_isiTL (d_var rfl ⟨_, rfl, ?_⟩) | walk_at "d1")
   all_goals exact fin (by simp)
  case int i =>
   repeat' (first | refine d_isiTL (d_var rfl ⟨_, rfl, ?_⟩) | walk_at "d1")
   all_goals exact fin (by simp)
  case str x =>
   repeat' (first | refine d_isiTL (d_var rfl ⟨_, rfl, ?_⟩) | walk_at "d1")
   all_goals exact fin (by simp)
  case tup ds =>
   cases n with
   | zero => exact hd.elim
   | succ n =>
    obtain ⟨hl, hd⟩ := hd
    have fu : D.fit 2 (.lst []) = true := by simp [D.fit, D.fitL]
    refine s_seq (s_if (d_tB (d_isiTL (d_var rfl ⟨_, rfl, ⟨_, rfl, fun _ => ?_, fun e => (by cases e)⟩⟩))))
    refine s_seq (s_if (d_or (d_not (d_tB (d_isiTL (d_var rfl ⟨_, rfl, ⟨_, rfl, ⟨fun e => (by cases e), fun _ => ?_⟩⟩⟩))))))
    refine d_test (d_op (d_cb (d_cons (d_var rfl (d_cons (d_c rfl (d_nil (c_lst rfl (d_cb (d_cons (d_var rfl (d_cons (d_c rfl (d_nil (c_lst rfl (r_ne rfl rfl rfl ⟨_, rfl, fun e => (by simp at e), fun _ => s_next ?_⟩))))))))))))))))
    refine s_seq (s_if (d_test (d_op (d_cb (d_cons (d_var rfl (d_nil (c_lenS (.inr rfl) (d_cb (d_cons (d_var rfl (d_nil (c_lenS (.inr rfl) (r_neI ⟨_, rfl, fun e => (by simp at e), fun _ => s_next ?_⟩))))))))))))) )
    refine s_ret (d_op (d_lc (i_range1 (d_cons (d_cb (d_cons (d_var rfl (d_nil (c_lenS (.inr rfl) (d_nil ⟨_, rfl, by omega, by omega, ?_⟩))))))))))
    rw [Int.toNat_natCast]
    refine ⟨by rw [intsUp_len]; omega, ?_⟩
    refine lcW_fun (P := fun d => ∃ j : Nat, j < ds.length ∧ d = .int (j : Int)) (p := fun _ => false) (f := fun d => d) (fun d hj kx hk => g_nameV (by decide) (hk _ (fun kb hb => ?_) (fun e => by cases e))) _ [] (fun d hd' => intsUp_mem _ d hd') ?_
    ·obtain ⟨j, hj, rfl⟩ := hj
     have ej := List.getElem?_eq_getElem hj
     have hm := List.getElem_mem hj
     refine d_not (d_tB (d_call (d_cons (d_op (d_var rfl (d_var rfl (r_ix (.inr (r_ixT (atI_nat ej) (d_cons (d_op (d_var rfl (d_var rfl (r_ix (.inr (r_ixT (atI_nat ej) (d_nil ⟨_, rfl, ds[j], rfl, hd _ hm, by omega, _, rfl, hb⟩)))))))))))))))))
    ·rw [List.filter_eq_nil_iff.mpr fun _ _ => by simp, List.map_nil, List.append_nil]
     refine d_lst (d_nil ⟨by simp, r_eqFit (n := 2) (by decide) fu fu ?_⟩)
     rw [eqv_self]
     exact q
  case lst ds =>
   cases n with
   | zero => exact hd.elim
   | succ n =>
    obtain ⟨hl, hd⟩ := hd
    have fu : D.fit 2 (.lst []) = true := by simp [D.fit, D.fitL]
    refine s_seq (s_if (d_tB (d_isiTL (d_var rfl ⟨_, rfl, ⟨_, rfl, fun _ => ?_, fun e => (by cases e)⟩⟩))))
    refine s_seq (s_if (d_or (d_not (d_tB (d_isiTL (d_var rfl ⟨_, rfl, ⟨_, rfl, ⟨fun e => (by cases e), fun _ => ?_⟩⟩⟩))))))
    refine d_test (d_op (d_cb (d_cons (d_var rfl (d_cons (d_c rfl (d_nil (c_lst rfl (d_cb (d_cons (d_var rfl (d_cons (d_c rfl (d_nil (c_lst rfl (r_ne rfl rfl rfl ⟨_, rfl, fun e => (by simp at e), fun _ => s_next ?_⟩))))))))))))))))
    refine s_seq (s_if (d_test (d_op (d_cb (d_cons (d_var rfl (d_nil (c_lenS (.inl rfl) (d_cb (d_cons (d_var rfl (d_nil (c_lenS (.inl rfl) (r_neI ⟨_, rfl, fun e => (by simp at e), fun _ => s_next ?_⟩))))))))))))) )
    refine s_ret (d_op (d_lc (i_range1 (d_cons (d_cb (d_cons (d_var rfl (d_nil (c_lenS (.inl rfl) (d_nil ⟨_, rfl, by omega, by omega, ?_⟩))))))))))
    rw [Int.toNat_natCast]
    refine ⟨by rw [intsUp_len]; omega, ?_⟩
    refine lcW_fun (P := fun d => ∃ j : Nat, j < ds.length ∧ d = .int (j : Int)) (p := fun _ => false) (f := fun d => d) (fun d hj kx hk => g_nameV (by decide) (hk _ (fun kb hb => ?_) (fun e => by cases e))) _ [] (fun d hd' => intsUp_mem _ d hd') ?_
    ·obtain ⟨j, hj, rfl⟩ := hj
     have ej := List.getElem?_eq_getElem hj
     have hm := List.getElem_mem hj
     refine d_not (d_tB (d_call (d_cons (d_op (d_var rfl (d_var rfl (r_ix (.inl (r_ixL (atI_nat ej) (d_cons (d_op (d_var rfl (d_var rfl (r_ix (.inl (r_ixL (atI_nat ej) (d_nil ⟨_, rfl, ds[j], rfl, hd _ hm, by omega, _, rfl, hb⟩)))))))))))))))))
    ·rw [List.filter_eq_nil_iff.mpr fun _ _ => by simp, List.map_nil, List.append_nil]
     refine d_lst (d_nil ⟨by simp, r_eqFit (n := 2) (by decide) fu fu ?_⟩)
     rw [eqv_self]
     exact q
  all_goals (cases n <;> exact hd.elim)
 intro n
 induction n with
 | zero => exact step 0 (okF F sc_law_alike (fun _ _ _ _ _ _ us hl => match us, hl with | [_, _], _ => rfl) (fun ds k h => by obtain ⟨m, h, _⟩ := h; omega) (fun f cdv A outer s H E ds kk hr h => by obtain ⟨m, h, _⟩ := h; omega))
 | succ n ih => exact step (n + 1) (ih.imp fun ds k h => by
  obtain ⟨m, e, h⟩ := h
  have : m = n := by omega
  subst this
  exact h)
end
end Pr
set_option Elab.async false
set_option linter.all false
set_option maxRecDepth 100000
set_option maxHeartbeats 4000000
namespace Pr
open PySem L2 PD PyProof.Rows LamX
variable [Tabs]
abbrev s_law_due : Stmt := top 72
abbrev N_law_due : List Str := ["_law_text", "_law_names", "_law_words", "_law_tree_here", "_law_place", "_law_named", "_law_word", "_law_name"]
theorem sc_law_due : FnScope N_law_due ["_law_text", "_law_names"] (defScope s_law_due) := ⟨rfl, rfl, rfl, by decide +kernel, rfl, by decide +kernel, by decide +kernel⟩
abbrev s_law_told : Stmt := top 74
abbrev N_law_told : List Str := ["_law_shelf_here", "_law_text", "_law_told_here"]
theorem sc_law_told : FnScope N_law_told ["_law_shelf_here", "_law_text"] (defScope s_law_told) := ⟨rfl, rfl, rfl, by decide +kernel, rfl, by decide +kernel, by decide +kernel⟩
theorem res_empty {ns : List Str} {r : D} (h : Res FU ns (Txt.split "" " ") r) : Res FU ns [] r := by
 have e : Txt.split "" " " = [("" : Str)] := by decide +kernel
 have ef : frm FU [("" : Str)] = (none, [("" : Str)]) := rfl
 rw [e] at h
 cases h with
 | text e1 h1 =>
  rw [ef] at e1
  cases e1
  exact .text (o := none) (r := []) rfl (.inl rfl)
 | bad e1 => rw [ef] at e1; cases e1
 | tree e1 => rw [ef] at e1; cases e1
theorem size_wds : ∀ t : Tr, t.size ≤ (wdsD t.toD).length := by
 intro t
 induction t <;> simp only [Tr.toD, wdsD, wdsL, Tr.size, List.length_cons, List.length_append, List.length_nil] <;> omega
theorem depth_size : ∀ t : Tr, t.depth ≤ t.size := by
 intro t
 induction t <;> simp only [Tr.size, Tr.depth] <;> omega
theorem names_in {ns : List Str} : ∀ {t : Tr}, t.ok partsS → (t.ok ns ↔ ∀ w ∈ wdsD t.toD, w ∈ partsS → w ∈ ns) := by
 have dn : ∀ d ∈ deedsS, d ∉ partsS := by decide
 have wn : ∀ d ∈ (["part", "with", "without", "also", "renamed", "over"] : List Str), d ∉ partsS := by decide
 intro t
 induction t with
 | part p =>
  intro h
  simp only [Tr.toD, wdsD, wdsL, Tr.ok, List.mem_cons, List.append_nil, List.not_mem_nil, or_false]
  exact ⟨fun q w hw hp => by rcases hw with rfl | rfl; exact absurd hp (wn _ (by decide)); exact q, fun q => q p (.inr rfl) h⟩
 | wit x y ihx ihy =>
  intro h
  simp only [Tr.toD, wdsD, wdsL, Tr.ok, List.mem_cons, List.mem_append, List.append_nil]
  rw [ihx h.1, ihy h.2]
  exact ⟨fun q w hw hp => by rcases hw with rfl | hw | hw; exact absurd hp (wn _ (by decide)); exact q.1 w hw hp; exact q.2 w hw hp, fun q => ⟨fun w hw => q w (.inr (.inl hw)), fun w hw => q w (.inr (.inr hw))⟩⟩
 | wo x d ih =>
  intro h
  simp only [Tr.toD, wdsD, wdsL, Tr.ok, List.mem_cons, List.mem_append, List.append_nil, List.not_mem_nil, or_false]
  rw [ih h.1]
  exact ⟨fun q w hw hp => by rcases hw with rfl | hw | rfl; exact absurd hp (wn _ (by decide)); exact q.1 w hw hp; exact absurd hp (dn _ h.2), fun q => ⟨fun w hw => q w (.inr (.inl hw)), h.2⟩⟩
 | also x d n ih =>
  intro h
  simp only [Tr.toD, wdsD, wdsL, Tr.ok, List.mem_cons, List.mem_append, List.append_nil, List.not_mem_nil, or_false, List.singleton_append]
  rw [ih h.1]
  exact ⟨fun q w hw hp => by rcases hw with rfl | hw | rfl | rfl; exact absurd hp (wn _ (by decide)); exact q.1 w hw hp; exact absurd hp (dn _ h.2.1); exact absurd hp (dn _ h.2.2), fun q => ⟨fun w hw => q w (.inr (.inl hw)), h.2⟩⟩
 | ren x d n ih =>
  intro h
  simp only [Tr.toD, wdsD, wdsL, Tr.ok, List.mem_cons, List.mem_append, List.append_nil, List.not_mem_nil, or_false, List.singleton_append]
  rw [ih h.1]
  exact ⟨fun q w hw hp => by rcases hw with rfl | hw | rfl | rfl; exact absurd hp (wn _ (by decide)); exact q.1 w hw hp; exact absurd hp (dn _ h.2.1); exact absurd hp (dn _ h.2.2), fun q => ⟨fun w hw => q w (.inr (.inl hw)), h.2⟩⟩
 | over x p ih =>
  intro h
  simp only [Tr.toD, wdsD, wdsL, Tr.ok, List.mem_cons, List.mem_append, List.append_nil, List.not_mem_nil, or_false]
  rw [ih h.1]
  exact ⟨fun q w hw hp => by rcases hw with rfl | hw | rfl; exact absurd hp (wn _ (by decide)); exact q.1 w hw hp; exact q.2, fun q => ⟨fun w hw => q w (.inr (.inl hw)), q p (.inr (.inr rfl)) h.2⟩⟩
def namedW (W : List Str) : List Str := W.filter fun w => decide (w ∈ partsS)
def missW (ns W : List Str) : List Str := (namedW W).filter fun w => !decide (w ∈ ns)
theorem good_is {ns : List Str} {t : Tr} (h : t.ok partsS) : goodT ns t ↔ t.depth ≤ 10 ∧ t.size ≤ 40 ∧ missW ns (wdsD t.toD) = [] := by
 unfold goodT missW namedW
 rw [names_in h, List.filter_eq_nil_iff]
 constructor
 ·rintro ⟨a, b, c⟩
  refine ⟨b, c, fun w hw => ?_⟩
  obtain ⟨h1, h2⟩ := List.mem_filter.mp hw
  simp [a w h1 (of_decide_eq_true h2)]
 ·rintro ⟨b, c, a⟩
  refine ⟨fun w hw hp => ?_, b, c⟩
  have := a w (List.mem_filter.mpr ⟨hw, decide_eq_true hp⟩)
  simpa using this
theorem tr_tup (t : Tr) : ∃ ds, t.toD = .tup ds := by cases t <;> exact ⟨_, rfl⟩
theorem tr_noText {t : Tr} {i : Int} (h : t.toD = .tup [.str "BadText", .int i]) : False := by
 cases t <;> simp [Tr.toD] at h
theorem part_fit : ∀ s ∈ partsS, PyData.strOk s = true := by decide +kernel
section
variable {K : PySem.W.Frag} {hs : Option (Addr × Addr)} {k : D → Prop} {x y : D} {n : Nat}
theorem r_neFit (hn : n ≤ 64) (hx : D.fit n x = true) (hy : D.fit n y = true) (q : k (.bl (!PyData.eqv x.py y.py))) : dR K hs (rNeD K) x y k := fun G H v u Q f r1 r2 z =>
 ⟨_, _, rel_dp f.sub r1 hx, rel_dp f.sub r2 hy, fit_shaped hn hx, fit_shaped hn hy, z _ G H _ f.refl .bl q⟩
end
theorem fitL_all' {n : Nat} : ∀ {ds : List D}, D.fitL n ds = true ↔ ∀ d ∈ ds, D.fit n d = true
 | [] => by simp [D.fitL]
 | d :: r => by simp [D.fitL, fitL_all' (ds := r)]
theorem fit_miss (ns W : List Str) : D.fit 2 (.lst (strsOf (missW ns W))) = true := by
 simp only [D.fit]
 refine fitL_all'.mpr fun d hd => ?_
 obtain ⟨s, hs, rfl⟩ := List.mem_map.mp hd
 have h1 := (List.mem_filter.mp hs).1
 have h2 := (List.mem_filter.mp h1).2
 simpa only [D.fit] using part_fit s (of_decide_eq_true h2)
theorem eqv_miss (l : List Str) : PyData.eqv (D.lst (strsOf l)).py (D.lst []).py = l.isEmpty := by
 cases l <;> simp [strsOf, D.py, D.pyL, PyData.eqv, PyData.eqvAll]
section
variable {P : Program} {w : World} {K : PySem.W.Frag} {mg : Str → Option Value} {base : Heap}
def M_due : List D → (D → Prop) → Prop := fun ds k => ∃ (t : Str) (ns : List Str) (r : D), ds = [.str t, .lst (strsOf ns)] ∧ TxOk 135 t ∧ Res FU ns (Txt.split t " ") r ∧ k r
theorem ok_due (F : DefT K mg "_law_due" s_law_due) (zl : mg "len" = none) (zi : mg "list" = none) (C_law_from : Cal P w K mg base 141 "_law_from" ["_law_words", "_law_at"] none (M_from FU)) (C_law_deep : Cal P w K mg base 141 "_law_deep" ["_law_tree_here"] none (M_ldeep 140)) (C_law_many : Cal P w K mg base 141 "_law_many" ["_law_tree_here"] none (M_lmany 140)) :
  Cal P w K mg base 142 "_law_due" ["_law_text", "_law_names"] none M_due := by
 have T : Unit := ()
 refine okF F sc_law_due (fun _ _ _ _ _ _ us hl => match us, hl with | [_, _], _ => rfl) (fun ds k h => ?_) (fun f cdv A outer s H E ds kk hr h => ?_)
 ·obtain ⟨_, _, _, rfl, _⟩ := h
  rfl
 obtain ⟨t, ns, r, rfl, ht, hres, q⟩ := h
 refine ⟨_, (pss_cons (ps_set (i := 2) sc_law_due.nd rfl (by first | exact Or.inl rfl | exact Or.inr rfl) (pe_ifExp (pt_cmpR op_ne (pv 0) pe_str (nomark _)) (pe_split (pv 0) pe_str) (pe_lst pa_nil)))
   (pss_cons (ps_asg (pe_calK (K := K) rfl C_law_from (hr.mono (by first | decide | omega)) rfl (pa_cons (pv 2) (pa_cons pe_int pa_nil))) (pg_tupK (K := K) (n := 2) rfl rfl (pgs_cons (pg_name (i := 3) sc_law_due.nd rfl (by first | exact Or.inl rfl | exact Or.inr rfl)) (pgs_cons (pg_name (i := 4) sc_law_due.nd rfl (by first | exact Or.inl rfl | exact Or.inr rfl)) pgs_nil))))
   (pss_cons (ps_if (PW.pt (pw_or (pt_cmpR op_isN (pv 3) pe_non (nomark _)) (pw_or1 (pt_cmpR op_lt (pv 4) (pe_callB (r := rLenQ K) (id := "len")  call_len_seq (by rfl) zl PySem.boot_len (pa_cons (pv 2) pa_nil)) (nomark _))))) (pss_one (ps_ret (pe_tup (pa_cons pe_str (pa_cons (pv 4) pa_nil))))) pss_nil)
   (pss_cons (ps_setLc (i := 5) (own := [("_law_word", 6)]) (g := gName 6) rfl sc_law_due.nd rfl rfl (sw_true rfl rfl rfl (by decide +kernel)) (pi_list (pv 2)) (blkOk_by (own := [("_law_word", 6)]) (N := N_law_due) (sc := defScope s_law_due) (by decide +kernel)) (fun _ _ _ _ _ => (pg_name (i := 6) sc_law_due.nd rfl (by first | exact Or.inl rfl | exact Or.inr rfl))) (fun _ _ _ _ _ => (pts_one (pt_cmpR (r := rIn K false) op_in_seq (pv 6) (pe_callTy (r := PD.rListStr) (T := "list")  (PD.cr_listStr rfl) (by rfl) zi (by decide +kernel) (pa_cons pe_str pa_nil)) rfl))) (fun _ _ _ _ _ => (pv 6)))
   (pss_cons (ps_if (PW.pt (pw_or (pt_cmpR op_gt (pe_calK (K := K) rfl C_law_deep (hr.mono (by first | decide | omega)) rfl (pa_cons (pv 3) pa_nil)) pe_int (nomark _)) (pw_or (pt_cmpR op_gt (pe_calK (K := K) rfl C_law_many (hr.mono (by first | decide | omega)) rfl (pa_cons (pv 3) pa_nil)) pe_int (nomark _)) (pw_or1 (pt_cmpR (r := rNeD K) (op_neD hr.units) (pe_lc (own := [("_law_name", 7)]) (g := gName 7) rfl sc_law_due.nd (pi_list (pv 5)) (blkOk_by (own := [("_law_name", 7)]) (N := N_law_due) (sc := defScope s_law_due) (by decide +kernel)) (fun _ _ _ _ _ => (pg_name (i := 7) sc_law_due.nd rfl (by first | exact Or.inl rfl | exact Or.inr rfl))) (fun _ _ _ _ _ => (pts_one (pt_cmpR (r := rIn K true) op_notIn_seq (pv 7) (pv 1) rfl))) (fun _ _ _ _ _ => (pv 7))) (pe_lst pa_nil) (nomark _)))))) (pss_one (ps_ret pe_str)) pss_nil)
   (pss_one (ps_ret (pv 3)))))))), ?_⟩
 try dsimp only [cxOf]
 change dS _ _ _ [Sl.d _, Sl.d _, Sl.un, Sl.un, Sl.un, Sl.un, Sl.un, Sl.un] _
 have hw := ht.ws
 have hl := ht.len
 have sl : ∀ l : List Str, (strsOf l).length = l.length := fun l => by simp [strsOf]
 refine s_cut (I := fun ρ => ∃ W : List Str, W.length ≤ 135 ∧ Res FU ns W r ∧ ρ = [.d (.str t), .d (.lst (strsOf ns)), .d (.lst (strsOf W)), .un, .un, .un, .un, .un]) (s_set (d_ifE (d_test (d_op (d_var rfl (d_c rfl (r_neS ⟨_, rfl, fun e => ?_, fun e => ?_⟩))))))) ?_
 ·exact d_split (d_var rfl ⟨_, rfl, d_c rfl ⟨_, rfl, by decide +kernel, Nat.le_trans (Nat.add_le_add_right hl 2) (by decide), _, hw, hres, rfl⟩⟩)
 ·have et : t = "" := by simpa using e
  subst et
  exact d_lst (d_nil ⟨by simp, [], by simp, res_empty hres, rfl⟩)
 rintro _ ⟨W, hW, hres, rfl⟩
 refine s_seq (s_asg (d_call (d_cons (d_var rfl (d_cons (d_c rfl (d_nil ⟨W, W, 0, rfl, by omega, by simp, by simp, by have : FU = 140 := rfl; omega, ?_⟩)))))))
 have hcase : (∃ (o : Option D) (r1 : List Str), frm FU W = (o, r1) ∧ (o = none ∨ r1 ≠ []) ∧ kk (.tup [.str "BadText", .int ((W.length - r1.length : Nat) : Int)])) ∨ ∃ t0 : Tr, frm FU W = (some t0.toD, []) ∧ t0.ok partsS ∧ (goodT ns t0 → kk t0.toD) ∧ (¬ goodT ns t0 → kk (.str "BadTree")) := by
  cases hres with
  | text e1 h1 => exact .inl ⟨_, _, e1, h1, q⟩
  | bad e1 h1 hg => exact .inr ⟨_, e1, h1, fun g => absurd g hg, fun _ => q⟩
  | tree e1 h1 hg => exact .inr ⟨_, e1, h1, fun _ => q, fun g => absurd hg g⟩
 rcases hcase with ⟨o, r1, e1, h1, q⟩ | ⟨t0, e1, ht0, q1, q2⟩
 ·have hsuf := frm_suf FU W
  rw [e1]
  refine g_tup rfl (gs_cons (g_name (gs_cons (g_name (gs_nil ?_)))))
  obtain ⟨l, hl1⟩ := hsuf _ _ e1
  have hl2 := suf_len hl1
  have fin : ∀ (s5 s6 s7 : Sl) (x : D) (nx : List Sl → Prop), dS K none (tRet (tTup (tCons (tC (.str "BadText")) (tCons (tVar 4) tNil)))) [.d (.str t), .d (.lst (strsOf ns)), .d (.lst (strsOf W)), .d x, .d (.int ((W.length - r1.length : Nat) : Int)), s5, s6, s7] { nx := nx, rt := kk } := fun s5 s6 s7 x nx => s_ret (d_tup (d_cons (d_c rfl (d_cons (d_var rfl (d_nil ⟨by simp, q⟩))))))
  cases o with
  | none => exact s_seq (s_if (d_or (d_test (d_op (d_var rfl (d_c rfl (r_isN ⟨_, rfl, fun _ => ⟨fun _ => fin _ _ _ _ _, fun e => (by cases e)⟩, fun e => (by cases e)⟩)))))))
  | some d =>
   obtain ⟨dl, rfl⟩ : ∃ dl, d = .tup dl := by
    obtain ⟨_, t, rfl, _⟩ := frm_tree _ _ _ _ e1
    exact tr_tup t
   refine s_seq (s_if (d_or (d_test (d_op (d_var rfl (d_c rfl (r_isN ⟨_, rfl, fun e => (by cases e), fun _ => ?_⟩)))))))
   refine d_test (d_op (d_var rfl (d_cb (d_cons (d_var rfl (d_nil (c_lenS (.inl rfl) (r_I0 rfl ⟨_, rfl, fun _ => fin _ _ _ _ _, fun e => ?_⟩))))))))
   exfalso
   have e := of_decide_eq_false e
   dsimp only at e
   rw [sl] at e
   have : 0 < r1.length := by
    cases r1 with
    | nil => simp at h1
    | cons => simp
   omega
 ·obtain ⟨dl, et⟩ := tr_tup t0
  have hw0 := (frm_tree _ _ _ _ e1).1
  rw [List.append_nil] at hw0
  have z1 := size_wds t0
  have z2 := depth_size t0
  rw [← hw0] at z1
  have gi := good_is (ns := ns) ht0
  rw [← hw0] at gi
  rw [e1, et]
  refine g_tup rfl (gs_cons (g_name (gs_cons (g_name (gs_nil ?_)))))
  refine s_seq (s_if (d_or (d_test (d_op (d_var rfl (d_c rfl (r_isN ⟨_, rfl, fun e => (by cases e), fun _ => ?_⟩)))))))
  refine d_test (d_op (d_var rfl (d_cb (d_cons (d_var rfl (d_nil (c_lenS (.inl rfl) (r_I0 rfl ⟨_, rfl, fun e => ?_, fun _ => s_next ?_⟩))))))))
  ·exfalso
   have e := of_decide_eq_true e
   dsimp only [List.length_nil] at e
   rw [sl] at e
   omega
  refine s_seq (s_set (d_lc (i_list (d_var rfl ⟨_, rfl, by rw [sl]; omega, ?_⟩))))
  refine lcW_mem D.str (fun w => decide (w ∈ partsS)) D.str W (fun s hs kk hk => g_nameV (by decide) (hk _ (fun kb q => d_test (d_op (d_var rfl (d_ofL (l_listStr (d_c rfl ⟨_, rfl, by decide +kernel, ?_⟩)))))) (fun _ k q => d_var rfl q))) ?_
  ·rw [abc6]
   exact r_in2 ⟨_, rfl, q⟩
  rw [show (W.filter fun w => decide (w ∈ partsS)).map D.str = strsOf (namedW W) from rfl]
  have nl : (namedW W).length ≤ W.length := List.length_filter_le _ _
  refine s_seq (s_if (d_or (d_test (d_op (d_call (d_cons (d_var rfl (d_nil ⟨t0, (by rw [et]; rfl), by omega, d_c rfl (r_I0 rfl ⟨_, rfl, fun e => ⟨fun _ => ?_, fun e => (by cases e)⟩, fun e => ?_⟩)⟩))))))))
  ·have e := of_decide_eq_true e
   exact s_ret (d_c rfl (q2 fun g => by have := g.2.1; omega))
  have c1 := of_decide_eq_false e
  refine d_or (d_test (d_op (d_call (d_cons (d_var rfl (d_nil ⟨t0, (by rw [et]; rfl), by omega, by omega, d_c rfl (r_I0 rfl ⟨_, rfl, fun e => ⟨fun _ => ?_, fun e => (by cases e)⟩, fun e => ?_⟩)⟩))))))
  ·have e := of_decide_eq_true e
   exact s_ret (d_c rfl (q2 fun g => by have := g.2.2; omega))
  have c2 := of_decide_eq_false e
  refine d_test (d_op (d_lc (i_list (d_var rfl ⟨_, rfl, by rw [show (strsOf (namedW W)).length = (namedW W).length from by simp [strsOf]]; omega, ?_⟩))))
  refine lcW_mem D.str (fun w => !decide (w ∈ ns)) D.str (namedW W) (fun s hs kk hk => g_nameV (by decide) (hk _ (fun kb q => d_test (d_op (d_var rfl (d_var rfl (r_in3 ⟨_, rfl, q⟩))))) (fun _ k q => d_var rfl q))) ?_
  rw [show ((namedW W).filter fun w => !decide (w ∈ ns)).map D.str = strsOf (missW ns W) from rfl]
  refine d_lst (d_nil ⟨by simp, r_neFit (n := 2) (by decide) (fit_miss ns W) (by simp [D.fit, D.fitL]) ⟨_, rfl, ?_⟩⟩)
  rw [eqv_miss]
  refine ⟨fun e => s_ret (d_c rfl (q2 fun g => ?_)), fun e => s_next (s_ret (d_var rfl ?_))⟩
  ·rw [(gi.mp g).2.2] at e
   cases e
  ·rw [← et]
   refine q1 (gi.mpr ⟨by omega, by omega, ?_⟩)
   have : (missW ns W).isEmpty = true := by simpa using e
   exact List.isEmpty_iff.mp this
def toldQ : Str := ("_law_told" : Str) ++ (".<locals>." : Str) ++ "<lambda>"
structure ToldTab (K : PySem.W.Frag) (mg : Str → Option Value) (base : Heap) (c p : Addr) (nm : Nat → Nat → Str) : Prop where
 tab : LamX.TabB base mg c p
 mem : (p, nm) ∈ Tabs.T
 one : ∀ q ∈ Tabs.T, q.1 = p → q.2 = nm
 nm : ∀ l d : Nat, l = 393 → nm l d = toldQ
 code : ∀ (f : Addr) (oc : Value) (od : Option Addr) (fd : FuncData) (osl : Array (Option Value)), mg "_law_told" = some (.ref f) → K.lookup f = some ⟨oc, od, .func fd, osl⟩ → fd.code = .ref c
def M_ltold : List D → (D → Prop) → Prop := fun ds k => ∃ (ps : List Pt) (t : Str) (r : D), ds = [.lst (ps.map Pt.toD), .str t] ∧ ShOk ps ∧ TxOk 135 t ∧ Res FU (ps.map Pt.name) (Txt.split t " ") r ∧ k r
theorem ok_ltold {g : Addr} {fdk : FuncData} {c p : Addr} {nm : Nat → Nat → Str} (F : DefT K mg "_law_told" s_law_told) (LT : ToldTab K mg base c p nm) (KT : KindT K mg) (F0 : FldT K 0 "why") (F3 : FldT K 3 "name") (F7 : FldT K 7 "place") (E2 : ErrT K 2) (E7 : ErrT K 7)
  (FK : FunD K "_law_kind" "_law_kind" (defArgs s_law_kind) (defBody s_law_kind) (defScope s_law_kind) [] [] g fdk) (gK : mg "_law_kind" = some (.ref g)) (bK : Binds K fdk ["_law_work"] [])
  (CY_read_tree : CalY P w K mg base 21 "read_tree" ["shelf", "text"] none (M_rtreeX (errC K 7) (errC K 2))) : Cal P w K mg base 25 "_law_told" ["_law_shelf_here", "_law_text"] none M_ltold := by
 have C_read_tree : Cal P w K mg base 21 "read_tree" ["shelf", "text"] none (fun ds k => M_rtreeX (errC K 7) (errC K 2) ds k fun _ _ => False) := CY_read_tree.cal fun _ _ h => h
 have T : Unit := ()
 refine okX F LT.code sc_law_told (fun _ _ _ _ _ _ us hl => match us, hl with | [_, _], _ => rfl) (fun ds k h => ?_) (fun f A outer s H E ds kk hr h => ?_)
 ·obtain ⟨_, _, _, rfl, _⟩ := h
  rfl
 obtain ⟨ps, t, r, rfl, sh, ht, hres, q⟩ := h
 have hu := hu_of hr
 refine ⟨_, (pss_cons (ps_set (i := 2) sc_law_told.nd rfl (by first | exact Or.inl rfl | exact Or.inr rfl) (PD.pe_lamE (t := fun E => tCallS (spF K none (M_rtreeX (errC K 7) (errC K 2))) (fun _ => E) (tCons (tVar 0) (tCons (tVar 1) tNil))) FK rfl gK bK sc_law_kind rfl (by first | exact Or.inl rfl | exact Or.inr (Or.inl rfl) | exact Or.inr rfl) (fun cdv => gives_kindF KT F0 F3 F7) LT.tab rfl (LT.nm _ _ rfl) (hr.mono (by decide)) (lamS_by (sc := defScope s_law_told) (by decide +kernel)) rfl (fun _ _ _ _ _ => rfl) (fun A outer s H E f c' hr' => PD.pe_calY (E := E) CY_read_tree (takes_of rfl rfl rfl rfl) hr' rfl (pa_cons (pv 0) (pa_cons (pv 1) pa_nil)))))
   (pss_one (ps_ret (pe_ifExp (pt_cmpR (r := rEqD K) (op_eqD hr.units) (pv 2) pe_str (nomark _)) (pe_calK (K := K) rfl C_read_tree (hr.mono (by first | decide | omega)) rfl (pa_cons (pv 0) (pa_cons (pv 1) pa_nil))) (pv 2))))), ?_⟩
 try dsimp only [cxOf]
 change dS _ _ _ [Sl.d _, Sl.d _, Sl.un] _
 have f0 : D.fit 3 (.str "") = true := by decide +kernel
 have f1 : D.fit 3 (.str "BadTree") = true := by decide +kernel
 have f2 : ∀ i : Int, D.fit 3 (.tup [.str "BadText", .int i]) = true := fun i => by
  have : D.fit 2 (.str "BadText") = true := by decide +kernel
  simp only [D.fit, D.fitL] at this ⊢
  simp [this]
 refine s_seq (s_set (d_lamF LT.mem LT.one fun E kb kr h1 h2 => f_callP (d_cons (d_var rfl (d_cons (d_var rfl (d_nil ⟨ps, t, r, rfl, sh, ht, hres, fun i ei => h2 _ _ _ ⟨7, E7, rfl, .place⟩ ?_, fun e => h2 _ _ _ ⟨2, E2, rfl, .word (by omega)⟩ ?_, fun g => h1 _ ?_⟩)))))))
 ·refine s_ret (d_ifE (d_test (d_op (d_var rfl (d_c rfl (r_eqFit (n := 3) (by decide) (f2 i) f0 ⟨_, rfl, fun e => absurd e ?_, fun _ => d_var rfl ?_⟩))))))
  ·simp [D.py, D.pyL, PyData.eqv]
  ·rw [← ei]; exact q
 ·refine s_ret (d_ifE (d_test (d_op (d_var rfl (d_c rfl (r_eqFit (n := 3) (by decide) f1 f0 ⟨_, rfl, fun e => absurd e ?_, fun _ => d_var rfl ?_⟩))))))
  ·decide +kernel
  ·rw [e] at q; exact q
 ·refine s_ret (d_ifE (d_test (d_op (d_var rfl (d_c rfl (r_eqFit (n := 3) (by decide) f0 f0 ⟨_, rfl, fun _ => ?_, fun e => absurd e ?_⟩))))))
  ·obtain ⟨t0, rfl, o1, o2⟩ := g
   exact d_call (d_cons (d_var rfl (d_cons (d_var rfl (d_nil ⟨ps, t, t0.toD, rfl, sh, ht, hres, fun i ei => tr_noText ei, fun e => (by cases t0 <;> cases e), fun _ => q⟩)))))
  ·decide +kernel
end
end Pr
set_option Elab.async false
set_option linter.all false
set_option maxRecDepth 100000
set_option maxHeartbeats 4000000
namespace Pr
open PySem L2 PD LamX
variable [Tabs]
abbrev s_law : Stmt := top 75
abbrev N_law : List Str := ["_law_script", "_law_h", "_law_odd", "_law_turn", "_law_shelf_here", "_law_text", "_law_change", "_law_some", "_law_names", "_law_part_here", "_law_one"]
theorem sc_law : FnScope N_law ["_law_script"] (defScope s_law) := ⟨rfl, rfl, rfl, by decide +kernel, rfl, by decide +kernel, by decide +kernel⟩
theorem okD_tr : ∀ {t : Tr} {n : Nat}, t.depth ≤ n → okD (n + 1) t.toD := by
 intro b
 have at1 : ∀ {n : Nat} {ds : List D}, ds.length ≤ 4 → (∀ d ∈ ds, okD n d) → okD (n + 1) (.tup ds) := fun h1 h2 => ⟨by omega, h2⟩
 have st : ∀ (n : Nat) (s : Str), okD n (.str s) := fun n s => by cases n <;> trivial
 induction b <;> intro n h <;> simp only [Tr.depth] at h <;> (cases n with | zero => omega | succ n => ?_) <;> simp only [Tr.toD] <;> refine at1 (by simp) (fun d hd => ?_) <;> simp only [List.mem_cons, List.not_mem_nil, or_false] at hd
 case part => rcases hd with rfl | rfl <;> exact st _ _
 case wit x y ihx ihy => rcases hd with rfl | rfl | rfl; exact st _ _; exact ihx (by omega); exact ihy (by omega)
 case wo x d ih => rcases hd with rfl | rfl | rfl; exact st _ _; exact ih (by omega); exact st _ _
 case also x d m ih => rcases hd with rfl | rfl | rfl | rfl; exact st _ _; exact ih (by omega); exact st _ _; exact st _ _
 case ren x d m ih => rcases hd with rfl | rfl | rfl | rfl; exact st _ _; exact ih (by omega); exact st _ _; exact st _ _
 case over x d ih => rcases hd with rfl | rfl | rfl; exact st _ _; exact ih (by omega); exact st _ _
theorem tsz : ∀ t : Tr, t.size + 1 ≤ 2 ^ t.depth := fun t => by
 have mo : ∀ {a b : Nat}, a ≤ b → 2 ^ a ≤ 2 ^ b := fun h => Nat.pow_le_pow_right (by omega) h
 induction t with
 | part p => simp [Tr.size, Tr.depth]
 | wit x y ihx ihy =>
  have m1 := mo (Nat.le_max_left x.depth y.depth)
  have m2 := mo (Nat.le_max_right x.depth y.depth)
  simp only [Tr.size, Tr.depth, Nat.pow_succ]
  omega
 | wo x d ih => simp only [Tr.size, Tr.depth, Nat.pow_succ]; omega
 | also x d n ih => simp only [Tr.size, Tr.depth, Nat.pow_succ]; omega
 | ren x d n ih => simp only [Tr.size, Tr.depth, Nat.pow_succ]; omega
 | over x p ih => simp only [Tr.size, Tr.depth, Nat.pow_succ]; omega
theorem atom_short {d : D} (h : atomD d) : ∀ w ∈ wdsD d, w.length ≤ 10 := fun w hw => by
 obtain ⟨v, e, t⟩ := atom_wds h
 rw [e, List.mem_singleton] at hw
 subst hw
 rw [← t]
 exact atom_len h
theorem nest_short : ∀ (n : Nat) {d : D}, nestOk n d → ∀ w ∈ wdsD d, w.length ≤ 10
 | 0, _, h => h.elim
 | n + 1, d, h => by
  obtain ⟨v, ds, rfl, hv, _, hd⟩ := h
  intro w hw
  simp only [wdsD, List.mem_cons, wdsL_flat] at hw
  rcases hw with rfl | hw
  ·exact hv
  ·obtain ⟨l, hl, hw⟩ := List.mem_flatten.mp hw
   obtain ⟨x, hx, rfl⟩ := List.mem_map.mp hl
   rcases hd x hx with a | a
   ·exact atom_short a w hw
   ·exact nest_short n a w hw
def odd1 : List Str := ["", " ", "part", "part a", "part A", "part A ", "part A part A", "with part A", "over part A B"]
def odd2 : List Str := [PySem.Txt.mul "without " 9 ++ "part A" ++ PySem.Txt.mul " a" 9, PySem.Txt.mul "without " 10 ++ "part A" ++ PySem.Txt.mul " a" 10]
def odd3 : List Str := ["also part A a", "with" ++ PySem.Txt.mul " with" 4 ++ PySem.Txt.mul " part A" 6]
theorem odd_tx : ∀ t ∈ odd1 ++ odd2 ++ odd3, TxOk 135 t := by
 have : ∀ t ∈ odd1 ++ odd2 ++ odd3, cnt t ≤ 100 ∧ t.length ≤ 300 := by decide +kernel
 intro t ht
 have h := this t ht
 exact ⟨by rw [split_cnt]; omega, by omega⟩
def bnd : Nat → Nat
 | 0 => 1400
 | i + 1 => 3 * bnd i + 12
theorem bnd_le : ∀ i, i ≤ 3 → bnd i ≤ 40000 := by
 intro i hi
 have : ∀ j : Fin 4, bnd j.val ≤ 40000 := by decide
 exact this ⟨i, by omega⟩
theorem bnd_le2 : ∀ i, i ≤ 2 → bnd i ≤ 13000 := by
 intro i hi
 have : ∀ j : Fin 3, bnd j.val ≤ 13000 := by decide
 exact this ⟨i, by omega⟩
theorem tree_txi {ns : List Str} (hn : ∀ x ∈ ns, x ∈ partsS) {t : Tr} (ht : t.ok ns) (hz : t.size ≤ 31) : TxI 123 1400 (sp (wdsD t.toD)) := by
 have no := tree_of hn ht
 have nw := nest_wds _ no
 have tl := wdt_size t
 have pl : ∀ w ∈ wdsD t.toD, plainW w := fun w hw => (Tr.nst hn ht .nil).plain w (by simpa only [wdsL, List.append_nil] using hw)
 have c0 : ∀ w ∈ wdsD t.toD, cnt w = 0 := fun w hw => List.count_eq_zero.mpr (pl w hw).1
 have c1 := joined_cnt nw.1
 have c2 := joined_len nw.1
 rw [sum_zero c0] at c1
 have s1 := sum_le (l := (wdsD t.toD)) (m := 10) fun x hx => nest_short _ no x hx
 have s2 : ∀ l : List Str, (l.map fun w => w.length + 1).sum = (l.map (·.length)).sum + l.length := fun l => by
  induction l with
  | nil => rfl
  | cons x r ih => simp only [List.map_cons, List.sum_cons, List.length_cons]; omega
 rw [s2] at c2
 exact ⟨by show cnt (Txt.join " " _) ≤ _; omega, by show (Txt.join " " _).length ≤ _; omega⟩
theorem res_okD {n : Nat} {ns ws : List Str} {d : D} (h : Res n ns ws d) : okD 30 d := by
 cases h with
 | text => exact ⟨by simp, fun d hd => by simp only [List.mem_cons, List.not_mem_nil, or_false] at hd; rcases hd with rfl | rfl <;> trivial⟩
 | bad => trivial
 | tree _ _ g => exact okD_tr (n := 29) (by have := g.2.1; omega)
section
variable {P : Program} {w : World} {K : PySem.W.Frag} {mg : Str → Option Value} {base : Heap}
theorem weakL_shelf {G : Hp} : ∀ {ps : List Pt} {vs : List V}, RelL K G vs (ps.map Pt.toF) → RelL K G vs (ps.map Pt.toD)
 | [], _, h => h
 | p :: ps, _, h => by
  rw [List.map_cons] at h
  cases h with
  | cons h1 h2 => exact .cons (weak_toF p _ _ h1) (weakL_shelf h2)
theorem weak_shelf (ps : List Pt) : Weak K (.lst (ps.map Pt.toF)) (.lst (ps.map Pt.toD)) := fun G v r => by
 obtain ⟨a, vs, rfl, h, r⟩ := rel_lst r
 exact .lst h (weakL_shelf r)
def spMix2 (K : PySem.W.Frag) : Sp := fun vs H Q _ => ∃ (a : Addr) (ns : List Int) (sd : Int), vs = [.ref a, .int sd] ∧ 0 ≤ sd ∧ sd < 2147483647 ∧ SqL K H a (ns.map V.int) ∧
 ∀ (m : Int) (ah as : Addr) (H' : Hp), 0 ≤ m → m < 2147483647 → H' ah = some (.lst [.int m, .ref as, .int 0]) → H' as = some (.lst (ns.map V.int)) → (∀ b o, H b = some o → H' b = some o) → Q (.ref ah) H'
theorem ok_mix2 (F : DefT K mg "_law_mix" s_law_mix) (zl : mg "list" = none) : CalU P w K mg base 1 "_law_mix" ["_law_script", "_law_seed"] (spMix2 K) := by
 obtain ⟨f, fd, h1, h2⟩ := F
 refine ⟨f, fd, h1, h2.kp, h2.bindsN (fun _ _ _ _ _ _ us hl => match us, hl with | [_, _], _ => rfl), ?_⟩
 refine h2.ok sc_law_mix (fun vs H Q E h => ?_) (fun cdv A outer s H vs Q E hr h => ?_)
 ·obtain ⟨_, _, _, rfl, _⟩ := h
  rfl
 obtain ⟨a, ns, sd, rfl, d0, d1, hS, z⟩ := h
 refine ⟨_, PSs.nox ((pss_cons (ps_set (i := 2) sc_law_mix.nd rfl (by first | exact Or.inl rfl | exact Or.inr rfl) (pv 1))
   (pss_cons (ps_for PassesOwn.never rfl (pi_list (pv 0)) (pg_name (i := 3) sc_law_mix.nd rfl (by first | exact Or.inl rfl | exact Or.inr rfl)) (pss_one (ps_set (i := 2) sc_law_mix.nd rfl (by first | exact Or.inl rfl | exact Or.inr rfl) (pe_op op_modN (pe_op op_add (pe_op op_add (pe_op op_mul (pv 2) pe_int) (pe_op op_modN (pv 3) pe_int)) pe_int) pe_int))))
   (pss_one (ps_ret (pe_lst (pa_cons (pv 2) (pa_cons (pe_callTy (r := rListQ K) (T := "list")  call_list_of (by rfl) zl (by decide +kernel) (pa_cons (pv 0) pa_nil)) (pa_cons pe_int pa_nil))))))))), ?_⟩
 refine ⟨_, rfl, ?_⟩
 refine ⟨_, rfl, a, rfl, ⟨_, hS⟩, fun i m σ H' => H' = H ∧ i ≤ ns.length ∧ m = ns.length - i ∧ ∃ (x : Int) (s3 : Option V), 0 ≤ x ∧ x < 2147483647 ∧ σ = [some (.ref a), some (.int sd), some (.int x), s3], ⟨_, rfl, Nat.zero_le _, rfl, sd, none, d0, d1, rfl⟩, ?_⟩
 rintro i m σ H' ⟨rfl, hi, rfl, x, s3, x0, x1, rfl⟩
 by_cases hl : i < ns.length
 ·refine .inr ⟨⟨_, .int ns[i], hS, by simp [hl]⟩, fun σ' H'' => ∃ m', m' < ns.length - i ∧ (H'' = H' ∧ i + 1 ≤ ns.length ∧ m' = ns.length - (i + 1) ∧ ∃ (x : Int) (s3 : Option V), 0 ≤ x ∧ x < 2147483647 ∧ σ' = [some (.ref a), some (.int sd), some (.int x), s3]), fun σ' H'' h => h, fun v H2 ⟨e1, e2⟩ => ?_⟩
  subst e1
  have ev := e2 _ hS
  rw [List.getElem?_map, List.getElem?_eq_getElem hl] at ev
  have ev := Option.some.inj ev
  subst ev
  refine ⟨_, rfl, _, _, rfl, rfl, .inr (by decide), _, rfl, _, _, rfl, rfl, (show (2147483629 : Int) ≠ 0 by decide), _, _, rfl, rfl, _, _, rfl, rfl, _, _, rfl, rfl, (show (2147483647 : Int) ≠ 0 by decide), ?_⟩
  exact ⟨_, by omega, rfl, hl, rfl, _, _, Int.fmod_nonneg_of_pos _ (by decide), Int.fmod_lt_of_pos _ (by decide), rfl⟩
 ·refine .inl ⟨⟨_, hS, by simp; omega⟩, ?_⟩
  refine ⟨_, rfl, _, rfl, a, _, rfl, .inl hS, fun l hl' => ⟨(show 3 ≤ sizeLine by decide), fun p hp => ?_⟩⟩
  have ne : l ≠ p := ne_of_none upd_same hp
  refine z x p l _ x0 x1 upd_same ((upd_ne ne).trans upd_same) fun b o e => ?_
  have n1 : b ≠ l := ne_of_none e hl'
  have e2 : upd H' l (.lst (ns.map V.int)) b = some o := by rw [upd_ne n1]; exact e
  rw [upd_ne (ne_of_none e2 hp)]
  exact e2
def spLaw (K : PySem.W.Frag) : Sp := fun vs H Q _ => ∃ (a : Addr) (ns : List Int), vs = [.ref a] ∧ SqL K H a (ns.map V.int) ∧ ns.length ≤ 63 ∧ (∀ q ∈ Tabs.T, H q.1 = some (.tbl #[])) ∧ ∀ H', Q (.bl true) H'
abbrev U (M : Addr → List D → (D → Prop) → Prop) (K : PySem.W.Frag) : Sp := fun vs H Q E => ∃ i : Addr × Addr, spD K (some i) (M i.1) vs H Q E
theorem d_callA {ah as : Addr} {ρ : List Sl} {k : D → Prop} {tx : TA} {X : XK} {M : Addr → List D → (D → Prop) → Prop} (h : dA K (some (ah, as)) tx ρ fun ds => M ah ds k) : dE K (some (ah, as)) (tCall (U M K) [] X tx) ρ k := d_callU (M := fun i => M i.1) (i := (ah, as)) h
theorem ok_law {f : Addr} {fd : FuncData} (F : FunD K "law" "law" (defArgs s_law) (defBody s_law) (defScope s_law) [] [] f fd) (zr : mg "range" = none) (zl : mg "len" = none)
  (C_law_mix : CalU P w K mg base 1 "_law_mix" ["_law_script", "_law_seed"] (spMix2 K)) (C_law_next : CalU P w K mg base 1 "_law_next" ["_law_h", "_law_many_here"] (U M_next K)) (C_law_shelf : CalU P w K mg base 11 "_law_shelf" ["_law_h"] (U M_shelf K)) (C_law_tree : CalU P w K mg base 7 "_law_tree" ["_law_h", "_law_shelf_here", "_law_deep_here"] (U (fun ah => M_tree ah 5) K))
  (C_law_changed : CalU P w K mg base 2 "_law_changed" ["_law_h", "_law_text"] (U M_changed K)) (C_written_tree : Cal P w K mg base 21 "written_tree" ["shelf", "tree"] none M_wtree) (C_law_told : Cal P w K mg base 25 "_law_told" ["_law_shelf_here", "_law_text"] none M_ltold) (C_law_due : Cal P w K mg base 142 "_law_due" ["_law_text", "_law_names"] none M_due)
  (C_law_alike : Cal P w K mg base 32 "_law_alike" ["_law_found", "_law_due_here"] none (M_lalike 30)) :
  FnOk P w K mg base CX0 143 f fd ["_law_script"] (spLaw K) := by
 refine F.ok sc_law (fun vs H Q E h => ?_) (fun cdv A outer s H vs Q E hr h => ?_)
 ·obtain ⟨_, _, rfl, _⟩ := h
  rfl
 obtain ⟨a, ns, rfl, hS, hl, hH, z⟩ := h
 have hu := hu_of hr
 have T : Unit := ()
 refine ⟨_, PSs.nox ((pss_cons (ps_set (i := 1) sc_law.nd rfl (by first | exact Or.inl rfl | exact Or.inr rfl) (PD.pe_calU (K := K) rfl C_law_mix (hr.mono (by first | decide | omega)) rfl (pa_cons (pv 0) (pa_cons pe_int pa_nil))))
   (pss_cons (ps_set (i := 2) sc_law.nd rfl (by first | exact Or.inl rfl | exact Or.inr rfl) (pe_lst (pa_cons pe_str (pa_cons pe_str (pa_cons pe_str (pa_cons pe_str (pa_cons pe_str (pa_cons pe_str (pa_cons pe_str (pa_cons pe_str (pa_cons pe_str pa_nil)))))))))))
   (pss_cons (ps_set (i := 2) sc_law.nd rfl (by first | exact Or.inl rfl | exact Or.inr rfl) (pe_op op_cat (pv 2) (pe_lst (pa_cons (pe_op (r := PD.rAddT) op_add_str (pe_op (r := PD.rAddT) op_add_str (pe_op PD.op_mulS pe_str pe_int) pe_str) (pe_op PD.op_mulS pe_str pe_int)) (pa_cons (pe_op (r := PD.rAddT) op_add_str (pe_op (r := PD.rAddT) op_add_str (pe_op PD.op_mulS pe_str pe_int) pe_str) (pe_op PD.op_mulS pe_str pe_int)) pa_nil)))))
   (pss_cons (ps_set (i := 2) sc_law.nd rfl (by first | exact Or.inl rfl | exact Or.inr rfl) (pe_op op_cat (pv 2) (pe_lst (pa_cons pe_str (pa_cons (pe_op (r := PD.rAddT) op_add_str (pe_op (r := PD.rAddT) op_add_str pe_str (pe_op PD.op_mulS pe_str pe_int)) (pe_op PD.op_mulS pe_str pe_int)) pa_nil)))))
   (pss_cons (ps_for PassesOwn.never rfl (pi_range1 rfl zr (pa_cons pe_int pa_nil)) (pg_name (i := 3) sc_law.nd rfl (by first | exact Or.inl rfl | exact Or.inr rfl)) (pss_cons (ps_set (i := 4) sc_law.nd rfl (by first | exact Or.inl rfl | exact Or.inr rfl) (PD.pe_calU (K := K) rfl C_law_shelf (hr.mono (by first | decide | omega)) rfl (pa_cons (pv 1) pa_nil)))
   (pss_cons (ps_set (i := 5) sc_law.nd rfl (by first | exact Or.inl rfl | exact Or.inr rfl) (pe_calK (K := K) rfl C_written_tree (hr.mono (by first | decide | omega)) rfl (pa_cons (pv 4) (pa_cons (PD.pe_calU (K := K) rfl C_law_tree (hr.mono (by first | decide | omega)) rfl (pa_cons (pv 1) (pa_cons (pv 4) (pa_cons pe_int pa_nil)))) pa_nil))))
   (pss_cons (ps_for PassesOwn.never rfl (pi_range1 rfl zr (pa_cons (PD.pe_calU (K := K) rfl C_law_next (hr.mono (by first | decide | omega)) rfl (pa_cons (pv 1) (pa_cons pe_int pa_nil))) pa_nil)) (pg_name (i := 6) sc_law.nd rfl (by first | exact Or.inl rfl | exact Or.inr rfl)) (pss_one (ps_set (i := 5) sc_law.nd rfl (by first | exact Or.inl rfl | exact Or.inr rfl) (PD.pe_calU (K := K) rfl C_law_changed (hr.mono (by first | decide | omega)) rfl (pa_cons (pv 1) (pa_cons (pv 5) pa_nil))))))
   (pss_cons (ps_set (i := 7) sc_law.nd rfl (by first | exact Or.inl rfl | exact Or.inr rfl) (pe_slice (r := rSlL K) sl_list (pv 4) po_none (po_some (pe_op op_add pe_int (PD.pe_calU (K := K) rfl C_law_next (hr.mono (by first | decide | omega)) rfl (pa_cons (pv 1) (pa_cons (pe_callB (r := rLenQ K) (id := "len")  call_len_seq (by rfl) zl PySem.boot_len (pa_cons (pv 4) pa_nil)) pa_nil)))))))
   (pss_cons (ps_setLc (i := 8) (own := [("_law_part_here", 9)]) (g := gName 9) (tt := tYes) rfl sc_law.nd rfl rfl (sw_true rfl rfl rfl (by decide +kernel)) (pi_list (pv 7)) (blkOk_by (own := [("_law_part_here", 9)]) (N := N_law) (sc := defScope s_law) (by decide +kernel)) (fun _ _ _ _ _ => (pg_name (i := 9) sc_law.nd rfl (by first | exact Or.inl rfl | exact Or.inr rfl))) (fun _ _ _ _ _ => pts_nil) (fun _ _ _ _ _ => (pe_ix (r := rIx K) ix_seq (pv 9) pe_int (fun _ _ => rfl))))
   (pss_one (ps_for PassesOwn.never rfl (pi_list (pe_lst (pa_cons (pv 5) (pa_cons (pe_ix (r := rIx K) ix_seq (pv 2) (PD.pe_calU (K := K) rfl C_law_next (hr.mono (by first | decide | omega)) rfl (pa_cons (pv 1) (pa_cons pe_int pa_nil))) (fun _ _ => rfl)) pa_nil)))) (pg_name (i := 10) sc_law.nd rfl (by first | exact Or.inl rfl | exact Or.inr rfl)) (pss_one (ps_if (pt_not (pt_val (pe_calK (K := K) rfl C_law_alike (hr.mono (by first | decide | omega)) rfl (pa_cons (pe_calK (K := K) rfl C_law_told (hr.mono (by first | decide | omega)) rfl (pa_cons (pv 7) (pa_cons (pv 10) pa_nil))) (pa_cons (pe_calK (K := K) rfl C_law_due (hr.mono (by first | decide | omega)) rfl (pa_cons (pv 10) (pa_cons (pv 8) pa_nil))) pa_nil))))) (pss_one (ps_ret pe_bl)) pss_nil))))))))))
   (pss_one (ps_ret pe_bl)))))))), ?_⟩
 refine ⟨_, rfl, a, ns, 73, rfl, by decide, by decide, hS, fun m ah as H' m0 m1 e1 e2 keep => ?_⟩
 have ne : ah ≠ as := fun e => by
  subst e
  rw [e1] at e2
  have e3 : [V.int m, V.ref ah, V.int 0] = ns.map V.int := by
   injection e2 with e2
   injection e2 with e2
  have : V.ref ah ∈ ns.map V.int := by rw [← e3]; simp
  obtain ⟨n, _, e4⟩ := List.mem_map.mp this
  cases e4
 let G : Hp := fun _ => none
 have fr : Fr (some (ah, as)) G H' := ⟨fun b o e => (by cases e), fun q hq => ⟨rfl, #[], keep _ _ (hH q hq), trivial, fun pos cv h => (by cases h)⟩, ne, rfl, rfl, m, 0, ns, e1, e2, hl, by omega, m0, m1⟩
 have env : EnvR K (some (ah, as)) H' G H' ((L2.start N_law [V.ref a]).set 1 (some (.ref ah))) ((startD N_law [.adr a]).set 1 (.d (.adr ah))) := (env_start (.cons .adr .nil)).set (s := .d (.adr ah)) ⟨_, rfl, .adr⟩ fun _ e => (by cases e)
 have ends : Ends' K (some (ah, as)) G H' G { nx := fun _ => False, rt := fun d => d = .bl true } { nx := fun _ H' => Q .non H', rt := Q } := ⟨fun _ _ _ _ _ _ _ q => q.elim, fun v G' H'' d _ r q => by
  subst q
  rw [rel_bl r]
  exact z _, fun _ _ _ _ _ _ _ q => q.elim, fun _ _ _ _ _ _ _ q => q.elim⟩
 have key : ∀ t u : TS, dS K (some (ah, as)) (tSeq t u) ((startD N_law [.adr a]).set 1 (.d (.adr ah))) { nx := fun _ => False, rt := fun d => d = .bl true } → tSeq t u { nx := fun _ H' => Q .non H', rt := Q } ((L2.start N_law [V.ref a]).set 1 (some (.ref ah))) H' := fun t u h => h G H' G _ G H' _ fr.refl (Same.refl G) env ends
 dsimp only [gName, cxOf]
 refine key (tAsg _ _) (tSeq _ _) ?_
 change dS K (some (ah, as)) _ [.d (.adr a), .d (.adr ah), .un, .un, .un, .un, .un, .un, .un, .un, .un] _
 have sl : ∀ l : List Str, (strsOf l).length = l.length := fun l => by simp [strsOf]
 refine s_seq (s_set (d_lst (d_cons (d_c rfl (d_cons (d_c rfl (d_cons (d_c rfl (d_cons (d_c rfl (d_cons (d_c rfl (d_cons (d_c rfl (d_cons (d_c rfl (d_cons (d_c rfl (d_cons (d_c rfl (d_nil ⟨by simp, ?_⟩)))))))))))))))))))))
 refine s_seq (s_set (d_ofL (l_cat (d_var rfl (d_lst (d_cons (d_op (d_op (d_op (d_c rfl (d_c rfl (r_mulS (by unfold MulOk; decide +kernel) (d_c rfl (r_addT (by decide +kernel) (d_op (d_c rfl (d_c rfl (r_mulS (by unfold MulOk; decide +kernel) (r_addT (by decide +kernel) ?_)))))))))))))))))))
 refine d_cons (d_op (d_op (d_op (d_c rfl (d_c rfl (r_mulS (by unfold MulOk; decide +kernel) (d_c rfl (r_addT (by decide +kernel) (d_op (d_c rfl (d_c rfl (r_mulS (by unfold MulOk; decide +kernel) (r_addT (by decide +kernel) (d_nil ⟨by simp, _, _, rfl, rfl, by simp, ?_⟩))))))))))))))
 refine s_seq (s_set (d_ofL (l_cat (d_var rfl (d_lst (d_cons (d_c rfl ?_)))))))
 refine d_cons (d_op (d_op (d_c rfl (d_op (d_c rfl (d_c rfl (r_mulS (by unfold MulOk; decide +kernel) (r_addT (by decide +kernel) (d_op (d_c rfl (d_c rfl (r_mulS (by unfold MulOk; decide +kernel) (r_addT (by decide +kernel) (d_nil ⟨by simp, _, _, rfl, rfl, by simp, ?_⟩))))))))))))))
 obtain ⟨odds, hodds⟩ : ∃ odds, odds = odd1 ++ odd2 ++ odd3 := ⟨_, rfl⟩
 have oddT : ∀ t ∈ odds, TxOk 135 t := by rw [hodds]; exact odd_tx
 have oddL : odds.length = 13 := by rw [hodds]; rfl
 refine (show ∀ (t : TS) (E : DEnds), dS K (some (ah, as)) t [.d (.adr a), .d (.adr ah), .d (.lst (strsOf odds)), .un, .un, .un, .un, .un, .un, .un, .un] E → dS K (some (ah, as)) t [.d (.adr a), .d (.adr ah), .d (.lst (strsOf (odd1 ++ odd2 ++ odd3))), .un, .un, .un, .un, .un, .un, .un, .un] E from fun t E h => by rw [← hodds]; exact h) _ _ ?_
 let J : List Sl → Prop := fun ρ => ∃ s3 s4 s5 s6 s7 s8 s9 s10, ρ = [.d (.adr a), .d (.adr ah), .d (.lst (strsOf odds)), s3, s4, s5, s6, s7, s8, s9, s10]
 refine s_cut (I := J) (s_for (i_range1 (d_cons (d_c rfl (d_nil ⟨4, rfl, by decide, by decide, ?_⟩))))) ?_
 rotate_left
 ·rintro _ ⟨s3, s4, s5, s6, s7, s8, s9, s10, rfl⟩
  exact s_ret (d_c rfl rfl)
 refine forW_inv (fun _ ρ => J ρ) (fun ρ h => h) (fun d r ρ h => ?_) _ _ ⟨_, _, _, _, _, _, _, _, rfl⟩
 obtain ⟨s3, s4, s5, s6, s7, s8, s9, s10, rfl⟩ := h
 refine g_name (s_seq (s_set (d_callA (d_cons (d_var rfl (d_nil (m_shelf fun ps l6 l1 hps hnm => ?_)))))))
 have nd : (ps.map Pt.name).Nodup := by rw [hnm]; exact (show partsS.Nodup by decide +kernel).sublist (List.take_sublist _ _)
 have sh : ShOk ps := ⟨l6, fun p hp => (hps p hp).1, nd⟩
 have hn : ∀ x ∈ ps.map Pt.name, x ∈ partsS := fun x hx => by
  obtain ⟨p, hp, rfl⟩ := List.mem_map.mp hx
  exact (sh.ok p hp).n
 refine s_seq (s_set (d_callP (d_cons (d_weak (d_var rfl ⟨_, weak_shelf ps, d_cons (d_callA (d_cons (d_var rfl (d_cons (d_var rfl (d_cons (d_c rfl (d_nil ⟨ps, 4, rfl, l6, l1, by decide, by decide, fun t ht dt => ?_⟩))))))))⟩)))))
 have td : t.depth ≤ 5 := by omega
 have tz : t.size ≤ 31 := by
  have h1 := tsz t
  have h2 : 2 ^ t.depth ≤ 2 ^ 5 := Nat.pow_le_pow_right (by decide) td
  omega
 refine d_nil ⟨ps, t, rfl, sh, ht, by omega, by omega, ?_⟩
 have t0 := tree_txi hn ht tz
 refine s_cut (I := fun ρ => ∃ (t' : Str) (s3 s6 : Sl), TxI 126 40000 t' ∧ ρ = [.d (.adr a), .d (.adr ah), .d (.lst (strsOf odds)), s3, .d (.lst (ps.map Pt.toF)), .d (.str t'), s6, s7, s8, s9, s10]) (s_for (i_range1 (d_cons (d_callA (d_cons (d_var rfl (d_cons (d_c rfl (d_nil (m_next (by decide) (by decide) fun c c0 c1 => d_nil ⟨c, rfl, by omega, by omega, ?_⟩)))))))))) ?_
 ·obtain ⟨c, rfl⟩ := Int.eq_ofNat_of_zero_le c0
  rw [Int.toNat_natCast]
  refine forW_inv (fun r ρ => ∃ (i : Nat) (t' : Str) (s6 : Sl), r.length + i = c ∧ TxI (123 + i) (bnd i) t' ∧ ρ = [.d (.adr a), .d (.adr ah), .d (.lst (strsOf odds)), .d d, .d (.lst (ps.map Pt.toF)), .d (.str t'), s6, s7, s8, s9, s10]) ?_ ?_ _ _ ⟨0, _, _, by rw [intsUp_len]; rfl, t0, rfl⟩
  ·rintro ρ ⟨i, t', s6, hi, ht', rfl⟩
   rw [List.length_nil] at hi
   exact ⟨t', _, _, ⟨by have := ht'.c; omega, by have := ht'.l; have := bnd_le i (by omega); omega⟩, rfl⟩
  ·rintro d' r' ρ ⟨i, t', s6, hi, ht', rfl⟩
   rw [List.length_cons] at hi
   exact g_name (s_set (d_callA (d_cons (d_var rfl (d_cons (d_var rfl (d_nil ⟨t', 123 + i, bnd i, rfl, ht', by omega, bnd_le2 i (by omega), fun t'' h'' => ⟨i + 1, t'', _, by omega, h'', rfl⟩⟩)))))))
 rintro _ ⟨t', s3, s6, ht', rfl⟩
 have tx' : TxOk 135 t' := ⟨by rw [split_cnt]; have := ht'.c; omega, ht'.l⟩
 refine s_seq (s_set (d_ofL (l_slL (d_var rfl (o_no (o_part (d_op (d_c rfl (d_callA (d_cons (d_var rfl (d_cons (d_cb (d_cons (d_var rfl (d_nil (c_lenS (.inl rfl) (d_nil ?_))))))))))))))))))
 rw [List.length_map]
 refine m_next (by omega) (by omega) fun u u0 u1 => r_I0 rfl ⟨_, rfl, _, rfl, ?_⟩
 obtain ⟨u, rfl⟩ := Int.eq_ofNat_of_zero_le u0
 rw [show (1 + ((u : Nat) : Int)) = ((u + 1 : Nat) : Int) from by omega, cut_to (by rw [List.length_map]; omega), show (ps.map Pt.toF).take (u + 1) = (ps.take (u + 1)).map Pt.toF from by rw [List.map_take]]
 obtain ⟨qs, hqs⟩ : ∃ qs, qs = ps.take (u + 1) := ⟨_, rfl⟩
 rw [← hqs]
 have lq : qs.length ≤ 6 := by rw [hqs, List.length_take]; omega
 have shq : ShOk qs := ⟨lq, fun p hp => sh.ok p (by rw [hqs] at hp; exact List.mem_of_mem_take hp), by rw [hqs, List.map_take]; exact nd.sublist (List.take_sublist _ _)⟩
 refine s_seq (s_set (d_lc (i_list (d_var rfl ⟨_, rfl, by rw [List.length_map]; omega, ?_⟩))))
 refine lcW_mem Pt.toF (fun _ => true) (fun p => .str p.name) qs (fun p hp kk hk => g_nameV (by decide) (hk _ (fun kb q => d_yes q) fun _ k q => d_op (d_var rfl (d_c rfl (r_ix (.inr (r_ixT (show atI _ ((0 : Nat) : Int) = _ from atI_nat rfl) q))))))) ?_
 rw [List.filter_eq_self.mpr fun _ _ => rfl, show (qs.map fun p => D.str p.name) = strsOf (qs.map Pt.name) from by unfold strsOf; rw [List.map_map]; rfl]
 refine s_for (i_list (d_lst (d_cons (d_var rfl (d_cons (d_op (d_var rfl (d_callA (d_cons (d_var rfl (d_cons (d_c rfl (d_nil (m_next (by decide) (by decide) fun o o1 o2 => r_pick o1 (by rw [sl, oddL]; omega) fun v hv => d_nil ⟨by simp, _, rfl, ?_⟩))))))))))))))
 obtain ⟨ov, hov, rfl⟩ : ∃ ov ∈ odds, v = .str ov := by
  obtain ⟨ov, h1, h2⟩ := List.mem_map.mp hv
  exact ⟨ov, h1, h2.symm⟩
 refine forW_inv (fun r ρ => (∀ d ∈ r, ∃ t : Str, d = .str t ∧ TxOk 135 t) ∧ ∃ s3 s6 s9 s10, ρ = [.d (.adr a), .d (.adr ah), .d (.lst (strsOf odds)), s3, .d (.lst (ps.map Pt.toF)), .d (.str t'), s6, .d (.lst (qs.map Pt.toF)), .d (.lst (strsOf (qs.map Pt.name))), s9, s10]) ?_ ?_ _ _ ⟨fun d hd => ?_, _, _, _, _, rfl⟩
 ·rintro ρ ⟨_, s3, s6, s9, s10, rfl⟩
  exact ⟨_, _, _, _, _, _, _, _, rfl⟩
 ·rintro d' r' ρ ⟨hr', s3, s6, s9, s10, rfl⟩
  obtain ⟨t1, rfl, tx1⟩ := hr' d' List.mem_cons_self
  obtain ⟨rr, hres⟩ := res_some FU (qs.map Pt.name) (Txt.split t1 " ")
  refine g_name (s_if (d_not (d_tB (d_callP (d_cons (d_callP (d_cons (d_weak (d_var rfl ⟨_, weak_shelf qs, d_cons (d_var rfl (d_nil ⟨qs, t1, rr, rfl, shq, tx1, hres, d_cons (d_callP (d_cons (d_var rfl (d_cons (d_var rfl (d_nil ⟨t1, qs.map Pt.name, rr, rfl, tx1, hres, d_nil ⟨rr, rfl, res_okD hres, by decide, _, rfl, ?_⟩⟩))))))⟩))⟩)))))))))
  exact ⟨fun e => (by cases e), fun _ => s_next ⟨fun d hd => hr' d (List.mem_cons_of_mem _ hd), _, _, _, _, rfl⟩⟩
 ·simp only [List.mem_cons, List.not_mem_nil, or_false] at hd
  rcases hd with rfl | rfl
  ·exact ⟨_, rfl, tx'⟩
  ·exact ⟨_, rfl, oddT _ hov⟩
end
end Pr
set_option Elab.async false
set_option linter.all false
set_option maxRecDepth 100000
set_option maxHeartbeats 4000000
namespace Pr
open PySem L2 PD
variable {K : PySem.W.Frag}
theorem err_of {j : Nat} (h : PD.errB K "PartError" kindN j = true) : ErrT K j := by
 unfold PD.errB at h
 simp only [Bool.and_eq_true, decide_eq_true_eq] at h
 obtain ⟨h1, h2, h3, h4, h5, h6, h7, h8, h9, h10, h11, h12, h13, h14⟩ := h
 exact { exm := h1, ec := ⟨He.eqO_ok h2, He.eqO_ok h3, h4, h5, He.eqO_ok h6, He.eqO_ok h7, h8, h9⟩, kit := fun i hi => of_decide_eq_true (List.all_eq_true.mp h10 i (List.mem_range.mpr hi)), val := h11 }
theorem raise_of {mg : Str → Option Value} {j : Nat} {x : Str} (h : PD.errB K "PartError" kindN j = true) (g : mg x = some (.ref (errC K j))) : RaiseT K mg x (errC K j) := by
 unfold PD.errB at h
 simp only [Bool.and_eq_true, decide_eq_true_eq] at h
 obtain ⟨h1, h2, h3, h4, h5, h6, h7, h8, h9, h10, h11, h12, h13, h14⟩ := h
 exact ⟨g, h12, h13, h4, h14⟩
theorem errF_of {j : Nat} {fld : Str} (h : PD.errFB K "PartError" kindN j fld = true) : ErrT K j ∧ FldT K j fld ∧ OexC K (errC K j) ∧ PySem.W.findIn K (.ref (errC K j)) "__init__" = some (some (.ref (He.ma K (errC K j) "__init__"))) ∧ PySem.W.typeIn K (.ref (He.ma K (errC K j) "__init__")) = some (.type "function") := by
 unfold PD.errFB at h
 simp only [Bool.and_eq_true, decide_eq_true_eq] at h
 obtain ⟨h1, h2, h3, h4, h5, h6, h7, h8, h9, h10, h11, h12, h13, h14, h15, h16, h17, h18⟩ := h
 refine ⟨{ exm := h1, ec := ⟨He.eqO_ok h2, He.eqO_ok h3, h4, h5, He.eqO_ok h6, He.eqO_ok h7, h8, h9⟩, kit := fun i hi => of_decide_eq_true (List.all_eq_true.mp h10 i (List.mem_range.mpr hi)), val := h11 }, ⟨⟨He.eqO_ok h2, He.eqO_ok h3, h4, h5⟩, He.eqO_ok h16⟩, ⟨PD.oex_cls h14, He.eqO_ok h15, h4, h13, h12⟩, He.eqO_ok h17, h18⟩
end Pr
set_option Elab.async false
set_option linter.all false
set_option maxRecDepth 100000
set_option maxHeartbeats 4000000
namespace Pr
open PySem PySem.Spec PyProof.Rows L2 PD
section
variable {P : Program} {w : World} {K : PySem.W.Frag} {h : Heap} {mg : Str → Option Value}
theorem relV_ref {v : V} {a : Addr} (r : RelV v (.ref a)) : v = .ref a := by
 cases v <;> first | (cases r; rfl) | (cases r; done) | (obtain ⟨_, r⟩ := r; cases r)
theorem glo_rel [Tabs] {x : Str} {d : D} (e : gloB K x d = true) : ∀ G, Rel K G (.ref (He.ga K x)) d := by
 obtain ⟨v, r, q⟩ := con_rel e
 rw [relV_ref r] at q
 exact q
theorem txt_of [Tabs] (X : K.In h) (G : h.Ns mainGlobals mg) (c : He.SaysX faD fnD tsD tfD exD w h K) : Txt w K mg := by
 have e := c.more
 obtain ⟨e, b13⟩ := Bool.and_eq_true_iff.mp e
 obtain ⟨e, b12⟩ := Bool.and_eq_true_iff.mp e
 obtain ⟨e, b11⟩ := Bool.and_eq_true_iff.mp e
 obtain ⟨e, b10⟩ := Bool.and_eq_true_iff.mp e
 obtain ⟨e, b9⟩ := Bool.and_eq_true_iff.mp e
 obtain ⟨e, b8⟩ := Bool.and_eq_true_iff.mp e
 obtain ⟨e, b7⟩ := Bool.and_eq_true_iff.mp e
 obtain ⟨e, b6⟩ := Bool.and_eq_true_iff.mp e
 obtain ⟨e, b5⟩ := Bool.and_eq_true_iff.mp e
 obtain ⟨e, b4⟩ := Bool.and_eq_true_iff.mp e
 obtain ⟨e, b3⟩ := Bool.and_eq_true_iff.mp e
 obtain ⟨e, b2⟩ := Bool.and_eq_true_iff.mp e
 have b1 := e
 obtain ⟨esARMS, nARMS, kARMS⟩ := c.t.tab 0 (t := ((fun K => He.ga K "BODY_ARMS"), _)) rfl
 obtain ⟨esTREES, nTREES, kTREES⟩ := c.t.tab 1 (t := ((fun K => He.ga K "TREE_ARMS"), _)) rfl
 have D_size_of : DefV K mg "size_of" s_size_of [.int 0] := by
  obtain ⟨fd, F⟩ := c.t.d.def_ 0 (d := dd_size_of) rfl
  exact ⟨_, fd, He.glo_ok X G (c.t.d.fact 0 (f := .glo "size_of") rfl), F⟩
 have D_written_nest : DefT K mg "written_nest" s_written_nest := by
  obtain ⟨fd, F⟩ := c.t.d.def_ 1 (d := dd_written_nest) rfl
  exact ⟨_, fd, He.glo_ok X G (c.t.d.fact 1 (f := .glo "written_nest") rfl), F⟩
 have D_misplaced : DefT K mg "misplaced" s_misplaced := by
  obtain ⟨fd, F⟩ := c.t.d.def_ 2 (d := dd_misplaced) rfl
  exact ⟨_, fd, He.glo_ok X G (c.t.d.fact 2 (f := .glo "misplaced") rfl), F⟩
 have D_read_nest : DefT K mg "read_nest" s_read_nest := by
  obtain ⟨fd, F⟩ := c.t.d.def_ 3 (d := dd_read_nest) rfl
  exact ⟨_, fd, He.glo_ok X G (c.t.d.fact 3 (f := .glo "read_nest") rfl), F⟩
 have D_is_number : DefT K mg "is_number" s_is_number := by
  obtain ⟨fd, F⟩ := c.t.d.def_ 4 (d := dd_is_number) rfl
  exact ⟨_, fd, He.glo_ok X G (c.t.d.fact 4 (f := .glo "is_number") rfl), F⟩
 have D_body_arms : DefT K mg "body_arms" s_body_arms := by
  obtain ⟨fd, F⟩ := c.t.d.def_ 5 (d := dd_body_arms) rfl
  exact ⟨_, fd, He.glo_ok X G (c.t.d.fact 5 (f := .glo "body_arms") rfl), F⟩
 have D_fits_body : DefT K mg "fits_body" s_fits_body := by
  obtain ⟨fd, F⟩ := c.t.d.def_ 6 (d := dd_fits_body) rfl
  exact ⟨_, fd, He.glo_ok X G (c.t.d.fact 6 (f := .glo "fits_body") rfl), F⟩
 have D_is_body : DefT K mg "is_body" s_is_body := by
  obtain ⟨fd, F⟩ := c.t.d.def_ 7 (d := dd_is_body) rfl
  exact ⟨_, fd, He.glo_ok X G (c.t.d.fact 7 (f := .glo "is_body") rfl), F⟩
 have D_is_ask : DefT K mg "is_ask" s_is_ask := by
  obtain ⟨fd, F⟩ := c.t.d.def_ 8 (d := dd_is_ask) rfl
  exact ⟨_, fd, He.glo_ok X G (c.t.d.fact 8 (f := .glo "is_ask") rfl), F⟩
 have D_is_deed : DefT K mg "is_deed" s_is_deed := by
  obtain ⟨fd, F⟩ := c.t.d.def_ 9 (d := dd_is_deed) rfl
  exact ⟨_, fd, He.glo_ok X G (c.t.d.fact 9 (f := .glo "is_deed") rfl), F⟩
 have D_is_cell : DefT K mg "is_cell" s_is_cell := by
  obtain ⟨fd, F⟩ := c.t.d.def_ 10 (d := dd_is_cell) rfl
  exact ⟨_, fd, He.glo_ok X G (c.t.d.fact 10 (f := .glo "is_cell") rfl), F⟩
 have D_are_rows : DefT K mg "are_rows" s_are_rows := by
  obtain ⟨fd, F⟩ := c.t.d.def_ 11 (d := dd_are_rows) rfl
  exact ⟨_, fd, He.glo_ok X G (c.t.d.fact 11 (f := .glo "are_rows") rfl), F⟩
 have D_are_asks : DefT K mg "are_asks" s_are_asks := by
  obtain ⟨fd, F⟩ := c.t.d.def_ 12 (d := dd_are_asks) rfl
  exact ⟨_, fd, He.glo_ok X G (c.t.d.fact 12 (f := .glo "are_asks") rfl), F⟩
 have D_fault_of : DefT K mg "fault_of" s_fault_of := by
  obtain ⟨fd, F⟩ := c.t.d.def_ 13 (d := dd_fault_of) rfl
  exact ⟨_, fd, He.glo_ok X G (c.t.d.fact 13 (f := .glo "fault_of") rfl), F⟩
 have D_check_part : DefT K mg "check_part" s_check_part := by
  obtain ⟨fd, F⟩ := c.t.d.def_ 14 (d := dd_check_part) rfl
  exact ⟨_, fd, He.glo_ok X G (c.t.d.fact 14 (f := .glo "check_part") rfl), F⟩
 have D_tree_arms : DefT K mg "tree_arms" s_tree_arms := by
  obtain ⟨fd, F⟩ := c.t.d.def_ 15 (d := dd_tree_arms) rfl
  exact ⟨_, fd, He.glo_ok X G (c.t.d.fact 15 (f := .glo "tree_arms") rfl), F⟩
 have D_check_shelf : DefT K mg "check_shelf" s_check_shelf := by
  obtain ⟨fd, F⟩ := c.t.d.def_ 16 (d := dd_check_shelf) rfl
  exact ⟨_, fd, He.glo_ok X G (c.t.d.fact 16 (f := .glo "check_shelf") rfl), F⟩
 have D_check_tree : DefT K mg "check_tree" s_check_tree := by
  obtain ⟨fd, F⟩ := c.t.d.def_ 17 (d := dd_check_tree) rfl
  exact ⟨_, fd, He.glo_ok X G (c.t.d.fact 17 (f := .glo "check_tree") rfl), F⟩
 have D_is_number_word : DefT K mg "is_number_word" s_is_number_word := by
  obtain ⟨fd, F⟩ := c.t.d.def_ 18 (d := dd_is_number_word) rfl
  exact ⟨_, fd, He.glo_ok X G (c.t.d.fact 18 (f := .glo "is_number_word") rfl), F⟩
 have D_fits_word : DefT K mg "fits_word" s_fits_word := by
  obtain ⟨fd, F⟩ := c.t.d.def_ 19 (d := dd_fits_word) rfl
  exact ⟨_, fd, He.glo_ok X G (c.t.d.fact 19 (f := .glo "fits_word") rfl), F⟩
 have D_worth_of_word : DefT K mg "worth_of_word" s_worth_of_word := by
  obtain ⟨fd, F⟩ := c.t.d.def_ 20 (d := dd_worth_of_word) rfl
  exact ⟨_, fd, He.glo_ok X G (c.t.d.fact 20 (f := .glo "worth_of_word") rfl), F⟩
 have D_written_tree : DefT K mg "written_tree" s_written_tree := by
  obtain ⟨fd, F⟩ := c.t.d.def_ 21 (d := dd_written_tree) rfl
  exact ⟨_, fd, He.glo_ok X G (c.t.d.fact 21 (f := .glo "written_tree") rfl), F⟩
 have D_read_tree : DefT K mg "read_tree" s_read_tree := by
  obtain ⟨fd, F⟩ := c.t.d.def_ 22 (d := dd_read_tree) rfl
  exact ⟨_, fd, He.glo_ok X G (c.t.d.fact 22 (f := .glo "read_tree") rfl), F⟩
 exact {
  KINDS := ⟨_, He.glo_ok X G (c.t.d.fact 43 (f := .glo "KINDS") rfl), glo_rel b1⟩
  DEEDS := ⟨_, He.glo_ok X G (c.t.d.fact 44 (f := .glo "DEED_NAMES") rfl), glo_rel b2⟩
  CELLS := ⟨_, He.glo_ok X G (c.t.d.fact 45 (f := .glo "CELL_NAMES") rfl), glo_rel b3⟩
  PARTS := ⟨_, He.glo_ok X G (c.t.d.fact 46 (f := .glo "PART_NAMES") rfl), glo_rel b4⟩
  ARMS := ⟨_, esARMS, nARMS, He.glo_ok X G (c.t.d.fact 48 (f := .glo "BODY_ARMS") rfl), kARMS, (has_ok b6).1⟩
  TREES := ⟨_, esTREES, nTREES, He.glo_ok X G (c.t.d.fact 49 (f := .glo "TREE_ARMS") rfl), kTREES, (has_ok b7).1⟩
  ARMSN := ⟨fun a e p hp => by
   rw [He.glo_ok X G (c.t.d.fact 48 (f := .glo "BODY_ARMS") rfl)] at e
   cases e
   exact PD.all_ok b9 p hp⟩
  TREESN := ⟨fun a e p hp => by
   rw [He.glo_ok X G (c.t.d.fact 49 (f := .glo "TREE_ARMS") rfl)] at e
   cases e
   exact PD.all_ok b10 p hp⟩
  TRUTHS := ⟨_, He.glo_ok X G (c.t.d.fact 47 (f := .glo "TRUTHS") rfl), glo_rel b5⟩
  FIGS := He.int_ok X G (c.t.d.fact 57 (f := .int "MOST_FIGURES" 3) rfl)
  GREAT := He.int_ok X G (c.t.d.fact 52 (f := .int "GREATEST_IN_BODIES" 99) rfl)
  WORDS := He.int_ok X G (c.t.d.fact 51 (f := .int "MOST_WORDS" 60) rfl)
  AROUND := He.int_ok X G (c.t.d.fact 50 (f := .int "MOST_AROUND" 9) rfl)
  MDEEDS := He.int_ok X G (c.t.d.fact 53 (f := .int "MOST_DEEDS" 8) rfl)
  MCELLS := He.int_ok X G (c.t.d.fact 54 (f := .int "MOST_CELLS" 4) rfl)
  MPARTS := He.int_ok X G (c.t.d.fact 55 (f := .int "MOST_PARTS" 6) rfl)
  MTREES := He.int_ok X G (c.t.d.fact 56 (f := .int "MOST_TREES" 40) rfl)
  z_enumerate := He.free_ok X G (c.t.d.fact 62 (f := .free "enumerate") rfl)
  z_len := He.free_ok X G (c.t.d.fact 65 (f := .free "len") rfl)
  z_isinstance := He.free_ok X G (c.t.d.fact 64 (f := .free "isinstance") rfl)
  z_tuple := He.free_ok X G (c.t.d.fact 74 (f := .free "tuple") rfl)
  z_int := He.free_ok X G (c.t.d.fact 63 (f := .free "int") rfl)
  z_bool := He.free_ok X G (c.t.d.fact 60 (f := .free "bool") rfl)
  z_str := He.free_ok X G (c.t.d.fact 72 (f := .free "str") rfl)
  z_zip := He.free_ok X G (c.t.d.fact 75 (f := .free "zip") rfl)
  z_any := He.free_ok X G (c.t.d.fact 59 (f := .free "any") rfl)
  z_set := He.free_ok X G (c.t.d.fact 70 (f := .free "set") rfl)
  z_sorted := He.free_ok X G (c.t.d.fact 71 (f := .free "sorted") rfl)
  f_misplaced := D_misplaced
  f_read_nest := D_read_nest
  f_is_number_word := D_is_number_word
  f_fits_word := D_fits_word
  f_worth_of_word := D_worth_of_word
  f_written_tree := D_written_tree
  f_read_tree := D_read_tree
  f_size_of := D_size_of
  f_body_arms := D_body_arms
  f_is_number := D_is_number
  f_fits_body := D_fits_body
  f_is_body := D_is_body
  f_is_ask := D_is_ask
  f_is_deed := D_is_deed
  f_is_cell := D_is_cell
  f_are_rows := D_are_rows
  f_are_asks := D_are_asks
  f_fault_of := D_fault_of
  f_check_part := D_check_part
  f_written_nest := D_written_nest
  f_tree_arms := D_tree_arms
  f_check_shelf := D_check_shelf
  f_check_tree := D_check_tree }
def nmC : Nat → Nat → Str := fun l _ => if l = 393 then toldQ else ("check_tree" : Str) ++ (".<locals>." : Str) ++ "fits_tree"
abbrev cA : He.Defn := ("check_tree", none)
abbrev cB : He.Defn := ("_law_told", none)
abbrev tabsK (K : PySem.W.Frag) : Tabs := ⟨[((He.cT K cA).2, nmC), ((He.cT K cB).2, nmC)]⟩
theorem tabs_nm {K : PySem.W.Frag} : ∀ q ∈ (tabsK K).T, q.2 = nmC := fun q hq => by
 rcases List.mem_cons.mp hq with rfl | hq
 ·rfl
 rw [List.mem_singleton.mp hq]
def posF : Stmt → Pos
 | .FunctionDef _ _ _ _ _ _ _ _ _ p => p
 | _ => ⟨0, 0, 0, 0⟩
theorem posF_law_told : ((posF s_fits_tree).line == 393) = false := by rfl
theorem ckTab {base : Heap} (X : K.In h) (G : h.Ns mainGlobals mg) (c : He.SaysX faD fnD tsD tfD exD w h K) (hb : LamX.TabB base mg (He.cT K cA).1 (He.cT K cA).2) : @CkTab (tabsK K) K mg base (He.cT K cA).1 (He.cT K cA).2 nmC := by
 letI := tabsK K
 refine ⟨hb, List.mem_cons_self, fun q hq _ => tabs_nm q hq, fun ps e => ?_, fun f oc od fd osl e1 e2 => ?_⟩
 ·obtain ⟨b, e⟩ := e
  have ep : posF s_fits_tree = ps := congrArg posF e
  subst ep
  unfold nmC
  rw [if_neg (fun z => by have := posF_law_told; rw [z] at this; simp at this)]
 ·have e3 := He.glo_ok X G (c.t.d.fact 17 (f := .glo "check_tree") rfl)
  rw [e3] at e1
  cases e1
  obtain ⟨fd', F⟩ := c.t.d.def_ 17 (d := dd_check_tree) rfl
  obtain ⟨oc', od', dV, kV, doc, pm, an, cdv, ct, osl', rfl, lk, hcd, _, _⟩ := F.ex
  have lk2 : K.lookup (He.ga K "check_tree") = _ := lk
  rw [e2] at lk2
  injection lk2 with lk2
  injection lk2 with _ _ e _
  injection e with e
  obtain ⟨c', hc'⟩ := He.codeIn_ref hcd
  have e4 : fd.code = .ref c' := by rw [e]; exact hc'
  rw [e4]
  have : He.codeOf K ("check_tree", none) = c' := He.codeOf_eq (p := ("check_tree", none)) e2 e4
  show _ = Value.ref (He.codeOf K ("check_tree", none))
  rw [this]
theorem toldTab {base : Heap} (X : K.In h) (G : h.Ns mainGlobals mg) (c : He.SaysX faD fnD tsD tfD exD w h K) (hb : LamX.TabB base mg (He.cT K cB).1 (He.cT K cB).2) : @ToldTab (tabsK K) K mg base (He.cT K cB).1 (He.cT K cB).2 nmC := by
 letI := tabsK K
 refine ⟨hb, List.mem_cons_of_mem _ (List.mem_cons_self), fun q hq _ => tabs_nm q hq, fun l d e => (by subst e; rfl), fun f oc od fd osl e1 e2 => ?_⟩
 have e3 := He.glo_ok X G (c.t.d.fact 41 (f := .glo "_law_told") rfl)
 rw [e3] at e1
 cases e1
 obtain ⟨fd', F⟩ := c.t.d.def_ 41 (d := dd_law_told) rfl
 obtain ⟨oc', od', dV, kV, doc, pm, an, cdv, ct, osl', rfl, lk, hcd, _, _⟩ := F.ex
 have lk2 : K.lookup (He.ga K "_law_told") = _ := lk
 rw [e2] at lk2
 injection lk2 with lk2
 injection lk2 with _ _ e _
 injection e with e
 obtain ⟨c', hc'⟩ := He.codeIn_ref hcd
 have e4 : fd.code = .ref c' := by rw [e]; exact hc'
 rw [e4]
 have : He.codeOf K ("_law_told", none) = c' := He.codeOf_eq (p := ("_law_told", none)) e2 e4
 show _ = Value.ref (He.codeOf K ("_law_told", none))
 rw [this]
theorem facts (X : K.In h) (G : h.Ns mainGlobals mg) (c : He.SaysX faD fnD tsD tfD exD w h K) {f : Addr} (hf : mg ("law" : Str) = some (.ref f)) :
  ∃ fd : FuncData, (∀ (s : Shared) (v : Value), BindsTo s fd ⟨[v], []⟩ [("_law_script", v)]) ∧ ∀ base : Heap, LamX.TabB base mg (He.cT K cA).1 (He.cT K cA).2 → LamX.TabB base mg (He.cT K cB).1 (He.cT K cB).2 → FnOk P w K mg base CX0 143 f fd ["_law_script"] (@spLaw (tabsK K) K) := by
 letI := tabsK K
 have T := txt_of X G c
 have D_law_mix : DefT K mg "_law_mix" s_law_mix := by
  obtain ⟨fd, F⟩ := c.t.d.def_ 23 (d := dd_law_mix) rfl
  exact ⟨_, fd, He.glo_ok X G (c.t.d.fact 23 (f := .glo "_law_mix") rfl), F⟩
 have D_law_next : DefT K mg "_law_next" s_law_next := by
  obtain ⟨fd, F⟩ := c.t.d.def_ 24 (d := dd_law_next) rfl
  exact ⟨_, fd, He.glo_ok X G (c.t.d.fact 24 (f := .glo "_law_next") rfl), F⟩
 have D_law_alike : DefT K mg "_law_alike" s_law_alike := by
  obtain ⟨fd, F⟩ := c.t.d.def_ 25 (d := dd_law_alike) rfl
  exact ⟨_, fd, He.glo_ok X G (c.t.d.fact 25 (f := .glo "_law_alike") rfl), F⟩
 have D_law_leaf : DefT K mg "_law_leaf" s_law_leaf := by
  obtain ⟨fd, F⟩ := c.t.d.def_ 26 (d := dd_law_leaf) rfl
  exact ⟨_, fd, He.glo_ok X G (c.t.d.fact 26 (f := .glo "_law_leaf") rfl), F⟩
 have D_law_call : DefT K mg "_law_call" s_law_call := by
  obtain ⟨fd, F⟩ := c.t.d.def_ 27 (d := dd_law_call) rfl
  exact ⟨_, fd, He.glo_ok X G (c.t.d.fact 27 (f := .glo "_law_call") rfl), F⟩
 have D_law_body : DefT K mg "_law_body" s_law_body := by
  obtain ⟨fd, F⟩ := c.t.d.def_ 28 (d := dd_law_body) rfl
  exact ⟨_, fd, He.glo_ok X G (c.t.d.fact 28 (f := .glo "_law_body") rfl), F⟩
 have D_law_reckons : DefT K mg "_law_reckons" s_law_reckons := by
  obtain ⟨fd, F⟩ := c.t.d.def_ 29 (d := dd_law_reckons) rfl
  exact ⟨_, fd, He.glo_ok X G (c.t.d.fact 29 (f := .glo "_law_reckons") rfl), F⟩
 have D_law_calls : DefT K mg "_law_calls" s_law_calls := by
  obtain ⟨fd, F⟩ := c.t.d.def_ 30 (d := dd_law_calls) rfl
  exact ⟨_, fd, He.glo_ok X G (c.t.d.fact 30 (f := .glo "_law_calls") rfl), F⟩
 have D_law_used : DefT K mg "_law_used" s_law_used := by
  obtain ⟨fd, F⟩ := c.t.d.def_ 31 (d := dd_law_used) rfl
  exact ⟨_, fd, He.glo_ok X G (c.t.d.fact 31 (f := .glo "_law_used") rfl), F⟩
 have D_law_part : DefT K mg "_law_part" s_law_part := by
  obtain ⟨fd, F⟩ := c.t.d.def_ 32 (d := dd_law_part) rfl
  exact ⟨_, fd, He.glo_ok X G (c.t.d.fact 32 (f := .glo "_law_part") rfl), F⟩
 have D_law_shelf : DefT K mg "_law_shelf" s_law_shelf := by
  obtain ⟨fd, F⟩ := c.t.d.def_ 33 (d := dd_law_shelf) rfl
  exact ⟨_, fd, He.glo_ok X G (c.t.d.fact 33 (f := .glo "_law_shelf") rfl), F⟩
 have D_law_tree : DefT K mg "_law_tree" s_law_tree := by
  obtain ⟨fd, F⟩ := c.t.d.def_ 34 (d := dd_law_tree) rfl
  exact ⟨_, fd, He.glo_ok X G (c.t.d.fact 34 (f := .glo "_law_tree") rfl), F⟩
 have D_law_kind : DefT K mg "_law_kind" s_law_kind := by
  obtain ⟨fd, F⟩ := c.t.d.def_ 35 (d := dd_law_kind) rfl
  exact ⟨_, fd, He.glo_ok X G (c.t.d.fact 35 (f := .glo "_law_kind") rfl), F⟩
 have D_law_from : DefT K mg "_law_from" s_law_from := by
  obtain ⟨fd, F⟩ := c.t.d.def_ 36 (d := dd_law_from) rfl
  exact ⟨_, fd, He.glo_ok X G (c.t.d.fact 36 (f := .glo "_law_from") rfl), F⟩
 have D_law_deep : DefT K mg "_law_deep" s_law_deep := by
  obtain ⟨fd, F⟩ := c.t.d.def_ 37 (d := dd_law_deep) rfl
  exact ⟨_, fd, He.glo_ok X G (c.t.d.fact 37 (f := .glo "_law_deep") rfl), F⟩
 have D_law_many : DefT K mg "_law_many" s_law_many := by
  obtain ⟨fd, F⟩ := c.t.d.def_ 38 (d := dd_law_many) rfl
  exact ⟨_, fd, He.glo_ok X G (c.t.d.fact 38 (f := .glo "_law_many") rfl), F⟩
 have D_law_due : DefT K mg "_law_due" s_law_due := by
  obtain ⟨fd, F⟩ := c.t.d.def_ 39 (d := dd_law_due) rfl
  exact ⟨_, fd, He.glo_ok X G (c.t.d.fact 39 (f := .glo "_law_due") rfl), F⟩
 have D_law_changed : DefT K mg "_law_changed" s_law_changed := by
  obtain ⟨fd, F⟩ := c.t.d.def_ 40 (d := dd_law_changed) rfl
  exact ⟨_, fd, He.glo_ok X G (c.t.d.fact 40 (f := .glo "_law_changed") rfl), F⟩
 have D_law_told : DefT K mg "_law_told" s_law_told := by
  obtain ⟨fd, F⟩ := c.t.d.def_ 41 (d := dd_law_told) rfl
  exact ⟨_, fd, He.glo_ok X G (c.t.d.fact 41 (f := .glo "_law_told") rfl), F⟩
 obtain ⟨fd_BadText_init, F_BadText_init⟩ := c.t.d.def_ 43 (d := dd_BadText_init) rfl
 have b_BadText_init := F_BadText_init.bindsN (ps := ["self", "place"]) (fun _ _ _ _ _ _ us hl => match us, hl with | [_, _], _ => rfl)
 have eEX := c.more
 obtain ⟨eEX, eb13⟩ := Bool.and_eq_true_iff.mp eEX
 obtain ⟨eEX, eb12⟩ := Bool.and_eq_true_iff.mp eEX
 obtain ⟨eEX, eb11⟩ := Bool.and_eq_true_iff.mp eEX
 obtain ⟨eEX, eb10⟩ := Bool.and_eq_true_iff.mp eEX
 obtain ⟨eEX, eb9⟩ := Bool.and_eq_true_iff.mp eEX
 obtain ⟨eEX, eb8⟩ := Bool.and_eq_true_iff.mp eEX
 obtain ⟨eEX, eb7⟩ := Bool.and_eq_true_iff.mp eEX
 obtain ⟨eEX, eb6⟩ := Bool.and_eq_true_iff.mp eEX
 obtain ⟨eEX, eb5⟩ := Bool.and_eq_true_iff.mp eEX
 obtain ⟨eEX, eb4⟩ := Bool.and_eq_true_iff.mp eEX
 obtain ⟨eEX, eb3⟩ := Bool.and_eq_true_iff.mp eEX
 obtain ⟨eEX, eb2⟩ := Bool.and_eq_true_iff.mp eEX
 have eb1 := eEX
 have g_PartError : mg "PartError" = some (.ref (He.ga K "PartError")) := He.glo_ok X G (c.t.d.fact 76 (f := .glo "PartError") rfl)
 have g_BadPart : mg "BadPart" = some (.ref (He.ga K "BadPart")) := He.glo_ok X G (c.t.d.fact 77 (f := .glo "BadPart") rfl)
 have g_BadShelf : mg "BadShelf" = some (.ref (He.ga K "BadShelf")) := He.glo_ok X G (c.t.d.fact 78 (f := .glo "BadShelf") rfl)
 have g_BadTree : mg "BadTree" = some (.ref (He.ga K "BadTree")) := He.glo_ok X G (c.t.d.fact 79 (f := .glo "BadTree") rfl)
 have g_NotRight : mg "NotRight" = some (.ref (He.ga K "NotRight")) := He.glo_ok X G (c.t.d.fact 80 (f := .glo "NotRight") rfl)
 have g_NotWhole : mg "NotWhole" = some (.ref (He.ga K "NotWhole")) := He.glo_ok X G (c.t.d.fact 81 (f := .glo "NotWhole") rfl)
 have g_BadCall : mg "BadCall" = some (.ref (He.ga K "BadCall")) := He.glo_ok X G (c.t.d.fact 82 (f := .glo "BadCall") rfl)
 have g_Long : mg "Long" = some (.ref (He.ga K "Long")) := He.glo_ok X G (c.t.d.fact 83 (f := .glo "Long") rfl)
 have g_BadText : mg "BadText" = some (.ref (He.ga K "BadText")) := He.glo_ok X G (c.t.d.fact 84 (f := .glo "BadText") rfl)
 have er_BadTree := eb8
 have mo_0 := eb11
 have mo_1 := eb12
 have mo_2 := eb13
 have z_ValueError : mg "ValueError" = none := He.free_ok X G (c.t.d.fact 58 (f := .free "ValueError") rfl)
 have z_any : mg "any" = none := He.free_ok X G (c.t.d.fact 59 (f := .free "any") rfl)
 have z_bool : mg "bool" = none := He.free_ok X G (c.t.d.fact 60 (f := .free "bool") rfl)
 have z_dict : mg "dict" = none := He.free_ok X G (c.t.d.fact 61 (f := .free "dict") rfl)
 have z_enumerate : mg "enumerate" = none := He.free_ok X G (c.t.d.fact 62 (f := .free "enumerate") rfl)
 have z_int : mg "int" = none := He.free_ok X G (c.t.d.fact 63 (f := .free "int") rfl)
 have z_isinstance : mg "isinstance" = none := He.free_ok X G (c.t.d.fact 64 (f := .free "isinstance") rfl)
 have z_len : mg "len" = none := He.free_ok X G (c.t.d.fact 65 (f := .free "len") rfl)
 have z_list : mg "list" = none := He.free_ok X G (c.t.d.fact 66 (f := .free "list") rfl)
 have z_max : mg "max" = none := He.free_ok X G (c.t.d.fact 67 (f := .free "max") rfl)
 have z_min : mg "min" = none := He.free_ok X G (c.t.d.fact 68 (f := .free "min") rfl)
 have z_range : mg "range" = none := He.free_ok X G (c.t.d.fact 69 (f := .free "range") rfl)
 have z_set : mg "set" = none := He.free_ok X G (c.t.d.fact 70 (f := .free "set") rfl)
 have z_sorted : mg "sorted" = none := He.free_ok X G (c.t.d.fact 71 (f := .free "sorted") rfl)
 have z_str : mg "str" = none := He.free_ok X G (c.t.d.fact 72 (f := .free "str") rfl)
 have z_sum : mg "sum" = none := He.free_ok X G (c.t.d.fact 73 (f := .free "sum") rfl)
 have z_tuple : mg "tuple" = none := He.free_ok X G (c.t.d.fact 74 (f := .free "tuple") rfl)
 have z_zip : mg "zip" = none := He.free_ok X G (c.t.d.fact 75 (f := .free "zip") rfl)
 obtain ⟨fd, F⟩ := c.t.d.def_ 42 (d := dd_law) rfl
 have e := hf.symm.trans (He.glo_ok X G (c.t.d.fact 42 (f := .glo "law") rfl))
 cases e
 have b := FunD.bindsA (ps := ["_law_script"]) F (fun _ _ _ _ _ _ us hl => match us, hl with | [_], _ => rfl)
 refine ⟨fd, fun s v => b s [v] rfl, fun base hb0 hb1 => ?_⟩
 have CT := ckTab (w := w) X G c hb0
 have TL := toldTab (w := w) X G c hb1
 have nx := fun i : Addr × Addr => ok_next (P := P) (w := w) (base := base) (ah := i.1) (as := i.2) D_law_next z_len z_max
 have lf := fun i : Addr × Addr => ok_leaf D_law_leaf z_len z_sorted (nx i)
 have bd := fun i : Addr × Addr => ok_body123 D_law_body D_law_call D_law_reckons z_len z_sorted (nx i) (lf i)
 have cs := ok_lcalls (P := P) (w := w) (base := base) D_law_calls z_isinstance z_tuple 4
 have us := ok_used (P := P) (w := w) (base := base) D_law_used z_isinstance z_tuple 4
 have pt := fun i : Addr × Addr => ok_lpart D_law_part z_dict z_sorted z_tuple (nx i) (bd i) cs us
 have sh := fun i : Addr × Addr => ok_shelf D_law_shelf z_dict z_range z_len (nx i) (pt i)
 have tr := fun i : Addr × Addr => ok_ltree D_law_tree z_len (nx i) 5
 have ch := fun i : Addr × Addr => ok_changed D_law_changed z_len (nx i)
 have E2 := err_of er_BadTree
 have R2 := raise_of (x := "BadTree") er_BadTree g_BadTree
 obtain ⟨_, F0, _⟩ := errF_of mo_0
 obtain ⟨_, F3, _⟩ := errF_of mo_1
 obtain ⟨E7, F7, ox7, i7, t7⟩ := errF_of mo_2
 have R7 : RaiseF P w K mg base "BadText" "place" (errC K 7) := ⟨g_BadText, ox7, _, _, _, i7, t7, ok_xinit F_BadText_init ox7 F7.n, b_BadText_init⟩
 have KT : KindT K mg := ⟨g_PartError, g_BadPart, g_BadShelf, g_BadTree, g_NotRight, g_NotWhole, g_BadCall, g_Long, g_BadText, z_isinstance, z_ValueError⟩
 obtain ⟨gk, fdk, gK, FK⟩ := D_law_kind
 have bK := FK.bindsN (ps := ["_law_work"]) (fun _ _ _ _ _ _ us hl => match us, hl with | [_], _ => rfl)
 have rt := ok_rtreeX (P := P) T CT R2 R7
 have lt := ok_ltold (P := P) (w := w) (base := base) D_law_told TL KT F0 F3 F7 E2 E7 FK gK bK rt
 have fr := ok_from (P := P) (w := w) (base := base) D_law_from z_len z_min z_list 140
 have de := ok_ldeep (P := P) (w := w) (base := base) D_law_deep z_max z_isinstance z_tuple 140
 have ma := ok_lmany (P := P) (w := w) (base := base) D_law_many z_sum z_isinstance z_tuple 140
 have du := ok_due (P := P) (w := w) (base := base) D_law_due z_len z_list fr de ma
 have al := ok_lalike (P := P) (w := w) (base := base) D_law_alike z_isinstance z_tuple z_list z_str z_int z_bool z_len z_range 30
 exact ok_law (base := base) F z_range z_len (ok_mix2 D_law_mix z_list) (Cal.all (0, 0) (hs := fun i => some i) (M := fun i => M_next i.1) nx) (Cal.all (0, 0) (hs := fun i => some i) (M := fun i => M_shelf i.1) sh) (Cal.all (0, 0) (hs := fun i => some i) (M := fun i => M_tree i.1 5) tr) (Cal.all (0, 0) (hs := fun i => some i) (M := fun i => M_changed i.1) ch) (ok_wtree T CT) lt du al
end
end Pr
open PySem PySem.W PySem.Calls PyProof.Rows
theorem PySem.Challenge.cw_partdeeds_k20_texts_that_write_no_tree_holds : PySem.Challenge.rw_partdeeds_k20_texts_that_write_no_tree.Holds := by
 w_on; o_law
 refine HandSHeadRun.head_any (r := OpenLaw.row PySem.Challenge.rw_partdeeds_k20_texts_that_write_no_tree) (q := view (OpenLaw.row PySem.Challenge.rw_partdeeds_k20_texts_that_write_no_tree).prog [75]) (H := Pr.hkD) (ob := Pr.obD) (M := 8000) (loose := Pr.namesD) (d := HandSHeadRun.topDef (OpenLaw.row PySem.Challenge.rw_partdeeds_k20_texts_that_write_no_tree).prog 75) (kwd := []) Pr.obD_eq
  (by kernel_rfl) (fun s => by kernel_rfl) Pr.runD (by kernel_rfl) (by kernel_rfl) (by kernel_rfl) (by rfl) (by first | assumption | decide +kernel) (by decide +kernel) ⟨rfl, rfl, rfl, rfl, rfl, by decide +kernel⟩ ?hw ?hc
 case hw => w_witness2
 case hc =>
  refine LamX.walk_ofTsE (l := PySem.Challenge.rw_partdeeds_k20_texts_that_write_no_tree) (n := 63) (k := 143) (x := "_law_script") (CX := fun _ => L2.CX0) rfl (by decide) (by kernel_rfl) ⟨rfl, by decide, by decide⟩ ?F (fun _ _ _ _ _ z => z)
  intro w mg fa h Y G hmg0
  obtain ⟨K, KX, c⟩ := Y
  have hmg : mg ("law" : PySem.Str) = some (.ref fa) := by
   have e : (HandSHeadRun.topDef (OpenLaw.row PySem.Challenge.rw_partdeeds_k20_texts_that_write_no_tree).prog 75).name = ("law" : PySem.Str) := by kernel_rfl
   rw [← e]
   exact hmg0
  obtain ⟨fd, hb, hF⟩ := Pr.facts (P := (PySem.Challenge.rw_partdeeds_k20_texts_that_write_no_tree).prog) (w := w) KX G c hmg
  letI := Pr.tabsK K
  refine ⟨K, KX, fd, Pr.tfD.map (He.cT K), Pr.spLaw K, fun p hp => ?_, fun p hp => ?_, fun p hp => ?_, hb, fun H a ns hl _ hH hS => ⟨a, ns, rfl, hS, hl, fun q hq => ?_, fun _ => rfl⟩, fun base _ _ hT => hF base (hT _ (List.mem_map.mpr ⟨_, List.mem_cons_self, rfl⟩)) (hT _ (List.mem_map.mpr ⟨_, List.mem_cons_of_mem _ (List.mem_cons_self), rfl⟩))⟩
  ·obtain ⟨d, hd, rfl⟩ := List.mem_map.mp hp
   exact c.empty _ hd
  ·obtain ⟨d, hd, rfl⟩ := List.mem_map.mp hp
   exact c.out _ hd
  ·obtain ⟨d, hd, rfl⟩ := List.mem_map.mp hp
   exact codeHd_of_K KX (c.hd _ hd)
  ·rcases List.mem_cons.mp hq with rfl | hq
   ·exact hH _ (List.mem_map.mpr ⟨_, List.mem_cons_self, rfl⟩)
   rw [List.mem_singleton.mp hq]; exact hH _ (List.mem_map.mpr ⟨_, List.mem_cons_of_mem _ (List.mem_cons_self), rfl⟩)
#print axioms PySem.Challenge.cw_partdeeds_k20_texts_that_write_no_tree_holds
