import PyProof.Rows.All
import Wide.All
import OpenK.AllK
import Wide.FinOn
import HandS.List
import HandS.SetTxt0
import HandS.SetFor
import HandS.Strs
import PyProof.CollectStr
import HandS.Deep
import HandS.Text
import PyProof.ListStr
import KE.KRevSl
import HandS.Iter
import HandS.Walk
import KE.GoesMore
import KE.GoesEnum
import KE.GoesZip
import KE.KeyNested
import KE.KDictKeyed
import PyProof.DictMoreH
import PyProof.DictRoadsH
import HandS.ForMost
import HandS.SetKeys
import HandS.SortKw
import HandS.RaiseMore
import KE.SortKeyHeap
import KE.KDictCopyH
import KE.KDictSum
import KE.SortData
import HandS.More
import HandS.DictComp
import PyProof.DictFindH
import HandS.DictTup
import KE.KStar
import HandS.TupSets
import HandS.SetBool
import KE.LtSeq
import PyProof.AutoSeq1
import HandS.Comp
import PyProof.FString2
import KE.KExcSuper
import HandS.Nested
import HandS.Exc
import HandS.ExcOwn
import HandS.ExcInit
import KE.KExcIs
import HandS.FStr
import HandS.ExcField
import HandS.HeadHook1
import HandS.HeadHook2
import HandS.ExcIs
import HandS.TryMany
import KE.KTryMore
import HandS.Defaults
import HandS.HeadEnd
import HandS.Dict
import HandS.Flow
import HandS.Small
import HandS.Codes
import HandS.WordsExc
import HandS.Style
import HandS.Conv
import HandS.IsInst
import HandS.ListItems
import HandS.ListEq
import KE.KStateDown
import Lean
import HandS.Head0
import HandS.Head1
import HandS.Head2
import PySem.Challenge.RW_downwords_k70_components_and_their_kinds
set_option Elab.async false
set_option linter.all false
set_option maxRecDepth 100000
set_option maxHeartbeats 2000000
/-! Sets of texts: set(list of texts), set(text), sorted(set). -/
namespace TX
open PySem PySem.Spec PyProof.Rows L2 PySem.Froz

/-! ### lists -/
theorem perm_of_sub {α : Type} [DecidableEq α] : ∀ (l ks : List α), l.Nodup → (∀ x ∈ l, x ∈ ks) → ks.length ≤ l.length → ks.Perm l
  | [], ks, _, _, hl => by
    have e : ks = [] := List.length_eq_zero_iff.mp (Nat.le_zero.mp hl)
    rw [e]
  | x :: l, ks, nd, sub, hl => by
    obtain ⟨hx, nd'⟩ := List.nodup_cons.mp nd
    have hk : x ∈ ks := sub x List.mem_cons_self
    have p1 : ks.Perm (x :: ks.erase x) := List.perm_cons_erase hk
    have l1 : (ks.erase x).length = ks.length - 1 := List.length_erase_of_mem hk
    have sub' : ∀ y ∈ l, y ∈ ks.erase x := fun y hy => by
      have ne : y ≠ x := fun e => hx (e ▸ hy)
      exact (List.mem_erase_of_ne ne).mpr (sub y (List.mem_cons_of_mem _ hy))
    have p2 := perm_of_sub l (ks.erase x) nd' sub' (by rw [l1]; rw [List.length_cons] at hl; omega)
    exact p1.trans (p2.cons x)

/-! ### the set's state -/
structure Ok (P : Program) (w : World) (D : SD) (l : List Str) : Prop where
  tx : TxOk P w D l
  up : Ris D.2.2.place.toList
  led : w.params.followText "set-order" = true ∨ D.2.2.led = true
  nd : l.Nodup
def At (P : Program) (w : World) (h : Heap) (a : Addr) (l : List Str) : Prop := ∃ D : SD, h.get? a = some (sObj "set" D) ∧ Ok P w D l

section
variable {P : Program} {w : World} {A : Around} {E : Value → Shared → Prop} {s : Shared}
theorem At.move {h h' : Heap} {a : Addr} {l : List Str} (x : At P w h a l) (k : ∀ o, h.get? a = some o → h'.get? a = some o) : At P w h' a l := by
  obtain ⟨D, hD, o⟩ := x
  exact ⟨D, k _ hD, o⟩
theorem tail_up {ep : Nat} {es : Array (Int × Value)} {t : SetTable} {b : Bool} (r : Ris t.place.toList) : Ris (tailTx ep es t b).2.2.place.toList := by
  unfold tailTx
  by_cases c : (!b && t.tooFull) = true
  · rw [if_pos c]
    exact relayAll_ris _ _ _
  · rw [if_neg c]
    exact r
theorem tail_led {ep : Nat} {es : Array (Int × Value)} {t : SetTable} {b : Bool} : (tailTx ep es t b).2.2.led = t.led := by
  unfold tailTx
  by_cases c : (!b && t.tooFull) = true
  · rw [if_pos c]
    exact relayAll_led _ _ _
  · rw [if_neg c]
def dull (t : SetTable) : SetTable := if t.plain = true then { t with plain := false } else t
theorem dull_place (t : SetTable) : (dull t).place = t.place := by
  unfold dull
  by_cases c : t.plain = true
  · rw [if_pos c]
  · rw [if_neg c]
theorem dull_led (t : SetTable) : (dull t).led = t.led := by
  unfold dull
  by_cases c : t.plain = true
  · rw [if_pos c]
  · rw [if_neg c]
theorem Ok.add {D : SD} {l : List Str} {k : Str} (u : Tok) (o : Ok P w D l) (hk : k ∉ l) : Ok P w (addTx (hashStr w k) (.str k u) D) (k :: l) := by
  obtain ⟨es, ep, t⟩ := D
  have r1 : Ris (layNew t es (hashStr w k) (.str k u)).2.1.place.toList := layNew_ris t es _ _ o.up
  have l1 : (layNew t es (hashStr w k) (.str k u)).2.1.led = t.led := layNew_led t es _ _
  have e : addTx (hashStr w k) (.str k u) (es, ep, t) = tailTx ep (layNew t es (hashStr w k) (.str k u)).1 (dull (layNew t es (hashStr w k) (.str k u)).2.1) (layNew t es (hashStr w k) (.str k u)).2.2.1 := rfl
  refine ⟨add_ok u o.tx, ?_, ?_, List.nodup_cons.mpr ⟨hk, o.nd⟩⟩
  · rw [e]
    exact tail_up (by rw [dull_place]; exact r1)
  · refine o.led.imp id fun z => ?_
    rw [e, tail_led, dull_led, l1]
    exact z
theorem add_old {a : Addr} {T : String} {D : SD} {l : List Str} {k : Str} {u : Tok} {Q : Bool → Shared → Prop} (ho : s.heap.get? a = some (sObj T D)) (o : TxOk P w D l) (hk : k ∈ l) (hb : l.length < scanBound) (h : Q false s) :
    wpAny (model P w) A (setAddHashed a (.str k u) (hashStr w k)) Q E s := by
  obtain ⟨es, ep, t⟩ := D
  have dd : (sObj T (es, ep, t)).data = .set es ep t := rfl
  have ft : t.fits es.size = true := o.fit
  have el : ElemsOf (strKind P w) es.toList := o.el
  have z : es.size = l.length := o.sz
  have b0 : es.size < scanBound := by omega
  have ky : (strKind P w).is k (.str k u) = true := is_str k u
  obtain ⟨e0, he0, q0⟩ := (o.mem k).mp hk
  unfold setAddHashed setAddHashedIn
  refine wpAny_holding (wpAny_bind (wpAny_setState_of ho dd ft ?_))
  dsimp only
  rw [byScan_of rfl b0 el]
  simp only [↓reduceIte]
  unfold setAddByScan
  refine wpAny_bind (wpAny_bind (wpAny_rule (wpAny_bind (wpAny_setScan_of (knd := strKind P w) (k := k) ky ho dd ft el ?_))))
  cases fi : List.findIdx? (fun e => (strKind P w).is k e.2) es.toList with
  | some j =>
    dsimp only
    exact wpAny_pure (wpAny_pure h)
  | none =>
    have c := List.findIdx?_eq_none_iff.mp fi e0 he0
    rw [q0] at c
    cases c

/-! ### the loop that fills it -/
theorem fill {I : Addr} {fp wr : List Addr} {G : Array GenState → Array GenState → Prop} {n : Nat} {Pv : Nat → Value → Prop} {St : Nat → Shared → Prop} {R : Result → Shared → Prop}
    (W : WalksS P w A.in1 I fp wr G n Pv St) (a : Addr) (ha : a ∉ fp) (xs : List Str) (hn : n = xs.length) (hb : xs.length + 1 < scanBound) (hv : ∀ i v, Pv i v → ∃ k t, xs[i]? = some k ∧ v = .str k t) :
    ∀ (m i : Nat) (s : Shared), n - i = m → i ≤ n → St i s → (∃ l, At P w s.heap a l ∧ l.length ≤ i ∧ ∀ k, k ∈ l ↔ k ∈ xs.take i) →
      (∀ s' l, Moved (a :: wr) G s s' → At P w s'.heap a l → (∀ k, k ∈ l ↔ k ∈ xs) → l.length ≤ n → R (.ok (.ret .none)) s') →
      codeAny (model P w) A (.builtin "set.update.loop" ⟨[.ref a, .ref I], []⟩) R s := by
  have aw : a ∉ wr := fun q => ha (W.sub _ q)
  have ww : ∀ b ∈ wr, b ∈ a :: wr := fun b q => List.mem_cons_of_mem _ q
  intro m
  induction m with
  | zero =>
    intro i s em hi st ⟨l, hA, hl, mem⟩ hR
    obtain rfl : i = n := by omega
    refine codeAny_builtin F.entry_set_update_loop ?_
    rw [Around.under_plainId F.plain_set_update_loop _]
    show wpAny _ A.in1 (pyNext (.ref I) >>= _) _ _ s
    refine wpAny_bind (W.done s _ _ st fun s' mv => ?_)
    show wpAny _ A.in1 (ret Value.none) _ _ s'
    have et : xs.take i = xs := List.take_of_length_le (by omega)
    rw [et] at mem
    exact wpAny_pure (hR s' l (mv.mono ww) (hA.move fun o e => mv.heap a o aw e) mem hl)
  | succ m ih =>
    intro i s em hi st ⟨l, hA, hl, mem⟩ hR
    have lt : i < n := by omega
    refine codeAny_builtin F.entry_set_update_loop ?_
    rw [Around.under_plainId F.plain_set_update_loop _]
    show wpAny _ A.in1 (pyNext (.ref I) >>= _) _ _ s
    refine wpAny_bind (W.item i s _ _ lt st fun v s1 hP st1 mv => ?_)
    obtain ⟨k, t, hk, rfl⟩ := hv i v hP
    obtain ⟨D, hD, oD⟩ := hA.move (h' := s1.heap) fun o e => mv.heap a o aw e
    show wpAny _ A.in1 (holding [Value.str k t] (setAdd a (.str k t)) >>= _) _ _ s1
    refine wpAny_bind (wpAny_holding ?_)
    unfold setAdd
    refine wpAny_holding (wpAny_bind ((strKind P w).pyHash (k := k) (is_str k t) ?_))
    have tk : xs.take (i + 1) = xs.take i ++ [k] := by rw [List.take_add_one, hk] <;> rfl
    by_cases kl : k ∈ l
    · refine add_old (s := { s1 with toks := s1.toks + 1 }) hD oD.tx kl (by omega) ?_
      refine wpAny_pure ⟨plainId_quiet F.plain_set_update_loop _, ih (i + 1) _ (by omega) lt (W.frame _ s1 _ _ st1 (Nat.le_succ _) fun b _ o e => e) ⟨l, ⟨D, hD, oD⟩, by omega, fun j => ?_⟩ fun s2 l2 mv2 hA2 mem2 hl2 => ?_⟩
      · rw [tk, List.mem_append, List.mem_singleton, ← mem j]
        exact ⟨.inl, fun q => q.elim id fun e => e ▸ kl⟩
      · exact hR s2 l2 (Moved.trans W.gtrans ((mv.mono ww).then_heap (Nat.le_succ _) fun b o _ e => e) mv2) hA2 mem2 hl2
    · refine add_x (s := { s1 with toks := s1.toks + 1 }) hD oD.tx kl (by omega) ?_
      have hg : (s1.heap.update a (fun _ => sObj "set" (addTx (hashStr w k) (.str k t) D))).get? a = some (sObj "set" (addTx (hashStr w k) (.str k t) D)) := get_upd _ hD rfl
      have ot : ∀ b o, b ≠ a → s1.heap.get? b = some o → (s1.heap.update a (fun _ => sObj "set" (addTx (hashStr w k) (.str k t) D))).get? b = some o :=
        fun b o ne e => (Heap.get?_update_other _ _ (Ne.symm ne)).trans e
      refine wpAny_pure ⟨plainId_quiet F.plain_set_update_loop _, ih (i + 1) _ (by omega) lt (W.frame _ s1 _ _ st1 (Nat.le_succ _) fun b q o e => ?_) ⟨k :: l, ⟨_, hg, oD.add t kl⟩, by rw [List.length_cons]; omega, fun j => ?_⟩ fun s2 l2 mv2 hA2 mem2 hl2 => ?_⟩
      · exact ot b o (fun z => ha (z ▸ q)) e
      · rw [tk, List.mem_append, List.mem_singleton, ← mem j, List.mem_cons]
        exact Or.comm
      · refine hR s2 l2 (Moved.trans W.gtrans ((mv.mono ww).then_heap (Nat.le_succ _) fun b o q e => ?_) mv2) hA2 mem2 hl2
        exact ot b o (fun z => q (z ▸ List.mem_cons_self)) e
end

/-! ### set(v) -/
abbrev fresh (w : World) : Obj := { cls := .type "set", dict := none, data := .set #[] 0 (.fresh 0 0 (!w.params.followText "set-order")) }
theorem fresh_ok {P : Program} {w : World} : Ok P w (#[], 0, .fresh 0 0 (!w.params.followText "set-order")) [] where
  tx := TxOk.nil (by rfl)
  up := List.Pairwise.nil
  led := by
    show _ ∨ (!w.params.followText "set-order") = true
    cases w.params.followText "set-order"
    · exact .inr rfl
    · exact .inl rfl
  nd := List.nodup_nil
theorem at_fresh {P : Program} {w : World} {h : Heap} {a : Addr} (e : h.get? a = some (fresh w)) : At P w h a [] := ⟨(#[], 0, .fresh 0 0 (!w.params.followText "set-order")), e, fresh_ok⟩

section
variable {P : Program} {w : World} {A : Around} {E : Value → Shared → Prop} {s : Shared}
/-- what set(v) leaves: a new object, all else as it was -/
def Left (P : Program) (w : World) (s : Shared) (xs : List Str) (s' : Shared) : Prop :=
  ∃ h' tk l, s' = { s with heap := h', toks := tk } ∧ At P w h' s.heap.objs.size l ∧ (∀ k, k ∈ l ↔ k ∈ xs) ∧ l.length ≤ xs.length ∧ ∀ b o, s.heap.get? b = some o → h'.get? b = some o
set_option maxHeartbeats 4000000 in
theorem call_set_of {v : Value} {xs : List Str} {Q : Value → Shared → Prop}
    (hI : ∀ A' : Around, A'.handled = A.handled → wpAny (model P w) A' (Builtin.«set.__init__» ⟨[.ref s.heap.objs.size, v], []⟩) (fun f s2 => f = .done (.ret .none) ∧ Left P w s xs s2) E { s with heap := s.heap.push (fresh w) })
    (h : ∀ s', Left P w s xs s' → Q (.ref s.heap.objs.size) s') :
    wpAny (model P w) A (call (.type "set") [v]) Q E s := by
  obtain ⟨c, tl, hmro⟩ := F.called_set.mro
  have hmade := F.called_set.made
  have hsub := F.called_set.sub
  refine wpAny_call (codeAny_of_tree ?_)
  show wpAny _ _ (callAny (.type "set") _) _ _ _
  refine wpAny_pure ⟨Code.quiet_builtin _ (by decide +kernel), codeAny_builtin F.entry_type_call ?_⟩
  rw [Around.under_plain (weight_type_call_type "set" [v] []) rfl]
  have h1 := F.called_set.notType
  have h2 := F.called_set.canCreate
  have hct := F.typeCall_set_1 v
  repeat (any_goals (first | assumption | wp_step))
  refine codeAny_mono (code_set_led1 v (E := E) (Q₁ := fun obj s₁ => obj = .ref s.heap.objs.size ∧ s₁ = { s with heap := s.heap.push (fresh w) }) ⟨rfl, rfl⟩) fun r s₁ hr => ?_
  cases r with
  | error e => exact hr
  | ok fl =>
    cases fl with
    | ret obj =>
      obtain ⟨rfl, rfl⟩ := hr
      have hS : (s.heap.push (fresh w)).get? s.heap.objs.size = some (fresh w) := Heap.get?_push_size _ rfl
      have hT : Shared.TypeIs { s with heap := s.heap.push (fresh w) } (.ref s.heap.objs.size) "set" := ⟨_, hS, rfl⟩
      have hli := F.called_set.init.lookup
      have hbi := F.called_set.init.bind (.ref s.heap.objs.size)
      repeat (any_goals (first | assumption | wp_step))
      refine codeAny_mono (codeAny_call_builtin (R := wants (fun r s₂ => r = .none ∧ Left P w s xs s₂) E) F.called_set.init.plain F.entry_set_init (check_set_init_1 hT ?_)) fun r₂ s₂ hr₂ => ?_
      · refine wpAny_mono (hI A.in1.in1 (by simp)) (fun f s2 q => ?_) fun e s2 q => q
        obtain ⟨rfl, q⟩ := q
        exact ⟨rfl, q⟩
      · cases r₂ with
        | error e => exact hr₂
        | ok fl₂ =>
          cases fl₂ with
          | ret r =>
            obtain ⟨rfl, hL⟩ := hr₂
            repeat (any_goals (first | assumption | wp_step))
            exact h _ hL
          | _ => exact hr₂.elim
    | _ => exact hr.elim
theorem left_of {a : Addr} {wr : List Addr} {xs l : List Str} {s s1 s' : Shared} (ea : a = s.heap.objs.size) (hw : ∀ b ∈ wr, s.heap.objs.size ≤ b) (k1 : ∀ b o, s.heap.get? b = some o → s1.heap.get? b = some o)
    (eg : s1.gens = s.gens) (ed : s1.drawn = s.drawn) (eo : s1.os = s.os) (mv : Moved (a :: wr) (fun x y => y = x) s1 s') (hA : At P w s'.heap a l) (mem : ∀ k, k ∈ l ↔ k ∈ xs) (hl : l.length ≤ xs.length) : Left P w s xs s' := by
  obtain ⟨h', g', d', tk', os'⟩ := s'
  have e1 : g' = s.gens := mv.gens.trans eg
  have e2 : d' = s.drawn := mv.drawn.trans ed
  have e3 : os' = s.os := mv.os.trans eo
  subst e1 e2 e3 ea
  refine ⟨h', tk', l, rfl, hA, mem, hl, fun b o e => ?_⟩
  have lt : b < s.heap.objs.size := Heap.lt_size e
  refine mv.heap b o (fun z => ?_) (k1 b o e)
  rcases List.mem_cons.mp z with z | z
  · exact absurd z (Nat.ne_of_lt lt)
  · exact absurd (hw b z) (Nat.not_le_of_lt lt)
set_option maxHeartbeats 4000000 in
theorem init_list {l : Addr} {items : Array Value} {xs : List Str} (hh : A.handled = none) (hl : s.heap.IsList l items) (hi : StrsAre items.toList xs) (hb : xs.length + 1 < scanBound) :
    wpAny (model P w) A (Builtin.«set.__init__» ⟨[.ref s.heap.objs.size, .ref l], []⟩) (fun f s2 => f = .done (.ret .none) ∧ Left P w s xs s2) E { s with heap := s.heap.push (fresh w) } := by
  have hsz : xs.length = items.size := by rw [← StrsAre.len_eq hi, Array.length_toList]
  have hv : ∀ (i : Nat) (v : Value), items[i]? = some v → ∃ k t, xs[i]? = some k ∧ v = .str k t := fun i v q => by
    have hi' : i < xs.length := by rw [hsz]; exact (Array.getElem?_eq_some_iff.mp q).1
    obtain ⟨t, e⟩ := SS.strs_at hi i v (by rw [Array.getElem?_toList]; exact q)
    refine ⟨xs[i], t, List.getElem?_eq_getElem hi', ?_⟩
    rw [e, List.getD_eq_getElem?_getD, List.getElem?_eq_getElem hi'] <;> rfl
  have hS : (s.heap.push (fresh w)).get? s.heap.objs.size = some (fresh w) := Heap.get?_push_size _ rfl
  have hT : Shared.TypeIs { s with heap := s.heap.push (fresh w) } (.ref s.heap.objs.size) "set" := ⟨_, hS, rfl⟩
  obtain ⟨ol, hol, hcl, nl, hdl⟩ := id hl
  obtain ⟨ocls, odict, odata, oslots⟩ := ol
  simp only at hcl hdl
  subst hcl; subst hdl
  have hol1 : (s.heap.push (fresh w)).get? l = some { cls := .type "list", dict := odict, data := .seq items nl, slots := oslots } := Heap.get?_push_of_some _ hol
  have f1 := F.sub_list_set
  have f2 := F.sub_list_frozenset
  have f3 : (Value.type "list" == Value.type "dict") = false := by decide
  have hl1 : (s.heap.push (fresh w)).IsList l items := ⟨_, hol1, rfl, nl, rfl⟩
  have lS : l < s.heap.objs.size := Heap.lt_size hol
  have nI : l ≠ (s.heap.push (fresh w)).objs.size := by
    rw [Heap.size_push]
    exact Nat.ne_of_lt (Nat.lt_succ_of_lt lS)
  have nS : s.heap.objs.size ∉ [(s.heap.push (fresh w)).objs.size, l] := by
    rw [Heap.size_push]
    intro q
    rcases List.mem_cons.mp q with q | q
    · exact absurd q (Nat.ne_of_lt (Nat.lt_succ_self _))
    · exact absurd (List.mem_singleton.mp q) (Nat.ne_of_gt lS)
  have z1 : (s.heap.push (fresh w)).objs.size = s.heap.objs.size + 1 := Heap.size_push ..
  unfold Builtin.«set.__init__» noKeywords Builtin.Frozenset.updateFrom
  generalize ePI : pyIter = PI
  wp_walk
  subst ePI
  refine wpAny_pyIter_list hl1 ?_
  refine wpAny_bind (wpAny_runValue ?_)
  refine fill ((Walks.list (by simp [hh]) _ l nI items).toS) s.heap.objs.size nS xs hsz.symm hb hv (items.size - 0) 0 _ rfl (Nat.zero_le _)
    ⟨⟨_, Heap.get?_push_size _ rfl, rfl, rfl⟩, hl1.push _⟩ ⟨[], at_fresh (Heap.get?_push_of_some _ hS), Nat.le_refl _, fun k => by simp⟩ fun s' m mv hA mem hm => ?_
  show wpAny _ _ _ _ _ _
  refine wpAny_pure ?_
  show wpAny _ _ (ret Value.none) _ _ _
  refine wpAny_pure ⟨rfl, left_of (wr := [_]) rfl ?_ ?k1 ?e1 ?e2 ?e3 mv hA mem (by omega)⟩
  case k1 => exact fun b o e => Heap.get?_push_of_some _ (Heap.get?_push_of_some _ e)
  case e1 => rfl
  case e2 => rfl
  case e3 => rfl
  intro b q
  rw [List.mem_singleton.mp q]
  show _ ≤ (s.heap.push (fresh w)).objs.size
  rw [z1]
  exact Nat.le_succ _
set_option maxHeartbeats 4000000 in
theorem init_text {x : Str} {t : Tok} (hh : A.handled = none) (hb : x.length + 1 < scanBound) :
    wpAny (model P w) A (Builtin.«set.__init__» ⟨[.ref s.heap.objs.size, .str x t], []⟩) (fun f s2 => f = .done (.ret .none) ∧ Left P w s (x.cps.toList.map fun c => (⟨#[c]⟩ : Str)) s2) E { s with heap := s.heap.push (fresh w) } := by
  have hsz : (x.cps.toList.map fun c => (⟨#[c]⟩ : Str)).length = x.cps.size := by rw [List.length_map, Array.length_toList]
  have hx : x.length = x.cps.size := rfl
  have hv : ∀ (i : Nat) (v : Value), SignAt x i v → ∃ k t, (x.cps.toList.map fun c => (⟨#[c]⟩ : Str))[i]? = some k ∧ v = .str k t := fun i v ⟨c, u, q, e⟩ => by
    refine ⟨⟨#[c]⟩, u, ?_, e⟩
    rw [List.getElem?_map, Array.getElem?_toList, q] <;> rfl
  have hS : (s.heap.push (fresh w)).get? s.heap.objs.size = some (fresh w) := Heap.get?_push_size _ rfl
  have hT : Shared.TypeIs { s with heap := s.heap.push (fresh w) } (.ref s.heap.objs.size) "set" := ⟨_, hS, rfl⟩
  have hTx : Shared.TypeIs { s with heap := s.heap.push (fresh w) } (.str x t) "str" := typeIs_str _ x t
  have f1 := PySem.F.sub_str_set
  have f2 := PySem.F.sub_str_frozenset
  have f3 : (Value.type "str" == Value.type "dict") = false := by decide
  have z1 : (s.heap.push (fresh w)).objs.size = s.heap.objs.size + 1 := Heap.size_push ..
  unfold Builtin.«set.__init__» noKeywords Builtin.Frozenset.updateFrom
  generalize ePI : pyIter = PI
  wp_walk
  subst ePI
  refine wpAny_pyIter_str fun o St W st => ?_
  refine wpAny_bind (wpAny_runValue ?_)
  refine fill ((W _ (by simp [hh])).toS) s.heap.objs.size (by rw [z1]; simp) _ hsz.symm (by rw [hsz, ← hx]; exact hb) hv (x.cps.size - 0) 0 _ rfl (Nat.zero_le _)
    st ⟨[], at_fresh (Heap.get?_push_of_some _ hS), Nat.le_refl _, fun k => by simp⟩ fun s' m mv hA mem hm => ?_
  show wpAny _ _ _ _ _ _
  refine wpAny_pure ?_
  show wpAny _ _ (ret Value.none) _ _ _
  refine wpAny_pure ⟨rfl, left_of (wr := [_]) rfl ?_ ?k1 ?e1 ?e2 ?e3 mv hA mem (by rw [hsz]; exact hm)⟩
  case k1 => exact fun b o e => Heap.get?_push_of_some _ (Heap.get?_push_of_some _ e)
  case e1 => rfl
  case e2 => rfl
  case e3 => rfl
  intro b q
  rw [List.mem_singleton.mp q]
  show _ ≤ (s.heap.push (fresh w)).objs.size
  rw [z1]
  exact Nat.le_succ _

/-! ### sorted(set) -/
theorem texts_of {es : List (Int × Value)} (el : ElemsOf (strKind P w) es) : ∀ vs : List Value, (∀ v ∈ vs, v ∈ es.map (·.2)) → ∃ ks : List Str, StrsAre vs ks ∧ (∀ k, k ∈ ks ↔ ∃ v ∈ vs, (strKind P w).is k v = true) ∧ ks.length = vs.length
  | [], _ => ⟨[], .nil, fun k => by simp, rfl⟩
  | v :: vs, h => by
    obtain ⟨ks, h1, h2, h3⟩ := texts_of el vs fun u q => h u (List.mem_cons_of_mem _ q)
    obtain ⟨e, he, ev⟩ := List.mem_map.mp (h v List.mem_cons_self)
    obtain ⟨⟨k, hk, _⟩, _⟩ := el e he
    rw [ev] at hk
    obtain ⟨t, rfl⟩ := Value.isStrOf_shape hk
    refine ⟨k :: ks, .cons k t h1, fun j => ?_, by rw [List.length_cons, List.length_cons, h3]⟩
    rw [List.mem_cons, h2 j]
    constructor
    · rintro (q | ⟨u, hu, q⟩)
      · exact ⟨_, List.mem_cons_self, by rw [q]; exact hk⟩
      · exact ⟨u, List.mem_cons_of_mem _ hu, q⟩
    · rintro ⟨u, hu, q⟩
      rcases List.mem_cons.mp hu with z | z
      · rw [z] at q
        exact .inl ((strKind P w).inj _ _ _ q hk)
      · exact .inr ⟨u, z, q⟩
theorem sorted_at {a : Addr} {l : List Str} {Q : Value → Shared → Prop} (R : At P w s.heap a l) (hh : A.handled = none) (h64 : l.length < 64)
    (hQ : ∀ s' p (out : Array Value) (c : Nat) (ys : List Str), (∀ b o, s.heap.get? b = some o → s'.heap.get? b = some o) → s'.gens = s.gens → s'.os = s.os → s.heap.objs.size ≤ p →
      s'.heap.get? p = some (seqObj "list" out c) → StrsAre out.toList ys → ys.Perm l → sortedS ys = true → Q (.ref p) s') :
    wpAny (model P w) A (call (.builtin "sorted") [.ref a]) Q E s := by
  obtain ⟨⟨es, ep, t⟩, ho, ok⟩ := R
  have ft : t.fits es.size = true := ok.tx.fit
  have z : es.size = l.length := ok.tx.sz
  have sb : es.size < scanBound := by
    unfold scanBound
    omega
  refine Calls.call_function_entry kind_sorted plain_sorted entry_sorted (args_sorted1 _) ?_
  unfold Builtin.«sorted»
  refine wpAny_bind (m := checkCount "sorted" 1 1 _) (wpAny_pure ?_)
  refine wpAny_bind (collect_set (A := A.in1) hh ⟨_, ho, rfl, rfl⟩ ft sb ok.up ok.led fun s1 vs k1 hz g1 o1 pm => ?_)
  obtain ⟨ks, hS, mem, hlen⟩ := texts_of ok.tx.el vs fun v hv => pm.mem_iff.mp hv
  have vl : vs.length = l.length := by rw [pm.length_eq, List.length_map, Array.length_toList]; exact z
  have pk : ks.Perm l := perm_of_sub l ks ok.nd (fun k hk => by
    obtain ⟨e, he, q⟩ := (ok.tx.mem k).mp hk
    exact (mem k).mpr ⟨e.2, pm.mem_iff.mpr (List.mem_map.mpr ⟨e, he, rfl⟩), q⟩) (by omega)
  refine wpAny_bind (wpAny_newList ?_ (by rw [vl, sizeLine_eq]; omega))
  have hoL : (s1.heap.push (seqObj "list" vs.toArray 0)).get? s1.heap.objs.size = some (seqObj "list" vs.toArray 0) := Heap.get?_push_size _ rfl
  refine wpAny_bind (wpAny_holding (wpAny_call_entry slot_list_sort ⟨_, hoL, rfl⟩ entry_list_sort
    (list_sort_treeK strKind_oneLt hoL hS.keysOf (fun v₁ v₂ rest e => keyKind_strs (by rw [← e]; exact hS)) (by rw [vl]; exact h64) fun st' hp hs => ?_) (args_list_sort _)))
  obtain ⟨ys, y1, y2, y3⟩ := sorted_out_str hS hp hs
  obtain ⟨c, hc⟩ := sortedHeap_at (vs := vs) (out := Array.map (fun x => x.snd) (arrOf st')) hoL
  refine ⟨_, rfl, wpAny_pure ⟨_, rfl, hQ _ s1.heap.objs.size _ c ys (fun b u e => ?_) g1 o1 hz hc y1 (y2.trans pk) y3⟩⟩
  have q := k1 b u e
  have lt := Heap.lt_size q
  show (sortedHeap (s1.heap.push (seqObj "list" vs.toArray 0)) s1.heap.objs.size vs _).get? b = some u
  rw [sortedHeap_old (Nat.ne_of_lt lt) (by rw [Heap.size_push]; exact Nat.lt_succ_of_lt lt)]
  exact Heap.get?_push_of_some _ q
end

/-! ### over the layer -/
def SetTx (P : Program) (w : World) (a : Addr) (l : List Str) : HO := .ext fun h => At P w h a l
theorem setTx_new {P : Program} {w : World} {H : Hp} {h : Heap} {a : Addr} {l : List Str} (R : At P w h a l) : ObjOk P w H h a (SetTx P w a l) := by
  have ⟨D, hD, _⟩ := R
  exact ⟨R, ⟨_, hD⟩, fun h1 h2 p k => At.move p k⟩
section
variable {X : Cx}
/-- set(xs), xs a list of texts -/
def rSetL (K : PySem.W.Frag) (P : Program) (w : World) : List V → Hp → VK → Prop := fun xs H Q => ∃ (l : Addr) (ss : List Str), xs = [V.ref l] ∧ SqL K H l (ss.map V.str) ∧ ss.length + 1 < scanBound ∧
  ∀ (a : Addr) (ls : List Str), H a = none → ls.Nodup → (∀ k, k ∈ ls ↔ k ∈ ss) → ls.length ≤ ss.length → Q (.ref a) (upd H a (SetTx P w a ls))
theorem At.nd {P : Program} {w : World} {h : Heap} {a : Addr} {l : List Str} (x : At P w h a l) : l.Nodup := by
  obtain ⟨D, _, o⟩ := x
  exact o.nd
theorem cr_setL (hc : X.calm = true) : CallR X (.type "set") (rSetL X.K X.prog X.w) := by
  intro pins s σ H xs us Q I r h
  obtain ⟨l, ss, rfl, hs, hb, q⟩ := h
  obtain ⟨its, rv, hl, _⟩ := I.list hs
  rw [Vals.ref1 r]
  have hn : H s.heap.objs.size = none := I.hok.fresh (Nat.le_refl _)
  refine call_set_of (xs := ss) (fun A' e => init_list (e.trans (I.ok.hd hc)) hl.isList rv.strs hb) fun s' L => ?_
  obtain ⟨h', tk, ls, rfl, hA, mem, hlen, kp⟩ := L
  exact ⟨.ref s.heap.objs.size, upd H s.heap.objs.size (SetTx X.prog X.w s.heap.objs.size ls), I.laid (t' := tk) kp (Nat.le_refl _) (setTx_new hA), rfl, q _ ls hn hA.nd mem hlen⟩
def signs (x : Str) : List Str := x.cps.toList.map fun c => (⟨#[c]⟩ : Str)
/-- set(x), x a text -/
def rSetT (P : Program) (w : World) : List V → Hp → VK → Prop := fun xs H Q => ∃ (x : Str), xs = [V.str x] ∧ x.length + 1 < scanBound ∧
  ∀ (a : Addr) (ls : List Str), H a = none → ls.Nodup → (∀ k, k ∈ ls ↔ k ∈ signs x) → ls.length ≤ x.length → Q (.ref a) (upd H a (SetTx P w a ls))
theorem cr_setT (hc : X.calm = true) : CallR X (.type "set") (rSetT X.prog X.w) := by
  intro pins s σ H xs us Q I r h
  obtain ⟨x, rfl, hb, q⟩ := h
  obtain ⟨t, rfl⟩ : ∃ t, us = [Value.str x t] := by
    cases r with
    | cons r1 r2 =>
      cases r2
      obtain ⟨t, rfl⟩ := r1
      exact ⟨t, rfl⟩
  have hn : H s.heap.objs.size = none := I.hok.fresh (Nat.le_refl _)
  refine call_set_of (xs := x.cps.toList.map fun c => (⟨#[c]⟩ : Str)) (fun A' e => init_text (e.trans (I.ok.hd hc)) hb) fun s' L => ?_
  obtain ⟨h', tk, ls, rfl, hA, mem, hlen, kp⟩ := L
  rw [List.length_map, Array.length_toList] at hlen
  exact ⟨.ref s.heap.objs.size, upd H s.heap.objs.size (SetTx X.prog X.w s.heap.objs.size ls), I.laid (t' := tk) kp (Nat.le_refl _) (setTx_new hA), rfl, q _ ls hn hA.nd mem hlen⟩
/-- sorted(found) of texts, fewer than 64 -/
def rSortTx (P : Program) (w : World) : List V → Hp → VK → Prop := fun vs H Q => ∃ (a : Addr) (l : List Str), vs = [V.ref a] ∧ H a = some (SetTx P w a l) ∧ l.length < 64 ∧
  ∀ (ys : List Str) (p : Addr), ys.Perm l → sortedS ys = true → H p = none → Q (.ref p) (upd H p (.lst (ys.map V.str)))
theorem cr_sortTx (hc : X.calm = true) : CallR X (.builtin "sorted") (rSortTx X.prog X.w) := by
  intro pins s σ H vs us Q I r h
  obtain ⟨a, l, rfl, ha, h64, q⟩ := h
  have R : At X.prog X.w s.heap a l := (I.hok a _ ha).1
  rw [Vals.ref1 r]
  refine sorted_at R (I.ok.hd hc) h64 fun s' p out c ys k g o hp hg hi pm so => ?_
  have hlen : (ys.map V.str).length ≤ sizeLine := by
    rw [List.length_map, pm.length_eq, sizeLine_eq]
    omega
  have hn : H p = none := I.hok.fresh hp
  have J : Inv X pins σ (upd H p (.lst (ys.map V.str))) { s with heap := s'.heap, gens := s'.gens, drawn := s'.drawn, toks := s'.toks } :=
    I.call (ch := []) (Un.laid k hp hn) (I.hok.laid k hp ⟨hlen, out.toList, c, vals_of_strs hi, hg⟩) (by rw [g]; exact I.bare) (fun _ z => nomatch z)
  have e : s' = { s with heap := s'.heap, gens := s'.gens, drawn := s'.drawn, toks := s'.toks } := by
    cases s'
    cases s
    cases o
    rfl
  rw [e]
  exact ⟨.ref p, _, J, rfl, q ys p pm so hn⟩
end
end TX
namespace DW
open PySem PySem.Spec PyProof.Rows L2
def topS (i : Nat) : Stmt := PySem.Challenge.pw_downwords_k70_components_and_their_kinds.main.body.getD i (.Pass ⟨0, 0, 0, 0⟩)
abbrev sIsAscending : Stmt := topS 6
abbrev sIsAlphabet : Stmt := topS 7
abbrev sIsSymbol : Stmt := topS 12
abbrev sSymbolsAmong : Stmt := topS 13
abbrev sIsProduction : Stmt := topS 14
abbrev sReachedFrom : Stmt := topS 17
abbrev sSymbolsOfNextRank : Stmt := topS 19
abbrev sRanks : Stmt := topS 20
abbrev sProductiveProductions : Stmt := topS 21
abbrev sUsedSymbols : Stmt := topS 22
abbrev sComponentOf : Stmt := topS 23
abbrev sFirstComponent : Stmt := topS 24
abbrev sComponents : Stmt := topS 25
abbrev sItemsOfComponent : Stmt := topS 26
abbrev sInnerItems : Stmt := topS 27
abbrev sComponentKind : Stmt := topS 28
abbrev sComponentKinds : Stmt := topS 29
abbrev sBegin : Stmt := topS 31
abbrev sDraw : Stmt := topS 32
abbrev sPick : Stmt := topS 33
abbrev sAlpha : Stmt := topS 34
abbrev sWord : Stmt := topS 35
abbrev sLSymbols : Stmt := topS 36
abbrev sLRules : Stmt := topS 37
abbrev sLMade : Stmt := topS 38
abbrev sLNamesOf : Stmt := topS 39
abbrev sLHeights : Stmt := topS 40
abbrev sLUseful : Stmt := topS 41
abbrev sLReached : Stmt := topS 42
abbrev sLComponent : Stmt := topS 43
abbrev sLKind : Stmt := topS 44
abbrev sLOrdered : Stmt := topS 45
abbrev sLaw : Stmt := topS 46
end DW
/-! sorted(text); x in a tuple, by data -/
namespace ST
open PySem PySem.Spec PyProof.Rows L2
section
variable {P : Program} {w : World} {A : Around} {E : Value → Shared → Prop} {s : Shared}
theorem signs_are {x : Str} {acc : Array Value} (h : ItemsOf (SignAt x) acc x.cps.size) : StrsAre acc.toList (TX.signs x) := by
  have main : ∀ (vs : List Value) (cs : List Nat), vs.length = cs.length → (∀ (j : Nat) (v : Value), vs[j]? = some v → ∃ (c : Nat) (u : Tok), cs[j]? = some c ∧ v = .str ⟨#[c]⟩ u) → StrsAre vs (cs.map fun c => (⟨#[c]⟩ : Str)) := by
    intro vs
    induction vs with
    | nil =>
      intro cs hl _
      have e : cs = [] := List.length_eq_zero_iff.mp hl.symm
      rw [e]
      exact .nil
    | cons v vs ih =>
      intro cs hl h
      cases cs with
      | nil => cases hl
      | cons c cs =>
        obtain ⟨c', u, e1, e2⟩ := h 0 v rfl
        cases e1
        subst e2
        exact .cons _ u (ih cs (Nat.succ.inj hl) fun j v hj => h (j + 1) v hj)
  refine main acc.toList x.cps.toList (by rw [Array.length_toList, Array.length_toList, h.1]) fun j v hj => ?_
  obtain ⟨c, u, e1, e2⟩ := h.2 j v (by simpa using hj)
  exact ⟨c, u, by simpa using e1, e2⟩
end
section
variable {X : Cx}
def rSortT : List V → Hp → VK → Prop := fun vs H Q => ∃ x : Str, vs = [V.str x] ∧ x.length < 64 ∧
  ∀ (ys : List Str) (p : Addr), ys.Perm (TX.signs x) → sortedS ys = true → H p = none → Q (.ref p) (upd H p (.lst (ys.map V.str)))
theorem cr_sortT (hc : X.calm = true) : CallR X (.builtin "sorted") rSortT := by
  intro pins s σ H vs us Q I r h
  obtain ⟨x, rfl, h64, q⟩ := h
  obtain ⟨t, rfl⟩ : ∃ t, us = [Value.str x t] := by
    cases r with
    | cons r1 r2 =>
      cases r2
      obtain ⟨t, rfl⟩ := r1
      exact ⟨t, rfl⟩
  have h64' : x.cps.size < 64 := h64
  refine Calls.call_function_entry kind_sorted plain_sorted entry_sorted (args_sorted1 _) ?_
  unfold Builtin.«sorted»
  refine wpAny_bind (m := checkCount "sorted" 1 1 _) (wpAny_pure ?_)
  refine wpAny_bind (wpAny_collect_str (A := X.A.in1) (I.ok.hd hc) x t (fun s1 acc k1 g1 d1 o1 items => ?_) (by rw [sizeLine_eq]; omega))
  have e1 : s1 = { s with heap := s1.heap, toks := s1.toks } := by
    cases s1
    cases s
    cases g1
    cases d1
    cases o1
    rfl
  have J : Inv X pins σ H s1 := by
    rw [e1]
    exact I.kept k1
  have hS := signs_are items
  have vl : acc.toList.length < 64 := by rw [Array.length_toList, items.1]; exact h64
  refine wpAny_bind (wpAny_newList ?_ (by rw [sizeLine_eq]; omega))
  have hoL : (s1.heap.push (seqObj "list" acc.toList.toArray 0)).get? s1.heap.objs.size = some (seqObj "list" acc.toList.toArray 0) := Heap.get?_push_size _ rfl
  refine wpAny_bind (wpAny_holding (wpAny_call_entry slot_list_sort ⟨_, hoL, rfl⟩ entry_list_sort
    (list_sort_treeK strKind_oneLt hoL hS.keysOf (fun v₁ v₂ rest e => keyKind_strs (by rw [← e]; exact hS)) vl fun st' hp hs => ?_) (args_list_sort _)))
  obtain ⟨ys, y1, y2, y3⟩ := sorted_out_str hS hp hs
  obtain ⟨c, hc⟩ := sortedHeap_at (vs := acc.toList) (out := Array.map (fun x => x.snd) (arrOf st')) hoL
  have hlen : (ys.map V.str).length ≤ sizeLine := by
    rw [List.length_map, y2.length_eq, sizeLine_eq]
    unfold TX.signs
    rw [List.length_map, Array.length_toList]
    omega
  refine ⟨_, rfl, wpAny_pure ⟨_, rfl, ?_⟩⟩
  refine ⟨.ref s1.heap.objs.size, upd H s1.heap.objs.size (.lst (ys.map V.str)), J.laid (t' := s1.toks) (fun b u e => ?_) (Nat.le_refl _) ⟨hlen, _, c, vals_of_strs y1, hc⟩, rfl, q ys _ y2 y3 (J.hok.fresh (Nat.le_refl _))⟩
  have lt := Heap.lt_size e
  show (sortedHeap (s1.heap.push (seqObj "list" acc.toList.toArray 0)) s1.heap.objs.size acc.toList _).get? b = some u
  rw [sortedHeap_old (Nat.ne_of_lt lt) (by rw [Heap.size_push]; exact Nat.lt_succ_of_lt lt)]
  exact Heap.get?_push_of_some _ e
def rInT (K : PySem.W.Frag) : R2 := fun x y H Q => ∃ d ds, Dp K H x d ∧ Dp K H y (.tuple ds) ∧ SeqAt.shaped d = true ∧ SeqAt.shaped (.tuple ds) = true ∧ Q (.bl (ds.any fun z => PyData.eqv z d)) H
theorem op_inT (hu : X.A.units + 65 < cLine) : OpR X (compareOp .In) (rInT X.K) := by
  intro pins s σ H x y v u Q I rx ry h
  obtain ⟨d, ds, hd, he, sd, se, q⟩ := h
  obtain ⟨as, r1⟩ := Dp.reads I d x v hd rx
  obtain ⟨bs, r2⟩ := Dp.reads I (.tuple ds) y u he ry
  exact SeqAt.in_tuple_reads r2 r1 (SeqAt.canLay_of_shaped se) (SeqAt.canLay_of_shaped sd) (room_in_shaped sd hu) ⟨.bl _, H, I, rfl, q⟩
end
end ST
/-! list(text); text[::-1] as a text of the same length -/
namespace R1
open PySem PySem.Spec PyProof.Rows L2
theorem texts_in : ∀ l : List Value, (∀ v ∈ l, ∃ z t, v = .str z t) → ∃ ss : List Str, Vals (ss.map V.str) l
  | [], _ => ⟨[], .nil⟩
  | v :: l, h => by
    obtain ⟨ss, r⟩ := texts_in l fun u hu => h u (List.mem_cons_of_mem _ hu)
    obtain ⟨z, t, rfl⟩ := h v List.mem_cons_self
    exact ⟨z :: ss, .cons ⟨t, rfl⟩ r⟩
section
variable {X : Cx}
theorem cr_listT (hc : X.calm = true) : CallR X (.type "list") (fun xs H Q => ∃ x : Str, xs = [.str x] ∧ x.length ≤ sizeLine ∧ ∀ p (ss : List Str), H p = none → Q (.ref p) (upd H p (.lst (ss.map V.str)))) := by
  intro pins s σ H xs us Q I r h
  obtain ⟨x, rfl, hb, q⟩ := h
  obtain ⟨t, rfl⟩ : ∃ t, us = [Value.str x t] := by
    cases r with
    | cons r1 r2 =>
      cases r2
      obtain ⟨t, rfl⟩ := r1
      exact ⟨t, rfl⟩
  refine call_list_str (I.ok.hd hc) x t (hn := hb) fun h' tk acc c hk hS hacc => ?_
  obtain ⟨ss, rv⟩ := texts_in acc.toList fun v hv => by
    obtain ⟨j, hj⟩ := List.getElem?_of_mem hv
    obtain ⟨c, u, _, e⟩ := hacc.2 j v (by simpa using hj)
    exact ⟨_, u, e⟩
  have hl : (ss.map V.str).length ≤ sizeLine := by
    rw [rv.length, Array.length_toList, hacc.1]
    exact hb
  exact ⟨.ref s.heap.objs.size, upd H s.heap.objs.size (.lst (ss.map V.str)), I.laid (t' := tk) hk (Nat.le_refl _) ⟨hl, acc.toList, c, rv, hS⟩, rfl, q _ ss (I.hok.fresh (Nat.le_refl _))⟩
def tRevT (te : TE) : TE := fun σ H Q => te σ H fun x H1 => ∃ z : Str, x = .str z ∧ z.length ≤ sizeLine ∧ ∀ y : Str, y.length ≤ z.length → (∀ c ∈ y.cps.toList, c ∈ z.cps.toList) → Q (.str y) H1
theorem pe_revT {e : Expr} {te : TE} {k : Nat} {p1 p2 p3 pos : Pos} (he : PE X e te) : PE X (.Subscript e (.Slice none none (some (.UnaryOp .USub (.Constant (.int 1) k p1) p2)) p3) pos) (tRevT te) := by
  refine ⟨fun pins s σ H Q I h => ?_⟩
  refine Subscript_ (thn (he.run pins s σ H _ I h) fun v s1 ⟨x, H1, I1, r1, q1⟩ => ?_)
  obtain ⟨z, ex, hz, q⟩ := q1
  subst ex
  obtain ⟨t, rfl⟩ := r1
  have hst : PO X (some (.UnaryOp .USub (.Constant (.int 1) k p1) p2)) (tPart (tUn (rU fun i => .int (-i)) (tC (.int 1)))) := po_some (pe_un un_neg pe_int)
  refine wpAny_Slice (thn (po_none.run pins s1 σ H1 (fun o H2 => o = none ∧ H2 = H1) I1 ⟨rfl, rfl⟩) fun vl s2 ⟨l, H2, I2, pl, el, e2⟩ => ?_)
  subst el e2
  refine thn (po_none.run pins s2 σ H2 (fun o H3 => o = none ∧ H3 = H2) I2 ⟨rfl, rfl⟩) fun vu s3 ⟨u, H3, I3, pu, eu, e3⟩ => ?_
  subst eu e3
  refine thn (hst.run pins s3 σ H3 (fun o H4 => o = some (-1) ∧ H4 = H3) I3 ⟨1, rfl, -1, rfl, rfl, rfl⟩) fun vs s4 ⟨o, H4, I4, ps, eo, e4⟩ => ?_
  subst eo e4
  obtain ⟨l1, rfl, el⟩ := IsPart.raw pl
  obtain ⟨u1, rfl, eu⟩ := IsPart.raw pu
  obtain ⟨st1, rfl, es⟩ := IsPart.raw ps
  have I5 : Inv X pins σ H4 { s4 with heap := s4.heap.push { cls := .type "slice", data := .fields #[partValue l1, partValue u1, partValue st1] } } := I4.kept (t' := s4.toks) fun b ob q => Heap.get?_push_of_some _ q
  show wpAny (model X.prog X.w) X.A (subscriptTail e (.Slice none none (some (.UnaryOp .USub (.Constant (.int 1) k p1) p2)) p3) (.str z t) (.ref s4.heap.objs.size)) (EP X pins σ Q) X.xe { s4 with heap := s4.heap.push { cls := .type "slice", data := .fields #[partValue l1, partValue u1, partValue st1] } }
  refine tail_any (ops := [.str z t, .ref s4.heap.objs.size]) (typeIs_str _ _ _) (F.slot_str_getitem.lookup) ?_ (by with_unfolding_all rfl)
  refine wpAny_getItem_str_slice (l := l1) (u := u1) (st := st1) ⟨_, Heap.get?_push_size _ rfl, rfl, rfl⟩ (by rw [es]; rfl) ?_
  have e0 : sliceMade z t l1 u1 st1 = .str ⟨(((List.range z.length).map fun k => z.length - 1 - k).filterMap (z.cps[·]?)).toArray⟩ := by
    unfold sliceMade slicePicked
    rw [el, eu, es]
    show (if ((-1 : Int) == 1 && _) = true then _ else _) = _
    rw [if_neg (by simp)]
    show Made.str ⟨((sliceRange ((z.length : Int) - 1) (-1) (-1)).filterMap (z.cps[·]?)).toArray⟩ = _
    rw [PySem.W.krv_sliceRange]
  rw [e0]
  have hl : (⟨(((List.range z.length).map fun k => z.length - 1 - k).filterMap (z.cps[·]?)).toArray⟩ : Str).length ≤ z.length := by
    show (((List.range z.length).map fun k => z.length - 1 - k).filterMap (z.cps[·]?)).toArray.size ≤ _
    rw [List.size_toArray]
    refine Nat.le_trans (List.length_filterMap_le _ _) ?_
    rw [List.length_map, List.length_range]
    exact Nat.le_refl _
  have hm : ∀ c ∈ (⟨(((List.range z.length).map fun k => z.length - 1 - k).filterMap (z.cps[·]?)).toArray⟩ : Str).cps.toList, c ∈ z.cps.toList := fun c hc => by
    have hc' : c ∈ ((List.range z.length).map fun k => z.length - 1 - k).filterMap (z.cps[·]?) := by simpa using hc
    obtain ⟨i, _, hi⟩ := List.mem_filterMap.mp hc'
    rw [← Array.getElem?_toList] at hi
    exact List.mem_of_getElem? hi
  exact ⟨Nat.le_trans hl hz, .str _, H4, I5.tok _, ⟨_, rfl⟩, q _ hl hm⟩
end
end R1
/-! text[::-1] -/
namespace R1
open PySem PySem.Spec PyProof.Rows L2
section
variable {X : Cx}
def tRevS (te : TE) : TE := fun σ H Q => te σ H fun x H1 => ∃ z : Str, x = .str z ∧ z.length ≤ sizeLine ∧ Q (.str ⟨z.cps.toList.reverse.toArray⟩) H1
theorem pe_revS {e : Expr} {te : TE} {k : Nat} {p1 p2 p3 pos : Pos} (he : PE X e te) : PE X (.Subscript e (.Slice none none (some (.UnaryOp .USub (.Constant (.int 1) k p1) p2)) p3) pos) (tRevS te) := by
  refine ⟨fun pins s σ H Q I h => ?_⟩
  refine Subscript_ (thn (he.run pins s σ H _ I h) fun v s1 ⟨x, H1, I1, r1, q1⟩ => ?_)
  obtain ⟨z, ex, hz, q⟩ := q1
  subst ex
  obtain ⟨t, rfl⟩ := r1
  have hst : PO X (some (.UnaryOp .USub (.Constant (.int 1) k p1) p2)) (tPart (tUn (rU fun i => .int (-i)) (tC (.int 1)))) := po_some (pe_un un_neg pe_int)
  refine wpAny_Slice (thn (po_none.run pins s1 σ H1 (fun o H2 => o = none ∧ H2 = H1) I1 ⟨rfl, rfl⟩) fun vl s2 ⟨l, H2, I2, pl, el, e2⟩ => ?_)
  subst el e2
  refine thn (po_none.run pins s2 σ H2 (fun o H3 => o = none ∧ H3 = H2) I2 ⟨rfl, rfl⟩) fun vu s3 ⟨u, H3, I3, pu, eu, e3⟩ => ?_
  subst eu e3
  refine thn (hst.run pins s3 σ H3 (fun o H4 => o = some (-1) ∧ H4 = H3) I3 ⟨1, rfl, -1, rfl, rfl, rfl⟩) fun vs s4 ⟨o, H4, I4, ps, eo, e4⟩ => ?_
  subst eo e4
  obtain ⟨l1, rfl, el⟩ := IsPart.raw pl
  obtain ⟨u1, rfl, eu⟩ := IsPart.raw pu
  obtain ⟨st1, rfl, es⟩ := IsPart.raw ps
  have I5 : Inv X pins σ H4 { s4 with heap := s4.heap.push { cls := .type "slice", data := .fields #[partValue l1, partValue u1, partValue st1] } } := I4.kept (t' := s4.toks) fun b ob q => Heap.get?_push_of_some _ q
  show wpAny (model X.prog X.w) X.A (subscriptTail e (.Slice none none (some (.UnaryOp .USub (.Constant (.int 1) k p1) p2)) p3) (.str z t) (.ref s4.heap.objs.size)) (EP X pins σ Q) X.xe { s4 with heap := s4.heap.push { cls := .type "slice", data := .fields #[partValue l1, partValue u1, partValue st1] } }
  refine tail_any (ops := [.str z t, .ref s4.heap.objs.size]) (typeIs_str _ _ _) (F.slot_str_getitem.lookup) ?_ (by with_unfolding_all rfl)
  refine wpAny_getItem_str_slice (l := l1) (u := u1) (st := st1) ⟨_, Heap.get?_push_size _ rfl, rfl, rfl⟩ (by rw [es]; rfl) ?_
  have e0 : sliceMade z t l1 u1 st1 = .str ⟨(((List.range z.length).map fun k => z.length - 1 - k).filterMap (z.cps[·]?)).toArray⟩ := by
    unfold sliceMade slicePicked
    rw [el, eu, es]
    show (if ((-1 : Int) == 1 && _) = true then _ else _) = _
    rw [if_neg (by simp)]
    show Made.str ⟨((sliceRange ((z.length : Int) - 1) (-1) (-1)).filterMap (z.cps[·]?)).toArray⟩ = _
    rw [PySem.W.krv_sliceRange]
  rw [e0]
  have er : (⟨(((List.range z.length).map fun k => z.length - 1 - k).filterMap (z.cps[·]?)).toArray⟩ : Str) = ⟨z.cps.toList.reverse.toArray⟩ := by
    have e1 : ((List.range z.length).map fun k => z.length - 1 - k).filterMap (z.cps[·]?) = z.cps.toList.reverse := by
      rw [PySem.W.krv_range, List.filterMap_reverse]
      show ((List.range z.cps.size).filterMap (z.cps[·]?)).reverse = _
      rw [PySem.W.krv_all]
    rw [e1]
  rw [er]
  have hl : (⟨z.cps.toList.reverse.toArray⟩ : Str).length ≤ z.length := by
    show z.cps.toList.reverse.toArray.size ≤ z.cps.size
    rw [List.size_toArray, List.length_reverse, Array.length_toList]
    exact Nat.le_refl _
  exact ⟨Nat.le_trans hl hz, .str _, H4, I5.tok _, ⟨_, rfl⟩, q⟩
end
end R1
/-! list(text): its signs -/
namespace R1
open PySem PySem.Spec PyProof.Rows L2
theorem vals_strs : ∀ {vs : List Value} {ws : List Str}, StrsAre vs ws → Vals (ws.map V.str) vs
  | _, _, .nil => .nil
  | _, _, .cons x t r => .cons ⟨t, rfl⟩ (vals_strs r)
theorem cr_listS {X : Cx} (hc : X.calm = true) : CallR X (.type "list") (fun xs H Q => ∃ x : Str, xs = [.str x] ∧ x.length ≤ sizeLine ∧ ∀ p, H p = none → Q (.ref p) (upd H p (.lst ((x.cps.toList.map fun c => (⟨#[c]⟩ : Str)).map V.str)))) := by
  intro pins s σ H xs us Q I r h
  obtain ⟨x, rfl, hb, q⟩ := h
  obtain ⟨t, rfl⟩ : ∃ t, us = [Value.str x t] := by
    cases r with
    | cons r1 r2 =>
      cases r2
      obtain ⟨t, rfl⟩ := r1
      exact ⟨t, rfl⟩
  refine call_list_str (I.ok.hd hc) x t (hn := hb) fun h' tk acc c hk hS hacc => ?_
  have rv := vals_strs (ST.signs_are hacc)
  have hl : ((x.cps.toList.map fun c => (⟨#[c]⟩ : Str)).map V.str).length ≤ sizeLine := by
    rw [List.length_map, List.length_map, Array.length_toList]
    exact hb
  exact ⟨.ref s.heap.objs.size, upd H s.heap.objs.size (.lst ((x.cps.toList.map fun c => (⟨#[c]⟩ : Str)).map V.str)), I.laid (t' := tk) hk (Nat.le_refl _) ⟨hl, acc.toList, c, rv, hS⟩, rfl, q _ (I.hok.fresh (Nat.le_refl _))⟩
end R1
/-! tuple[::-1] -/
namespace RV
open PySem PySem.Spec PyProof.Rows L2 HT
section
variable {prog : Program} {w : World} {A : Around} {E : Value → Shared → Prop} {s : Shared}
theorem adjust_rev (n : Nat) : Builtin.Slice.sliceAdjust none none (-1) (n : Int) = ((n : Int) - 1, -1) := by
  unfold Builtin.Slice.sliceAdjust
  have h1 : (-1 : Int) < 0 := by omega
  simp only [h1, if_true]
theorem places_rev (n : Nat) : Builtin.Slice.slicePlaces ((n : Int) - 1) (-1) (-1) = n := by
  unfold Builtin.Slice.slicePlaces
  have h1 : ¬ ((-1 : Int) > 0) := by omega
  rw [if_neg h1]
  have h2 : -(-1 : Int) = 1 := by omega
  rw [h2, Int.ediv_one]
  split <;> omega
theorem applied_rev {sl : Addr} {vl vu vs : Value} {n : Nat} {Q : Int × Int × Nat → Shared → Prop} (hs : s.heap.IsSliceOf sl vl vu vs) (pl : IsPart vl none) (pu : IsPart vu none) (ps : IsPart vs (some (-1)))
    (h : Q ((n : Int) - 1, -1, n) s) : wpAny (model prog w) A (Builtin.Slice.sliceApplied (.ref sl) (pure (n : Int))) Q E s := by
  obtain ⟨os, hos, hcs, hds⟩ := id hs
  unfold Builtin.Slice.sliceApplied Builtin.Slice.sliceFields
  refine wpAny_bind (wpAny_bind (wpAny_field hos hds (x := vl) rfl (wpAny_bind (wpAny_field hos hds (x := vu) rfl (wpAny_bind (wpAny_field hos hds (x := vs) rfl (wpAny_pure ?_)))))))
  refine wpAny_bind (slicePart_ ps ?_)
  show wpAny _ _ (if ((-1 : Int) == 0) = true then _ else _) _ _ s
  rw [if_neg (by decide)]
  refine wpAny_bind (slicePart_ pl (wpAny_bind (slicePart_ pu (wpAny_bind (wpAny_pure ?_)))))
  show wpAny _ _ (match Builtin.Slice.sliceAdjust none none (-1) (n : Int) with | (lo, hi) => pure (lo, (-1 : Int), Builtin.Slice.slicePlaces lo hi (-1))) _ _ s
  rw [adjust_rev n]
  show wpAny _ _ (pure ((n : Int) - 1, (-1 : Int), Builtin.Slice.slicePlaces ((n : Int) - 1) (-1) (-1))) _ _ s
  rw [places_rev]
  exact wpAny_pure h
theorem pick_rev (xs : Array Value) : ((List.range xs.size).filterMap fun (m : Nat) => xs[(((xs.size : Int) - 1) + (m : Int) * (-1)).toNat]?).toArray = xs.toList.reverse.toArray := by
  have e : (List.range xs.size).filterMap (fun (m : Nat) => xs[(((xs.size : Int) - 1) + (m : Int) * (-1)).toNat]?) = ((List.range xs.size).map fun k => xs.size - 1 - k).filterMap (xs[·]?) := by
    rw [List.filterMap_map]
    congr 1
    funext m
    have : (((xs.size : Int) - 1) + (m : Int) * (-1)).toNat = xs.size - 1 - m := by omega
    rw [this]
    rfl
  rw [e, PySem.W.krv_range, List.filterMap_reverse, PySem.W.krv_all]
theorem getItem_tuple_rev {t sl : Addr} {items : Array Value} {vl vu vs : Value} {Q : Value → Shared → Prop} (ht : IsTup s.heap t items) (hs : s.heap.IsSliceOf sl vl vu vs) (pl : IsPart vl none) (pu : IsPart vu none) (ps : IsPart vs (some (-1)))
    (h : Q (.ref s.heap.objs.size) { s with heap := s.heap.push { cls := .type "tuple", data := .seq items.toList.reverse.toArray } })
    (hsz : items.size ≤ sizeLine) : wpAny (model prog w) A (getItem (.ref t) (.ref sl)) Q E s := by
  have htake : sizeOk (.seq items.toList.reverse.toArray) := by
    show items.toList.reverse.toArray.size ≤ sizeLine
    rw [List.size_toArray, List.length_reverse, Array.length_toList]
    exact hsz
  obtain ⟨os, hos, hcs, hds⟩ := id hs
  have hTs : s.TypeIs (.ref sl) "slice" := ⟨os, hos, hcs⟩
  unfold getItem
  try with_reducible refine wpAny_holding ?_
  first | refine wpAny_bind (wpAny_pure ?_) | skip
  refine wpAny_bind (wpAny_sequenceKey ht.typeIs (by decide) ?_)
  refine wpAny_bind (wpAny_callSpecial?_slot (name := Str.ofString "__getitem__") ht.typeIs PyProof.Rows.slot_tuple_getitem
    (wpAny_call_entry PyProof.Rows.slot_tuple_getitem ht.typeIs entry_tuple_getitem ?_ (args_tuple_getitem _ _)))
  show wpAny _ _ (Builtin.Tuple.tupleItemsOf (.ref t) >>= _) _ _ s
  refine wpAny_bind (tupleItemsOf_ ht ?_)
  refine wpAny_bind (wpAny_typeOf hTs ?_)
  rw [if_pos (by decide)]
  refine wpAny_bind (applied_rev hs pl pu ps ?_)
  have hno : ¬ ((((items.size : Int) - 1) == 0 && (-1 : Int) == 1 && items.size == items.size) = true) := by
    intro q
    rw [Bool.and_eq_true, Bool.and_eq_true] at q
    exact absurd q.1.2 (by decide)
  show wpAny _ _ (if (((items.size : Int) - 1) == 0 && (-1 : Int) == 1 && items.size == items.size) = true then _ else _) _ _ s
  rw [if_neg hno, pick_rev]
  first
    | exact wpAny_bind (m := Builtin.Tuple.tupleExact _) (wpAny_newObj_type (wpAny_pure ⟨_, rfl, wpAny_pure h⟩) htake)
    | exact wpAny_bind (m := Builtin.Tuple.tupleExact _) (wpAny_newObj_type (wpAny_bind (wpAny_pure (wpAny_pure ⟨_, rfl, wpAny_pure h⟩))) htake)
    | exact wpAny_bind (wpAny_bind (m := Builtin.Tuple.tupleExact _) (wpAny_newObj_type (wpAny_pure (wpAny_pure ⟨_, rfl, wpAny_pure h⟩)) htake))
    | exact wpAny_bind (wpAny_bind (m := Builtin.Tuple.tupleExact _) (wpAny_newObj_type (wpAny_pure ⟨_, rfl, wpAny_pure h⟩) htake))
end
section
variable {X : Cx}
def tRevQ (K : PySem.W.Frag) (te : TE) : TE := fun σ H Q => te σ H fun x H1 => ∃ a xs, x = .ref a ∧ SqT K H1 a xs ∧ ∀ p, H1 p = none → Q (.ref p) (upd H1 p (.tup xs.reverse))
theorem pe_revQ {e : Expr} {te : TE} {k : Nat} {p1 p2 p3 pos : Pos} (he : PE X e te) : PE X (.Subscript e (.Slice none none (some (.UnaryOp .USub (.Constant (.int 1) k p1) p2)) p3) pos) (tRevQ X.K te) := by
  refine ⟨fun pins s σ H Q I h => ?_⟩
  refine Subscript_ (thn (he.run pins s σ H _ I h) fun v s1 ⟨x, H1, I1, r1, q1⟩ => ?_)
  obtain ⟨a, xs, ex, hx, q⟩ := q1
  subst ex
  cases r1
  have hst : PO X (some (.UnaryOp .USub (.Constant (.int 1) k p1) p2)) (tPart (tUn (rU fun i => .int (-i)) (tC (.int 1)))) := po_some (pe_un un_neg pe_int)
  refine wpAny_Slice (thn (po_none.run pins s1 σ H1 (fun o H2 => o = none ∧ H2 = H1) I1 ⟨rfl, rfl⟩) fun vl s2 ⟨l, H2, I2, pl, el, e2⟩ => ?_)
  subst el e2
  refine thn (po_none.run pins s2 σ H2 (fun o H3 => o = none ∧ H3 = H2) I2 ⟨rfl, rfl⟩) fun vu s3 ⟨u, H3, I3, pu, eu, e3⟩ => ?_
  subst eu e3
  refine thn (hst.run pins s3 σ H3 (fun o H4 => o = some (-1) ∧ H4 = H3) I3 ⟨1, rfl, -1, rfl, rfl, rfl⟩) fun vs s4 ⟨o, H4, I4, ps, eo, e4⟩ => ?_
  subst eo e4
  have I5 : Inv X pins σ H4 { s4 with heap := s4.heap.push { cls := .type "slice", data := .fields #[vl, vu, vs] } } := I4.kept (t' := s4.toks) fun b ob q => Heap.get?_push_of_some _ q
  obtain ⟨its, r, ht, hz⟩ := I5.tuple hx
  have hlen := r.length
  show wpAny (model X.prog X.w) X.A (subscriptTail e (.Slice none none (some (.UnaryOp .USub (.Constant (.int 1) k p1) p2)) p3) (.ref a) (.ref s4.heap.objs.size)) (EP X pins σ Q) X.xe { s4 with heap := s4.heap.push { cls := .type "slice", data := .fields #[vl, vu, vs] } }
  refine tail_any (ops := [.ref a, .ref s4.heap.objs.size]) ht.typeIs (PyProof.Rows.slot_tuple_getitem.lookup) ?_ (by with_unfolding_all rfl)
  refine getItem_tuple_rev ht (Heap.IsSliceOf.new _ vl vu vs) pl pu ps ?_ (by rw [List.size_toArray]; omega)
  refine ⟨.ref _, _, I5.laid (t' := s4.toks) (o := .tup xs.reverse) (fun b ob q => Heap.get?_push_of_some _ q) (Nat.le_refl _) ?_, rfl, q _ (I5.hok.fresh (Nat.le_refl _))⟩
  exact ⟨by rw [List.length_reverse]; exact hz, _, r.reverse, IsTup.new _ _⟩
end
end RV
/-! xs[::-1] of a list -/
namespace RV
open PySem PySem.Spec PyProof.Rows L2
section
variable {X : Cx}
def tRevL (K : PySem.W.Frag) (te : TE) : TE := fun σ H Q => te σ H fun x H1 => ∃ a xs, x = .ref a ∧ SqL K H1 a xs ∧ ∀ p, H1 p = none → Q (.ref p) (upd H1 p (.lst xs.reverse))
theorem pe_revL {e : Expr} {te : TE} {k : Nat} {p1 p2 p3 pos : Pos} (he : PE X e te) : PE X (.Subscript e (.Slice none none (some (.UnaryOp .USub (.Constant (.int 1) k p1) p2)) p3) pos) (tRevL X.K te) := by
  refine ⟨fun pins s σ H Q I h => ?_⟩
  refine Subscript_ (thn (he.run pins s σ H _ I h) fun v s1 ⟨x, H1, I1, r1, q1⟩ => ?_)
  obtain ⟨a, xs, ex, hx, q⟩ := q1
  subst ex
  cases r1
  have hst : PO X (some (.UnaryOp .USub (.Constant (.int 1) k p1) p2)) (tPart (tUn (rU fun i => .int (-i)) (tC (.int 1)))) := po_some (pe_un un_neg pe_int)
  refine wpAny_Slice (thn (po_none.run pins s1 σ H1 (fun o H2 => o = none ∧ H2 = H1) I1 ⟨rfl, rfl⟩) fun vl s2 ⟨l, H2, I2, pl, el, e2⟩ => ?_)
  subst el e2
  refine thn (po_none.run pins s2 σ H2 (fun o H3 => o = none ∧ H3 = H2) I2 ⟨rfl, rfl⟩) fun vu s3 ⟨u, H3, I3, pu, eu, e3⟩ => ?_
  subst eu e3
  refine thn (hst.run pins s3 σ H3 (fun o H4 => o = some (-1) ∧ H4 = H3) I3 ⟨1, rfl, -1, rfl, rfl, rfl⟩) fun vs s4 ⟨o, H4, I4, ps, eo, e4⟩ => ?_
  subst eo e4
  have I5 : Inv X pins σ H4 { s4 with heap := s4.heap.push { cls := .type "slice", data := .fields #[vl, vu, vs] } } := I4.kept (t' := s4.toks) fun b ob q => Heap.get?_push_of_some _ q
  obtain ⟨its, r, ht, hz⟩ := I5.list hx
  have hlen := r.length
  show wpAny (model X.prog X.w) X.A (subscriptTail e (.Slice none none (some (.UnaryOp .USub (.Constant (.int 1) k p1) p2)) p3) (.ref a) (.ref s4.heap.objs.size)) (EP X pins σ Q) X.xe { s4 with heap := s4.heap.push { cls := .type "slice", data := .fields #[vl, vu, vs] } }
  refine tail_any (ops := [.ref a, .ref s4.heap.objs.size]) ht.isList.typeIs (slot_list_getitem.lookup) ?_ (by with_unfolding_all rfl)
  refine wpAny_getItem_list_slice ht.isList (Heap.IsSliceOf.new _ vl vu vs) pl pu ps (by simp) ?_ (by rw [List.size_toArray]; omega)
  rw [PySem.W.krv_pick]
  refine ⟨.ref _, _, I5.laid (t' := s4.toks) (o := .lst xs.reverse) (fun b ob q => Heap.get?_push_of_some _ q) (Nat.le_refl _) ?_, rfl, q _ (I5.hok.fresh (Nat.le_refl _))⟩
  exact ⟨by rw [List.length_reverse]; exact hz, _, 0, r.reverse, Heap.get?_push_size _ rfl⟩
end
end RV
/-! xs[::k] of a list, k is 1 or -1 -/
namespace RV
open PySem PySem.Spec PyProof.Rows L2
section
variable {X : Cx}
def tStepL (K : PySem.W.Frag) (te tk : TE) : TE := fun σ H Q => te σ H fun x H1 => tPart tk σ H1 fun k H2 => ∃ a xs b, x = .ref a ∧ SqL K H2 a xs ∧ k = some (if b = true then 1 else -1) ∧ ∀ p, H2 p = none → Q (.ref p) (upd H2 p (.lst (if b = true then xs else xs.reverse)))
theorem pick_one (items : Array Value) : slicePick items none none (some 1) = items := by
  exact slicePick_all items
theorem pe_stepL {e ek : Expr} {te tk : TE} {p3 pos : Pos} (he : PE X e te) (hk : PE X ek tk)
    (ht : subscriptTail e (.Slice none none (some ek) p3) = subscriptTail e (.Slice none none (some ek) p3) := by rfl) : PE X (.Subscript e (.Slice none none (some ek) p3) pos) (tStepL X.K te tk) := by
  refine ⟨fun pins s σ H Q I h => ?_⟩
  refine Subscript_ (thn (he.run pins s σ H _ I h) fun v s1 ⟨x, H1, I1, r1, q1⟩ => ?_)
  have hst : PO X (some ek) (tPart tk) := po_some hk
  refine wpAny_Slice (thn (po_none.run pins s1 σ H1 (fun o H2 => o = none ∧ H2 = H1) I1 ⟨rfl, rfl⟩) fun vl s2 ⟨l, H2, I2, pl, el, e2⟩ => ?_)
  subst el e2
  refine thn (po_none.run pins s2 σ H2 (fun o H3 => o = none ∧ H3 = H2) I2 ⟨rfl, rfl⟩) fun vu s3 ⟨u, H3, I3, pu, eu, e3⟩ => ?_
  subst eu e3
  refine thn (hst.run pins s3 σ H3 _ I3 q1) fun vs s4 ⟨o, H4, I4, ps, q4⟩ => ?_
  obtain ⟨a, xs, b, ex, hx, eo, q⟩ := q4
  subst ex eo
  cases r1
  have I5 : Inv X pins σ H4 { s4 with heap := s4.heap.push { cls := .type "slice", data := .fields #[vl, vu, vs] } } := I4.kept (t' := s4.toks) fun b ob q => Heap.get?_push_of_some _ q
  obtain ⟨its, r, ht, hz⟩ := I5.list hx
  have hlen := r.length
  show wpAny (model X.prog X.w) X.A (subscriptTail e (.Slice none none (some ek) p3) (.ref a) (.ref s4.heap.objs.size)) (EP X pins σ Q) X.xe { s4 with heap := s4.heap.push { cls := .type "slice", data := .fields #[vl, vu, vs] } }
  refine tail_any (ops := [.ref a, .ref s4.heap.objs.size]) ht.isList.typeIs (slot_list_getitem.lookup) ?_ (by with_unfolding_all rfl)
  refine wpAny_getItem_list_slice ht.isList (Heap.IsSliceOf.new _ vl vu vs) pl pu ps (by cases b <;> simp) ?_ (by rw [List.size_toArray]; omega)
  have hp : slicePick its.toArray none none (some (if b = true then 1 else -1)) = (if b = true then its else its.reverse).toArray := by
    cases b with
    | true => exact pick_one _
    | false => exact PySem.W.krv_pick _
  rw [hp]
  refine ⟨.ref _, _, I5.laid (t' := s4.toks) (o := .lst (if b = true then xs else xs.reverse)) (fun b ob q => Heap.get?_push_of_some _ q) (Nat.le_refl _) ?_, rfl, q _ (I5.hok.fresh (Nat.le_refl _))⟩
  cases b with
  | true => exact ⟨hz, _, 0, r, Heap.get?_push_size _ rfl⟩
  | false => exact ⟨by rw [if_neg (by decide), List.length_reverse]; exact hz, _, 0, r.reverse, Heap.get?_push_size _ rfl⟩
end
end RV
/-! enumerate(tuple) -/
namespace EN
open PySem PySem.Spec PyProof.Rows L2
theorem meets_new1 {v : Value} {o : Obj} {H : Heap → Prop} (B : Begins v o H) :
    Meets (Builtin.«enumerate.__new__» ⟨[.type "enumerate", v], []⟩) (fun _ R s => H s.heap ∧
      R (.ok (.ret (.ref (s.heap.push o).objs.size))) { s with heap := (s.heap.push o).push { cls := .type "enumerate", data := .fields #[.none, .bool false, .ref s.heap.objs.size, rawInt 0, .none, .none] } }) :=
  .of_wp fun prog w A R s h => by
    obtain ⟨hp, g, d, tk, os⟩ := s
    obtain ⟨h1, h⟩ := h
    have hsub := sub_enumerate
    have q1 : ∀ {A' : Around} {E : Value → Shared → Prop} {Q : Value → Shared → Prop}, Q (.ref hp.objs.size) ⟨hp.push o, g, d, tk, os⟩ → wpAny (model prog w) A' (pyIter v) Q E ⟨hp, g, d, tk, os⟩ :=
      fun q => B.iter prog w _ _ ⟨hp, g, d, tk, os⟩ _ h1 q
    wp_walk using q1
    refine wpAny_stack_any fun st => wpAny_pure ?_
    split
    · rename_i c _ _ _ _ _
      cases (c == Value.type "enumerate")
      · wp_walk using q1
        exact ⟨_, rfl, h⟩
      · wp_walk using q1
        exact ⟨_, rfl, h⟩
    · wp_walk using q1
      exact ⟨_, rfl, h⟩
section
variable {prog : Program} {w : World} {A : Around} {E : Value → Shared → Prop} {s : Shared}
theorem begins1 {v : Value} {o : Obj} {H : Heap → Prop} {Q : Value → Shared → Prop} (B : Begins v o H) (h1 : H s.heap)
    (h : ∀ h', IsEnum h' (s.heap.objs.size + 1) s.heap.objs.size 0 .none → h'.get? s.heap.objs.size = some o → h'.objs.size = s.heap.objs.size + 2 →
      (∀ b o, s.heap.get? b = some o → h'.get? b = some o) → Q (.ref (s.heap.objs.size + 1)) { s with heap := h' }) :
    wpAny (model prog w) A (call (.type "enumerate") [v]) Q E s := by
  refine callType_new F.called_enumerate (by decide) (F.typeCall_enumerate_1 _) (F.newCall_enumerate_1 _) (fun obj => F.args_object_init_2 obj _) F.entry_enumerate_new
    (meets_new1 B) ⟨h1, ?_⟩
  have hz : (s.heap.push o).objs.size = s.heap.objs.size + 1 := Heap.size_push ..
  show _ ∧ _
  rw [hz]
  have he : IsEnum ((s.heap.push o).push { cls := .type "enumerate", data := .fields #[.none, .bool false, .ref s.heap.objs.size, rawInt 0, .none, .none] }) (s.heap.objs.size + 1) s.heap.objs.size 0 .none := by
    have := Heap.get?_push_size (s.heap.push o) (o := { cls := .type "enumerate", data := .fields #[.none, .bool false, .ref s.heap.objs.size, rawInt 0, .none, .none] }) rfl
    rw [hz] at this
    exact this
  exact ⟨⟨_, he, rfl⟩, h _ he (Heap.get?_push_of_some _ (Heap.get?_push_size _ B.free)) (by rw [Heap.size_push, hz]) fun b o x => Heap.get?_push_of_some _ (Heap.get?_push_of_some _ x)⟩
end
/-- the tuple at a, its items with their places in new pairs -/
def ItT (K : PySem.W.Frag) (a : Addr) : It :=
  ⟨fun i H => ∃ (xs : List V) (x : V), SqT K H a xs ∧ xs[i]? = some x, fun i H v H' => ∃ T x, v = .ref T ∧ H T = none ∧ H' = upd H T (.tup [.int (i : Nat), x]) ∧ ∀ xs, SqT K H a xs → xs[i]? = some x, fun i H => ∃ xs : List V, SqT K H a xs ∧ xs.length = i⟩
theorem ne_iter {h : Heap} {it a : Addr} {i : Nat} {its : Array Value} (h1 : h.IsTupleIter it a i) (h2 : h.IsTuple a its) : a ≠ it := fun e => by
  subst e
  obtain ⟨o, ho, hc, _⟩ := h1
  obtain ⟨o', ho', hc', _⟩ := h2
  rw [ho] at ho'
  cases ho'
  rw [hc] at hc'
  injection hc' with q
  exact absurd q (by decide)
theorem turn_T {P : Program} {w : World} {K : PySem.W.Frag} {elts : List Expr} {kk : Nat} {tpos : Pos} (a e it : Addr) (nea : e ≠ a) :
    Turn P w K (.Tuple elts kk tpos) (ItT K a) [e, it] e (fun i h => (∃ old, IsEnum h e it ((i : Nat) : Int) old) ∧ h.IsTupleIter it a i ∧ e ≠ it) where
  mem := by simp
  obj := fun i h st b hb => by
    obtain ⟨⟨old, he⟩, ⟨o, ho, hc, hd⟩, _⟩ := st
    have e' : b = e ∨ b = it := by simpa using hb
    rcases e' with z | z
    · rw [z]; exact ⟨_, he, fun v q => nomatch q⟩
    · rw [z]; exact ⟨o, ho, fun v q => by rw [hd] at q; cases q⟩
  keep := fun i h h' st k => let ⟨⟨old, he⟩, hi, hne⟩ := st; ⟨⟨old, k e (by simp) _ he⟩, hi.at fun o q => k it (by simp) o q, hne⟩
  item := by
    intro X hP hw hK hc i pins s σ H E I hf st hg
    subst hP hw hK
    obtain ⟨⟨old, he⟩, hit, hne⟩ := st
    obtain ⟨xs, x, hq, hx⟩ := hg
    obtain ⟨its, rv, p, hz⟩ := I.tuple hq
    obtain ⟨u, hu, ru⟩ := rv.get hx
    have hel : e < s.heap.objs.size := Heap.lt_size he
    have hil : it < s.heap.objs.size := by obtain ⟨_, q, _⟩ := hit; exact Heap.lt_size q
    have p' : s.heap.IsTuple a its.toArray := p
    have lt : i < its.toArray.size := by
      rw [List.size_toArray]
      exact (List.getElem?_eq_some_iff.mp hu).1
    refine wpAny_pyNext_enum_itemD (Draws.tuple (A := X.A.in1) (I.ok.hd hc) it a (ne_iter hit p') its.toArray) he ⟨hit, p'⟩ lt hne (by simp [hne, nea]) fun x' h' tk px ho st' hT hsz hk => ?_
    have ex : x' = u := by
      rw [List.getElem?_toArray, hu] at px
      exact (Option.some.inj px).symm
    subst ex
    refine ⟨_, rfl, wpAny_letOwnedTupleGo_enum (s := { s with heap := h', toks := tk + 1 }) ho fun h'' he' sb => ?_⟩
    have hT2 : h''.get? s.heap.objs.size = some { cls := .type "tuple", data := .seq #[.int i tk, x'] } := (sb.2 _ (Nat.ne_of_gt hel)).trans hT
    have new : ObjOk X.prog X.w (upd H s.heap.objs.size (.tup [.int (i : Nat), x])) h'' s.heap.objs.size (.tup [.int (i : Nat), x]) :=
      ⟨by show 2 ≤ sizeLine; decide, [.int i tk, x'], .cons ⟨_, rfl⟩ (.cons ru .nil), ⟨_, hT2, rfl, _, rfl⟩⟩
    have I1 : Inv X pins σ (upd H s.heap.objs.size (.tup [.int (i : Nat), x])) { s with heap := h'', toks := tk + 1 } :=
      I.turnedNew (ch := [e, it]) (fun b ob hb q => (sb.2 b (fun z => hb (by simp [z]))).trans (hk b ob (fun z => hb (by simp [z])) (fun z => hb (by simp [z])) q)) hf (Nat.le_refl _) new
    refine ⟨.ref s.heap.objs.size, _, I1, rfl, ⟨_, x, rfl, I.hok.fresh (Nat.le_refl _), rfl, fun ys hy => by rw [I.tuple_inj hy hq]; exact hx⟩, ⟨⟨x', ?_⟩, st'.1.at fun o q => (sb.2 it (Ne.symm hne)).trans q, hne⟩, fun b hb => ?_⟩
    · have e1 : ((i + 1 : Nat) : Int) = (i : Int) + 1 := by omega
      rw [e1]
      exact he'
    · have hb' : b < s.heap.objs.size := by
        have e' : b = e ∨ b = it := by simpa using hb
        rcases e' with z | z
        · rw [z]; exact hel
        · rw [z]; exact hil
      rw [upd_ne (Nat.ne_of_lt hb')]
      exact (hf b hb).1
  done := by
    intro X hP hw hK hc i pins s σ H E I hf st hg
    subst hP hw hK
    obtain ⟨⟨old, he⟩, hit, hne⟩ := st
    obtain ⟨xs, hq, hx⟩ := hg
    obtain ⟨its, rv, p, hz⟩ := I.tuple hq
    have p' : s.heap.IsTuple a its.toArray := p
    obtain ⟨f0, f1, f2, f3, f4, f5⟩ := hf it (by simp)
    have hl := rv.length
    have ei : i = its.toArray.size := by rw [List.size_toArray]; omega
    exact wpAny_pyNext_enum_endD (Draws.tuple (A := X.A.in1) (I.ok.hd hc) it a (ne_iter hit p') its.toArray) he (by rw [← ei]; exact ⟨hit, p'⟩) fun h' eb => ⟨rfl, I.turned (t' := s.toks) (fun b o hb q => eb b o hb q) f0 f1 f3 f4 f5⟩
  self := fun A i s Q E st h => let ⟨⟨_, he⟩, _⟩ := st; wpAny_pyIter_enum he h
def iEnT (K : PySem.W.Frag) (ta : TA) : TI := fun σ H R => ta σ H fun vs H1 => ∃ a xs, vs = [.ref a] ∧ SqT K H1 a xs ∧ R (ItT K a) H1
theorem pi_enT {X : Cx} {e : Expr} {ta : TA} {p pos tpos : Pos} {elts : List Expr} {kk : Nat} (hg : Gl X "enumerate") (hm : X.mg "enumerate" = none) (ha : PA X [e] ta) (hs : starEach [e] X.env = [(false, eval e X.env)] := by rfl) :
    PI X (.Tuple elts kk tpos) (.Call (.Name "enumerate" p) [e] [] pos) (iEnT X.K ta) := by
  refine ⟨fun pins s σ H R I h => ?_⟩
  refine Call_ (ld_blt I hg hm boot_enumerate (PyProof.Rows.callWith_type1 (thn (ha.run pos pins s σ H _ I h) fun us s1 ⟨vs, H1, I1, r1, q1⟩ => ?_) hs rfl))
  obtain ⟨a, xs, ex, hq, q⟩ := q1
  subst ex
  cases r1 with
  | cons r rr =>
    cases rr
    cases r
    obtain ⟨its, rv, p', hz⟩ := I1.tuple hq
    have p2 : s1.heap.IsTuple a its.toArray := p'
    have al : a < s1.heap.objs.size := by
      obtain ⟨_, h0, _⟩ := p2
      exact Heap.lt_size h0
    refine begins1 (begins_tuple a its.toArray) p2 fun h' he hit hsz hk => wpAny_pyIter_enum he ?_
    have I2 : Inv X pins σ H1 { s1 with heap := h' } := I1.kept (t' := s1.toks) hk
    refine ⟨s1.heap.objs.size + 1, [s1.heap.objs.size + 1, s1.heap.objs.size], _, _, H1, rfl, I2, turn_T a (s1.heap.objs.size + 1) s1.heap.objs.size (fun z => absurd (z ▸ al) (Nat.not_lt.mpr (Nat.le_succ _))), ⟨⟨.none, he⟩, ⟨_, hit, rfl, rfl⟩, Nat.succ_ne_self _⟩, fun b hb => ?_, q⟩
    have e' : b = s1.heap.objs.size + 1 ∨ b = s1.heap.objs.size := by simpa using hb
    have hle : s1.heap.objs.size ≤ b := by
      rcases e' with z | z
      · rw [z]; exact Nat.le_add_right _ _
      · rw [z]; exact Nat.le_refl _
    exact I1.fpOk hle (I1.hok.fresh hle)
theorem walk_T {K : PySem.W.Frag} {a : Addr} {xs : List V} : Walk (ItT K a) xs.length (fun H => SqT K H a xs) (YPair (fun i => some (.int (i : Nat))) (fun i => xs[i]?)) := by
  refine ⟨fun i _ hi q => ⟨xs, xs[i], q, by simp [hi]⟩, fun _ q => ⟨xs, q, rfl⟩, fun i H v H' _ q y => ?_⟩
  obtain ⟨T, x, h1, h2, h3, h4⟩ := y
  exact ⟨T, .int (i : Nat), x, h1, h2, h3, rfl, h4 xs q⟩
end EN
/-! zip(text, text) -/
namespace ZX
open PySem PySem.Spec PyProof.Rows L2
/-- the signs of two texts, side by side, in new pairs -/
def Itx (x y : Str) : It :=
  ⟨fun i _ => i < x.cps.size ∧ i < y.cps.size,
    fun i H v H' => ∃ (T : Addr) (c d : Nat), v = .ref T ∧ H T = none ∧ H' = upd H T (.tup [.str ⟨#[c]⟩, .str ⟨#[d]⟩]) ∧ x.cps[i]? = some c ∧ y.cps[i]? = some d,
    fun i _ => i = min x.cps.size y.cps.size⟩
theorem turn_zipX {P : Program} {w : World} {K : PySem.W.Frag} {elts : List Expr} {kk : Nat} {tpos : Pos} {x y : Str} {t u : Tok} {z TI TO i1 i2 : Addr} (S : ZipSep2 z TI TO i1 i2 [i1] [i2]) :
    Turn P w K (.Tuple elts kk tpos) (Itx x y) [z, TI, TO, i1, i2] z (fun i h => IsZip h z TI TO .none ∧ IsTupOf2 h TI (.ref i1) (.ref i2) ∧ (∃ a b, IsTupOf2 h TO a b) ∧ h.IsStrIter i1 (strIterType x) x t i ∧ h.IsStrIter i2 (strIterType y) y u i) where
  mem := by simp
  obj := fun i h st c hc => by
    obtain ⟨hz, hTI, ⟨a, b, hTO⟩, ⟨o1, e1, _, d1⟩, ⟨o2, e2, _, d2⟩⟩ := st
    have e' : c = z ∨ c = TI ∨ c = TO ∨ c = i1 ∨ c = i2 := by simpa using hc
    rcases e' with q | q | q | q | q
    · rw [q]; exact ⟨_, hz, fun v q => nomatch q⟩
    · rw [q]; exact ⟨_, hTI, fun v q => nomatch q⟩
    · rw [q]; exact ⟨_, hTO, fun v q => nomatch q⟩
    · rw [q]; exact ⟨o1, e1, fun v q => by rw [d1] at q; cases q⟩
    · rw [q]; exact ⟨o2, e2, fun v q => by rw [d2] at q; cases q⟩
  keep := fun i h h' st k => by
    obtain ⟨hz, hTI, ⟨a, b, hTO⟩, ⟨o1, e1, r1⟩, ⟨o2, e2, r2⟩⟩ := st
    exact ⟨k z (by simp) _ hz, k TI (by simp) _ hTI, ⟨a, b, k TO (by simp) _ hTO⟩, ⟨o1, k i1 (by simp) _ e1, r1⟩, ⟨o2, k i2 (by simp) _ e2, r2⟩⟩
  item := by
    intro X hP hw hK hc i pins s σ H E I hf st hg
    subst hP hw hK
    obtain ⟨hz, hTI, ⟨a0, b0, hTO⟩, h1, h2⟩ := st
    have hzl : z < s.heap.objs.size := Heap.lt_size hz
    refine wpAny_pyNext_zipD2_item S (Draws.text (A := X.A.in1) (I.ok.hd hc) i1 x t) (Draws.text (A := X.A.in1) (I.ok.hd hc) i2 y u) hz hTI hTO h1 h2 hg.1 hg.2 fun v1 v2 h' tk p1 p2 z' TO' h1' h2' hT hsz hk => ?_
    obtain ⟨c, tc, hc1, rfl⟩ := p1
    obtain ⟨d, td, hd1, rfl⟩ := p2
    refine ⟨_, rfl, wpAny_letOwnedTupleGo_zip (s := { s with heap := h', toks := tk }) z' fun h'' z'' sb => ?_⟩
    have hT2 : h''.get? s.heap.objs.size = some { cls := .type "tuple", data := .seq #[.str ⟨#[c]⟩ tc, .str ⟨#[d]⟩ td] } := (sb.2 _ (Nat.ne_of_gt hzl)).trans hT
    have new : ObjOk X.prog X.w (upd H s.heap.objs.size (.tup [.str ⟨#[c]⟩, .str ⟨#[d]⟩])) h'' s.heap.objs.size (.tup [.str ⟨#[c]⟩, .str ⟨#[d]⟩]) :=
      ⟨by show 2 ≤ sizeLine; decide, [.str ⟨#[c]⟩ tc, .str ⟨#[d]⟩ td], .cons ⟨_, rfl⟩ (.cons ⟨_, rfl⟩ .nil), ⟨_, hT2, rfl, _, rfl⟩⟩
    have I1 : Inv X pins σ (upd H s.heap.objs.size (.tup [.str ⟨#[c]⟩, .str ⟨#[d]⟩])) { s with heap := h'', toks := tk } :=
      I.turnedNew (t' := tk) (ch := [z, TI, TO, i1, i2]) (fun c o hb q => (sb.2 c (fun q' => hb (by simp [q']))).trans (hk c o (fun q' => hb (by simp [q'])) (fun q' => hb (by simp [q'])) (fun q' => hb (by simp [q'])) (fun q' => hb (by simp [q'])) q)) hf (Nat.le_refl _) new
    have st' : ∀ {a : Addr} {ty : String} {v : Str} {tv : Tok} {n : Nat}, a ≠ z → h'.IsStrIter a ty v tv n → h''.IsStrIter a ty v tv n := fun n ⟨o, e, r⟩ => ⟨o, (sb.2 _ n).trans e, r⟩
    refine ⟨.ref s.heap.objs.size, _, I1, rfl, ⟨_, c, d, rfl, I.hok.fresh (Nat.le_refl _), rfl, hc1, hd1⟩, ⟨z'', ?_, ⟨.str ⟨#[c]⟩ tc, .str ⟨#[d]⟩ td, ?_⟩, st' S.zi1.symm h1', st' S.zi2.symm h2'⟩, fun b hb => ?_⟩
    · exact (sb.2 _ S.TIz).trans (hk _ _ S.TIz S.TITO S.TIi1 S.TIi2 hTI)
    · exact (sb.2 _ S.TOz).trans TO'
    · have hlt : b < s.heap.objs.size := by
        have e' : b = z ∨ b = TI ∨ b = TO ∨ b = i1 ∨ b = i2 := by simpa using hb
        rcases e' with q | q | q | q | q
        · rw [q]; exact hzl
        · rw [q]; exact Heap.lt_size hTI
        · rw [q]; exact Heap.lt_size hTO
        · rw [q]; obtain ⟨_, e1, _⟩ := h1; exact Heap.lt_size e1
        · rw [q]; obtain ⟨_, e2, _⟩ := h2; exact Heap.lt_size e2
      rw [upd_ne (Nat.ne_of_lt hlt)]
      exact (hf b hb).1
  done := by
    intro X hP hw hK hc i pins s σ H E I hf st hg
    subst hP hw hK
    obtain ⟨hz, hTI, ⟨a0, b0, hTO⟩, h1, h2⟩ := st
    have hg' : i = min x.cps.size y.cps.size := hg
    exact wpAny_pyNext_zipD2_end S (Draws.text (A := X.A.in1) (I.ok.hd hc) i1 x t) (Draws.text (A := X.A.in1) (I.ok.hd hc) i2 y u) hz hTI hTO h1 h2 (by omega) (by omega) (by omega) fun h' tk hk => ⟨rfl, I.turnedL (t' := tk) (ch := [z, TI, TO, i1, i2]) (fun c o hb q =>
      hk c o (fun q' => hb (by simp [q'])) (fun q' => hb (by simp [q'])) (fun q' => hb (by simp [q'])) (fun q' => hb (by simp [q'])) q) hf⟩
  self := fun A i s Q E st h => wpAny_pyIter_zip st.1 h
theorem sep_new (n : Addr) : ZipSep2 (n + 4) (n + 2) (n + 3) n (n + 1) [n] [n + 1] := by
  constructor <;> simp <;> omega
def iZipX (ta : TA) : TI := fun σ H R => ta σ H fun vs H1 => ∃ x y : Str, vs = [.str x, .str y] ∧ R (Itx x y) H1
theorem pi_zipX {X : Cx} {e e2 : Expr} {ta : TA} {p pos tpos : Pos} {elts : List Expr} {kk : Nat} (hg : Gl X "zip") (hm : X.mg "zip" = none) (ha : PA X [e, e2] ta)
    (hs : starEach [e, e2] X.env = (false, eval e X.env) :: starEach [e2] X.env := by rfl) (hpl : (backTo pos (starEach [e2] X.env)).any (·.1) = false := by rfl) :
    PI X (.Tuple elts kk tpos) (.Call (.Name "zip" p) [e, e2] [] pos) (iZipX ta) := by
  refine ⟨fun pins s σ H R I h => ?_⟩
  refine Call_ (ld_blt I hg hm PyProof.Rows.boot_zip (PyProof.Rows.callWith_type1 (thn (ha.run pos pins s σ H _ I h) fun us s1 ⟨vs, H1, I1, r1, q1⟩ => ?_) hs hpl))
  obtain ⟨x, y, ex, q⟩ := q1
  subst ex
  cases r1 with
  | cons r rr =>
    cases rr with
    | cons r' rr =>
      cases rr
      obtain ⟨t, rfl⟩ := r
      obtain ⟨u, rfl⟩ := r'
      refine zip_begins2 (begins_text x t) (begins_text y u) trivial trivial fun h' hz hTI hTO h1 h2 hsz hk => wpAny_pyIter_zip hz ?_
      have I2 : Inv X pins σ H1 { s1 with heap := h' } := I1.kept (t' := s1.toks) hk
      refine ⟨s1.heap.objs.size + 4, [s1.heap.objs.size + 4, s1.heap.objs.size + 2, s1.heap.objs.size + 3, s1.heap.objs.size, s1.heap.objs.size + 1], _, _, H1, rfl, I2, turn_zipX (sep_new s1.heap.objs.size), ⟨hz, hTI, ⟨_, _, hTO⟩, ⟨_, h1, rfl, rfl⟩, ⟨_, h2, rfl, rfl⟩⟩, fun c hcm => ?_, q⟩
      have e' : c = s1.heap.objs.size + 4 ∨ c = s1.heap.objs.size + 2 ∨ c = s1.heap.objs.size + 3 ∨ c = s1.heap.objs.size ∨ c = s1.heap.objs.size + 1 := by simpa using hcm
      have hle : s1.heap.objs.size ≤ c := by
        rcases e' with z | z | z | z | z
        · rw [z]; exact Nat.le_add_right _ _
        · rw [z]; exact Nat.le_add_right _ _
        · rw [z]; exact Nat.le_add_right _ _
        · rw [z]; exact Nat.le_refl _
        · rw [z]; exact Nat.le_add_right _ _
      exact I1.fpOk hle (I1.hok.fresh hle)
theorem walk_zipX {x y : Str} : Walk (Itx x y) (min x.cps.size y.cps.size) (fun _ => True) (Itx x y).yld :=
  ⟨fun i _ hi _ => ⟨by omega, by omega⟩, fun _ _ => rfl, fun _ _ _ _ _ _ y => y⟩
end ZX
/-! dicts whose keys are tuples at any depth (to eight): of numbers, texts, None and such tuples -/
namespace ND
open PySem PySem.Spec PyProof.Rows L2
set_option autoImplicit false
/-! ### keys -/
mutual
inductive NK (K : PySem.W.Frag) (H : Hp) : NestedKey → V → Prop
  | none : NK K H .none .non
  | num (i : Int) : NK K H (.num i) (.int i)
  | text (x : Str) : NK K H (.text x) (.str x)
  | tup {a : Addr} {vs : List V} {ks : List NestedKey} : SqT K H a vs → NKs K H ks vs → NK K H (.tup ks) (.ref a)
inductive NKs (K : PySem.W.Frag) (H : Hp) : List NestedKey → List V → Prop
  | nil : NKs K H [] []
  | cons {k : NestedKey} {v : V} {ks : List NestedKey} {vs : List V} : NK K H k v → NKs K H ks vs → NKs K H (k :: ks) (v :: vs)
end
mutual
theorem NK.mono {K : PySem.W.Frag} {H H' : Hp} (m : ∀ b xs, SqT K H b xs → SqT K H' b xs) : ∀ (k : NestedKey) (v : V), NK K H k v → NK K H' k v
  | .none, _, h => by cases h; exact .none
  | .num i, _, h => by cases h; exact .num i
  | .text x, _, h => by cases h; exact .text x
  | .tup ks, _, h => by
    cases h with
    | tup q r => exact .tup (m _ _ q) (NKs.mono m ks _ r)
theorem NKs.mono {K : PySem.W.Frag} {H H' : Hp} (m : ∀ b xs, SqT K H b xs → SqT K H' b xs) : ∀ (ks : List NestedKey) (vs : List V), NKs K H ks vs → NKs K H' ks vs
  | [], _, h => by cases h; exact .nil
  | k :: ks, _, h => by
    cases h with
    | cons a r => exact .cons (NK.mono m k _ a) (NKs.mono m ks _ r)
end
section
variable {X : Cx} {pins : List (Addr × Obj)} {σ : L2.St} {H : Hp} {s : Shared}
mutual
theorem nk_is (I : Inv X pins σ H s) : ∀ (k : NestedKey) (v : V) (u : Value), NK X.K H k v → RelV v u → NestedIs s.heap k u
  | .none, _, u, h, r => by
    cases h
    obtain rfl : u = Value.none := r
    exact .none
  | .num i, _, u, h, r => by
    cases h
    obtain ⟨t, rfl⟩ : ∃ t, u = Value.int i t := r
    exact .int i t
  | .text x, _, u, h, r => by
    cases h
    obtain ⟨t, rfl⟩ : ∃ t, u = Value.str x t := r
    exact .text x t
  | .tup ks, _, u, h, r => by
    cases h with
    | @tup a vs _ q rest =>
      obtain rfl : u = Value.ref a := r
      obtain ⟨its, rv, ⟨o, ho, hc, n, hd⟩, _⟩ := I.tuple q
      exact .tup ho hc hd (by simpa using nks_is I ks vs its rest rv)
theorem nks_is (I : Inv X pins σ H s) : ∀ (ks : List NestedKey) (vs : List V) (us : List Value), NKs X.K H ks vs → Vals vs us → NestedAll s.heap ks us
  | [], _, us, h, r => by
    cases h
    cases r
    exact .nil
  | k :: ks, _, us, h, r => by
    cases h with
    | cons a rest =>
      cases r with
      | cons ra rr => exact .cons (nk_is I k _ _ a ra) (nks_is I ks _ _ rest rr)
end
end
/-! ### the dict -/
abbrev Ent : Type := NestedKey × Addr × V
abbrev Raw : Type := NestedKey × Addr × Value
def KN : List Ent → List Raw → Prop := Paired fun (p : Ent) (q : Raw) => p.1 = q.1 ∧ p.2.1 = q.2.1 ∧ RelV p.2.2 q.2.2
def DO (P : Program) (w : World) (d : Addr) (kvs : List Ent) : HO := .ext fun h => (d == sysModules) = false ∧ kvs.length ≤ sizeLine ∧ ∃ xs : List Raw, KN kvs xs ∧
  ∃ (o : Obj) (es : Array DictEntry) (ep : Nat), h.get? d = some o ∧ o.ExactDict ∧ o.data = .dict es ep ∧ es.toList = xs.map (entryOfKey (nestedKind P w)) ∧ (xs.map (·.1)).Nodup
def KOks (K : PySem.W.Frag) (H : Hp) (kvs : List Ent) : Prop := ∀ p ∈ kvs, NK K H p.1 (.ref p.2.1) ∧ p.1.depth ≤ 8
theorem KOks.mono {K : PySem.W.Frag} {H H' : Hp} {kvs : List Ent} (h : KOks K H kvs) (m : ∀ b xs, SqT K H b xs → SqT K H' b xs) : KOks K H' kvs := fun p hp => ⟨NK.mono m _ _ (h p hp).1, (h p hp).2⟩
def valN (kvs : List Ent) (k : NestedKey) : Option V := (kvs.find? fun p => decide (p.1 = k)).map (·.2.2)
def setN (k : NestedKey) (v : V) (p : Ent) : Ent := if p.1 = k then (p.1, p.2.1, v) else p
def putN (kvs : List Ent) (k : NestedKey) (b : Addr) (v : V) : List Ent := if (valN kvs k).isSome = true then kvs.map (setN k v) else kvs ++ [(k, b, v)]
theorem KN.len : ∀ {kvs : List Ent} {xs : List Raw}, KN kvs xs → kvs.length = xs.length
  | _, _, .nil => rfl
  | _, _, .cons _ r => by rw [List.length_cons, List.length_cons, KN.len r]
theorem KN.val {k : NestedKey} : ∀ {kvs : List Ent} {xs : List Raw}, KN kvs xs → RelO (valN kvs k) ((atKey xs k).map (·.2))
  | _, _, .nil => by exact True.intro
  | _, _, @Paired.cons _ _ _ p q ps qs h r => by
    have ih := KN.val (k := k) r
    unfold valN atKey at ih ⊢
    by_cases c : p.1 = k
    · rw [List.find?_cons_of_pos (by exact decide_eq_true c), List.find?_cons_of_pos (by rw [← h.1]; exact decide_eq_true c)]
      exact h.2.2
    · rw [List.find?_cons_of_neg (by simpa using c), List.find?_cons_of_neg (by rw [← h.1]; simpa using c)]
      exact ih
theorem KN.rep {k : NestedKey} {v : V} {r : Value} (rv : RelV v r) : ∀ {kvs : List Ent} {xs : List Raw}, KN kvs xs → KN (kvs.map (setN k v)) (xs.map (putAt k r))
  | _, _, .nil => .nil
  | _, _, @Paired.cons _ _ _ p q ps qs h t => by
    refine .cons ?_ (KN.rep rv t)
    unfold setN putAt
    by_cases c : p.1 = k
    · rw [if_pos c, if_pos (by rw [← h.1]; exact c)]
      exact ⟨h.1, h.2.1, rv⟩
    · rw [if_neg c, if_neg (by rw [← h.1]; exact c)]
      exact h
theorem KN.snoc {p : Ent} {q : Raw} (h : p.1 = q.1 ∧ p.2.1 = q.2.1 ∧ RelV p.2.2 q.2.2) : ∀ {kvs : List Ent} {xs : List Raw}, KN kvs xs → KN (kvs ++ [p]) (xs ++ [q])
  | _, _, .nil => .cons h .nil
  | _, _, .cons a r => .cons a (KN.snoc h r)
theorem KN.put {k : NestedKey} {b : Addr} {v : V} {r : Value} (rv : RelV v r) {kvs : List Ent} {xs : List Raw} (h : KN kvs xs) : KN (putN kvs k b v) (storedH xs k b r) := by
  have e := (KN.val (k := k) h).isSome_eq
  rw [Option.isSome_map] at e
  unfold putN storedH
  rw [e]
  by_cases q : (atKey xs k).isSome = true
  · rw [if_pos q, if_pos q]
    exact h.rep rv
  · rw [if_neg q, if_neg q]
    exact h.snoc ⟨rfl, rfl, rv⟩
theorem putN_len (kvs : List Ent) (k : NestedKey) (b : Addr) (v : V) : (putN kvs k b v).length ≤ kvs.length + 1 := by
  unfold putN
  split
  · rw [List.length_map]
    omega
  · rw [List.length_append]
    exact Nat.le_refl _
theorem putN_ok {K : PySem.W.Frag} {H : Hp} {kvs : List Ent} {k : NestedKey} {b : Addr} {v : V} (h : KOks K H kvs) (hk : NK K H k (.ref b)) (hd : k.depth ≤ 8) : KOks K H (putN kvs k b v) := by
  unfold putN
  split
  · intro p hp
    obtain ⟨q, hq, rfl⟩ := List.mem_map.mp hp
    unfold setN
    split
    · exact h q hq
    · exact h q hq
  · intro p hp
    rcases List.mem_append.mp hp with q | q
    · exact h p q
    · rw [List.mem_singleton.mp q]
      exact ⟨hk, hd⟩
theorem do_new {P : Program} {w : World} {H : Hp} {h : Heap} {d : Addr} {kvs : List Ent} {xs : List Raw} (hs : (d == sysModules) = false) (hl : kvs.length ≤ sizeLine) (r : KN kvs xs) (dd : h.DictOfH (nestedKind P w) d xs) : ObjOk P w H h d (DO P w d kvs) := by
  obtain ⟨o, es, ep, h1, h2, h3, h4, _, h5⟩ := dd
  refine ⟨⟨hs, hl, xs, r, o, es, ep, h1, h2, h3, h4, h5⟩, ⟨o, h1⟩, ?_⟩
  rintro g1 g2 ⟨hs, hl, xs, r, o, es, ep, h1, h2⟩ kk
  exact ⟨hs, hl, xs, r, o, es, ep, kk o h1, h2⟩
section
variable {X : Cx} {pins : List (Addr × Obj)} {σ : L2.St} {H : Hp} {s : Shared} {d b : Addr} {kvs : List Ent} {k : NestedKey} {A : Around} {E : Value → Shared → Prop}
theorem do_at (I : Inv X pins σ H s) (e : Rd H d (DO X.prog X.w d kvs)) (ko : KOks X.K H kvs) : (d == sysModules) = false ∧ kvs.length ≤ sizeLine ∧ ∃ xs : List Raw, KN kvs xs ∧ s.heap.DictOfH (nestedKind X.prog X.w) d xs := by
  obtain ⟨⟨hs, hl, xs, r, o, es, ep, h1, h2, h3, h4, h5⟩, _, _⟩ := e.ok I.hok
  refine ⟨hs, hl, xs, r, o, es, ep, h1, h2, h3, h4, ?_, h5⟩
  have all : ∀ {l : List Ent} {m : List Raw}, KN l m → KOks X.K H l → ∀ x ∈ m, (nestedKind X.prog X.w).is s.heap x.1 x.2.1 := by
    intro l m q
    induction q with
    | nil => intro _ x hx; exact nomatch hx
    | @cons p q ps qs hq t ih =>
      intro ok x hx
      rcases List.mem_cons.mp hx with z | z
      · subst z
        obtain ⟨h1, h2⟩ := ok p List.mem_cons_self
        refine ⟨?_, by rw [← hq.1]; exact h2⟩
        rw [← hq.1, ← hq.2.1]
        exact nk_is I _ _ _ h1 rfl
      · exact ih (fun p hp => ok p (List.mem_cons_of_mem _ hp)) x z
  exact all r ko
theorem key_at (I : Inv X pins σ H s) (hk : NK X.K H k (.ref b)) (hd : k.depth ≤ 8) : (nestedKind X.prog X.w).is s.heap k b := ⟨nk_is I _ _ _ hk rfl, hd⟩
theorem room_at (hu : A.units + 9 < cLine) : (nestedKind X.prog X.w).room A.in1 := by
  show A.in1.units + 8 < cLine
  have : A.in1.units ≤ A.units + 1 := by first | exact Nat.le_refl _ | (unfold Around.in1; simp)
  omega
end
/-! ### rules -/
/-- {} -/
def tNewN (P : Program) (w : World) : TE := fun _ H Q => ∀ p, H p = none → Q (.ref p) (upd H p (DO P w p []))
theorem pe_dnewN {X : Cx} {pos : Pos} : PE X (.Dict [] [] pos) (tNewN X.prog X.w) := ⟨fun pins s σ H Q I h => by
  refine wpAny_Dict_empty ⟨.ref s.heap.objs.size, upd H s.heap.objs.size (DO X.prog X.w s.heap.objs.size []), ?_, rfl, h _ (I.hok.fresh (Nat.le_refl _))⟩
  refine I.laid (t' := s.toks) (fun _ _ q => Heap.get?_push_of_some _ q) (Nat.le_refl _) ?_
  exact do_new (xs := []) (beq_eq_false_iff_ne.mpr (Ne.symm (Nat.ne_of_lt I.big))) (Nat.zero_le _) .nil (Heap.DictOfH.new s.heap)⟩
/-- what is asked of a dict and a key -/
structure At (X : Cx) (H : Hp) (d b : Addr) (kvs : List Ent) (k : NestedKey) : Prop where
  dic : Rd H d (DO X.prog X.w d kvs)
  oks : KOks X.K H kvs
  key : NK X.K H k (.ref b)
  dep : k.depth ≤ 8
section
variable {X : Cx} {o i value e f : Expr} {td ty tv tx : TE} {pos pos' apos cpos : Pos}
def tGetN (X : Cx) (td ty : TE) : TE := fun σ H Q => td σ H fun x H1 => ty σ H1 fun y H2 => ∃ (d b : Addr) (kvs : List Ent) (k : NestedKey) (v : V), x = .ref d ∧ y = .ref b ∧ At X H2 d b kvs k ∧ valN kvs k = some v ∧ Q v H2
theorem pe_dgetN (hu : X.A.units + 9 < cLine) (ho : PE X o td) (hi : PE X i ty) (hs : NoSl i) : PE X (.Subscript o i pos) (tGetN X td ty) := by
  refine ⟨fun pins s σ H Q I h => ?_⟩
  refine subD_of PySem.F.slot_dict_getitem.lookup hs (thn (ho.run pins s σ H _ I h) fun u s1 ⟨x, H1, I1, rx, q1⟩ => thn (hi.run pins s1 σ H1 _ I1 q1) fun iv s2 ⟨y, H2, I2, ry, d, b, kvs, k, v, ex, ey, g, hv, q2⟩ => ?_)
  subst ex ey
  obtain rfl : u = Value.ref d := rx
  obtain rfl : iv = Value.ref b := ry
  obtain ⟨_, _, xs, r, dd⟩ := do_at I2 g.dic g.oks
  obtain ⟨w', hw, rw'⟩ := RelO.some_of (v := v) (o := (atKey xs k).map (·.2)) (by rw [← hv]; exact r.val)
  obtain ⟨p, hp, hp2⟩ := Option.map_eq_some_iff.mp hw
  refine ⟨dd.typeIs, wpAny_getItem_heap (room_at hu) (key_at I2 g.key g.dep) dd hp ?_⟩
  rw [hp2]
  exact ⟨v, H2, I2.tok _, rw', q2⟩
def rInN (X : Cx) (neg : Bool) : R2 := fun y x H Q => ∃ (d b : Addr) (kvs : List Ent) (k : NestedKey), x = .ref d ∧ y = .ref b ∧ At X H d b kvs k ∧ Q (.bl (if neg = true then !(valN kvs k).isSome else (valN kvs k).isSome)) H
theorem op_inN (hu : X.A.units + 9 < cLine) : OpR X (compareOp .In) (rInN X false) := by
  intro pins s σ H y x iv u Q I ry rx h
  obtain ⟨d, b, kvs, k, ex, ey, g, q⟩ := h
  subst ex ey
  obtain rfl : u = Value.ref d := rx
  obtain rfl : iv = Value.ref b := ry
  obtain ⟨hs, _, xs, r, dd⟩ := do_at I g.dic g.oks
  refine wpAny_in_heap (room_at hu) (key_at I g.key g.dep) hs dd ?_
  have z := (KN.val (k := k) r).isSome_eq
  rw [Option.isSome_map] at z
  exact ⟨.bl (valN kvs k).isSome, H, I.tok _, by rw [z]; rfl, q⟩
theorem op_notInN (hu : X.A.units + 9 < cLine) : OpR X (compareOp .NotIn) (rInN X true) := by
  intro pins s σ H y x iv u Q I ry rx h
  obtain ⟨d, b, kvs, k, ex, ey, g, q⟩ := h
  subst ex ey
  obtain rfl : u = Value.ref d := rx
  obtain rfl : iv = Value.ref b := ry
  obtain ⟨hs, _, xs, r, dd⟩ := do_at I g.dic g.oks
  refine wpAny_notIn_heap (room_at hu) (key_at I g.key g.dep) hs dd ?_
  have z := (KN.val (k := k) r).isSome_eq
  rw [Option.isSome_map] at z
  exact ⟨.bl (!(valN kvs k).isSome), H, I.tok _, by rw [z]; rfl, q⟩
def sPutN (X : Cx) (td ty tv : TE) : TS := fun D σ H => tv σ H fun v H1 => td σ H1 fun x H2 => ty σ H2 fun y H3 => ∃ (d b : Addr) (kvs : List Ent) (k : NestedKey), x = .ref d ∧ y = .ref b ∧ H3 d = some (DO X.prog X.w d kvs) ∧ KOks X.K H3 kvs ∧ NK X.K H3 k (.ref b) ∧ k.depth ≤ 8 ∧ kvs.length < sizeLine ∧
  D.nx σ (upd H3 d (DO X.prog X.w d (putN kvs k b v)))
theorem ps_dputN (hu : X.A.units + 9 < cLine) (ho : PE X o td) (hi : PE X i ty) (hv : PE X value tv) (hs : swapsWith value (some (.Subscript o i pos')) pos.line X.env = pure false) : PS X (.Assign [.Subscript o i pos'] value pos) (sPutN X td ty tv) := by
  refine ⟨fun pins s σ H D I h => ?_⟩
  refine wpAny_Assign_Subscript (thn (hv.run pins s σ H _ I h) fun r s1 ⟨v, H1, I1, rv, q1⟩ => thn (ho.run pins s1 σ H1 _ I1 q1) fun u s2 ⟨x, H2, I2, rx, q2⟩ => thn (hi.run pins s2 σ H2 _ I2 q2) fun iv s3 ⟨y, H3, I3, ry, d, b, kvs, k, ex, ey, hd, ok, hk, dp, hl, q3⟩ => ?_) hs
  subst ex ey
  obtain rfl : u = Value.ref d := rx
  obtain rfl : iv = Value.ref b := ry
  obtain ⟨h1, _, xs, rel, dd⟩ := do_at I3 (.inl hd) ok
  have hz : xs.length ≤ sizeLine := by
    rw [← rel.len]
    omega
  refine wpAny_setItem_heap (hsz := hz) (room_at hu) (key_at I3 hk dp) dd fun h' dd' same => ⟨σ, _, ?_, q3⟩
  have pl := putN_len kvs k b v
  have he : ∃ q, h'.get? d = some q := by
    obtain ⟨q, _, _, hq, _⟩ := dd'
    exact ⟨q, hq⟩
  exact d_write I3 (by rw [hd]; exact True.intro) same he (do_new h1 (by omega) (rel.put rv) dd')
def tSetdN (X : Cx) (td ty tx : TE) : TE := fun σ H Q => td σ H fun x H1 => ∃ d kvs0, x = .ref d ∧ H1 d = some (DO X.prog X.w d kvs0) ∧ KOks X.K H1 kvs0 ∧ ty σ H1 fun y H2 => tx σ H2 fun z H3 => ∃ (b : Addr) (kvs : List Ent) (k : NestedKey), y = .ref b ∧
  H3 d = some (DO X.prog X.w d kvs) ∧ KOks X.K H3 kvs ∧ NK X.K H3 k (.ref b) ∧ k.depth ≤ 8 ∧ kvs.length < sizeLine ∧ (∀ v, valN kvs k = some v → Q v H3) ∧ (valN kvs k = none → Q z (upd H3 d (DO X.prog X.w d (putN kvs k b z))))
theorem pe_dsetdN (hu : X.A.units + 9 < cLine) (ho : PE X o td) (he : PE X e ty) (hf : PE X f tx) (m : M2 X o "setdefault" apos e f cpos) : PE X (.Call (.Attribute o "setdefault" apos) [e, f] [] cpos) (tSetdN X td ty tx) := by
  refine ⟨fun pins s σ H Q I h => ?_⟩
  refine wpAny_Call_method m.base m.few m.line PySem.F.plainAttrs_dict PySem.F.slot_dict_setdefault PySem.F.type_dict_setdefault (thn (ho.run pins s σ H _ I h) fun u s1 ⟨x, H1, I1, rx, d, kvs0, ex, hd0, ok0, q1⟩ => ?_)
  subst ex
  obtain rfl : u = Value.ref d := rx
  obtain ⟨_, _, xs0, _, dd0⟩ := do_at I1 (.inl hd0) ok0
  refine ⟨dd0.typeIs, fun b0 q => ?_, ?_⟩
  · cases q
    obtain ⟨o0, _, _, z1, z2, _⟩ := dd0
    exact ⟨o0, z1, z2.2.1⟩
  rw [m.trees]
  refine Calls.callWith_builtin rfl (Calls.evalArgs_plain (Calls.spliced_cons (thn (he.run pins s1 σ H1 _ I1 q1) fun iv s2 ⟨y, H2, I2, ry, q2⟩ =>
    Calls.spliced_cons (thn (hf.run pins s2 σ H2 _ I2 q2) fun fv s3 ⟨z, H3, I3, rz, b, kvs, k, ey, hd, ok, hk, dp, hl, q3, q4⟩ => Calls.spliced_nil ?_))))
  subst ey
  obtain rfl : iv = Value.ref b := ry
  obtain ⟨h1, _, xs, rel, dd⟩ := do_at I3 (.inl hd) ok
  have hz : xs.length ≤ sizeLine := by
    rw [← rel.len]
    omega
  have rv := KN.val (k := k) rel
  refine call_setdefault_heap (hsz := hz) (room_at hu) (key_at I3 hk dp) h1 dd (fun p hp => ?_) fun hn h' dd' same => ?_
  · rw [hp] at rv
    cases hval : valN kvs k with
    | none => rw [hval] at rv; exact rv.elim
    | some v =>
      rw [hval] at rv
      exact ⟨v, H3, I3.tok _, rv, q3 v hval⟩
  · have hval : valN kvs k = none := by
      rw [hn] at rv
      cases hval : valN kvs k with
      | none => rfl
      | some v => rw [hval] at rv; exact rv.elim
    have pl := putN_len kvs k b z
    have he : ∃ q, h'.get? d = some q := by
      obtain ⟨q, _, _, hq, _⟩ := dd'
      exact ⟨q, hq⟩
    exact ⟨z, _, d_write I3 (by rw [hd]; exact True.intro) same he (do_new h1 (by omega) (rel.put rz) dd'), rz, q4 hval⟩
end
end ND
namespace ND
open PySem PySem.Spec PyProof.Rows L2
set_option autoImplicit false
/-! ### walking over the keys -/
/-- the keys of the locked dict, in their order: each its own tuple -/
def ItN (P : Program) (w : World) (d : Addr) (ob : Obj) (kvs : List Ent) : L2.It :=
  ⟨fun n H => H d = some (.frz ob (DO P w d kvs)) ∧ n < kvs.length, fun n H x H' => H' = H ∧ ∃ p, kvs[n]? = some p ∧ x = .ref p.2.1, fun n H => H d = some (.frz ob (DO P w d kvs)) ∧ kvs.length ≤ n⟩
theorem KN.get : ∀ {kvs : List Ent} {xs : List Raw}, KN kvs xs → ∀ (n : Nat) (p : Ent), kvs[n]? = some p → ∃ q, xs[n]? = some q ∧ p.1 = q.1 ∧ p.2.1 = q.2.1 ∧ RelV p.2.2 q.2.2
  | _, _, .nil, n, p, h => by simp at h
  | _, _, .cons a r, 0, p, h => by
    have e := Option.some.inj h
    subst e
    exact ⟨_, rfl, a⟩
  | _, _, .cons a r, n + 1, p, h => KN.get r n p h
theorem locked_at {X : Cx} {pins : List (Addr × Obj)} {σ : L2.St} {H : Hp} {s : Shared} {d : Addr} {ob : Obj} {kvs : List Ent} (I : Inv X pins σ H s) (h : H d = some (.frz ob (DO X.prog X.w d kvs))) :
    (d == sysModules) = false ∧ s.heap.get? d = some ob ∧ ob.ExactDict ∧ ∃ (es : Array DictEntry) (ep : Nat), ob.data = .dict es ep ∧ es.size = kvs.length ∧
      ∀ (n : Nat) (p : Ent), kvs[n]? = some p → ∃ en : DictEntry, es[n]? = some en ∧ en.key = .ref p.2.1 := by
  obtain ⟨at1, ⟨hs, _, xs, rel, o1, es, ep, at2, ex, dt, he, _⟩, _⟩ := I.hok d _ h
  rw [at1] at at2
  cases at2
  refine ⟨hs, at1, ex, es, ep, dt, ?_, fun n p hp => ?_⟩
  · rw [size_of_entries he, rel.len]
  · obtain ⟨q, hq, _, e2, _⟩ := KN.get rel n p hp
    have z := entry_at he n
    rw [hq] at z
    exact ⟨_, z, by rw [e2]; rfl⟩
theorem same_data {ob : Obj} {es es' : Array DictEntry} {ep ep' : Nat} (h : ob.data = .dict es ep) (h' : ob.data = .dict es' ep') : es' = es ∧ ep' = ep := by
  rw [h'] at h
  cases h
  exact ⟨rfl, rfl⟩
theorem turn_keysN {P : Program} {w : World} {K : PySem.W.Frag} {tg : Expr} {d : Addr} {ob : Obj} {es : Array DictEntry} {ep : Nat} {kvs : List Ent} (itr : Addr) (hob : ob.data = .dict es ep) : Turn P w K tg (ItN P w d ob kvs) [itr] itr (fun n h => h.IsKeyIter itr d n kvs.length ep) where
  mem := by simp
  obj := fun n h st b hb => by
    obtain rfl : b = itr := by simpa using hb
    obtain ⟨oi, z, _, dd⟩ := st
    exact ⟨oi, z, fun v q => by rw [dd] at q; cases q⟩
  keep := fun n h h' st kk => st.at fun oi z => kk itr (by simp) oi z
  item := by
    intro X hP hw hK hc n pins s σ H E I hf st hg
    subst hP hw hK
    obtain ⟨hd, hn⟩ := hg
    obtain ⟨g0, g1, g2, g3, g4, g5⟩ := hf itr (by simp)
    obtain ⟨_, atd, _, es', ep', dt', sz, ent⟩ := locked_at I hd
    obtain ⟨rfl, rfl⟩ := same_data hob dt'
    have hp : kvs[n]? = some kvs[n] := List.getElem?_eq_getElem hn
    obtain ⟨en, hen, hkey⟩ := ent n _ hp
    refine next_key_item st atd dt' sz hen fun h' st' sb => ?_
    have J : Inv X pins σ H { s with heap := h' } := I.turned (t' := s.toks) (fun b u hb z => (sb.2 b hb).trans z) g0 g1 g3 g4 g5
    obtain ⟨oi, z, cc, dd⟩ := id st'
    refine ⟨en.key, rfl, go_of (s := { s with heap := h' }) z cc dd (by decide) ⟨.ref kvs[n].2.1, H, J, hkey, ⟨rfl, kvs[n], hp, rfl⟩, st', fun b hb => (hf b hb).1⟩⟩
  done := by
    intro X hP hw hK hc n pins s σ H E I hf st hg
    subst hP hw hK
    obtain ⟨hd, hn⟩ := hg
    obtain ⟨g0, g1, g2, g3, g4, g5⟩ := hf itr (by simp)
    obtain ⟨_, atd, _, es', ep', dt', sz, ent⟩ := locked_at I hd
    obtain ⟨rfl, rfl⟩ := same_data hob dt'
    exact next_key_end (I.ok.hd hc) st atd dt' sz hn fun h' eb => ⟨rfl, I.turned (t' := s.toks) (fun b u hb z => eb b u hb z) g0 g1 g3 g4 g5⟩
  self := fun A n s Q E st h => by
    refine wpAny_pyIter_slot st.typeIs PySem.F.slot_dict_keyiterator_iter (wpAny_call_entry PySem.F.slot_dict_keyiterator_iter st.typeIs PySem.F.entry_dict_keyiterator_iter ?_ (PySem.F.args_dict_keyiterator_iter_1 _))
    show wpAny _ _ (ret (.ref itr)) _ _ s
    exact wpAny_pure ⟨_, rfl, "dict_keyiterator", _, st.typeIs, PySem.F.slot_dict_keyiterator_next.lookup, h⟩
def iKeysN (X : Cx) (td : TE) : TI := fun σ H R => td σ H fun x H1 => ∃ (d : Addr) (ob : Obj) (kvs : List Ent), x = .ref d ∧ H1 d = some (.frz ob (DO X.prog X.w d kvs)) ∧ R (ItN X.prog X.w d ob kvs) H1
theorem pi_keysN {X : Cx} {tg e : Expr} {td : TE} (he : PE X e td) : PI X tg e (iKeysN X td) := by
  refine ⟨fun pins s σ H R I h => ?_⟩
  refine thn (he.run pins s σ H _ I h) fun u s1 ⟨x, H1, J, rx, d, ob, kvs, ex, hd, q⟩ => ?_
  subst ex
  obtain rfl : u = Value.ref d := rx
  obtain ⟨hs, atd, exd, es, ep, dt, sz, _⟩ := locked_at J hd
  refine iter_keys hs atd exd dt (pi_one (tk := s1.toks) J _ (turn_keysN _ dt) ⟨_, Heap.get?_push_size _ rfl, rfl, ?_⟩ q)
  rw [sz] <;> rfl
theorem walk_keysN {P : Program} {w : World} {d : Addr} {ob : Obj} {kvs : List Ent} : Walk (ItN P w d ob kvs) kvs.length (fun H => H d = some (.frz ob (DO P w d kvs))) (fun n H x H' => H' = H ∧ ∃ p, kvs[n]? = some p ∧ x = .ref p.2.1) :=
  ⟨fun _ _ hn q => ⟨q, hn⟩, fun _ q => ⟨q, Nat.le_refl _⟩, fun _ _ _ _ _ _ y => y⟩
end ND
/-! sorted(xs, key=f): f a def of the program whose promise gives a text and leaves all as it was -/
namespace SK
open PySem PySem.Spec PyProof.Rows L2 PySem.W
set_option autoImplicit false
def leG (g : V → Str) : V → V → Bool := dataLe false fun x => PyData.str (g x)
def Rx (u : Value) (x : V) : Prop := RelV x u
theorem each_vals : ∀ {xs : List V} {us : List Value}, Vals xs us → EachIs Rx us xs
  | _, _, .nil => .nil
  | _, _, .cons h r => .cons h (each_vals r)
theorem vals_each : ∀ {xs : List V} {us : List Value}, EachIs Rx us xs → Vals xs us
  | _, _, .nil => .nil
  | _, _, .cons h r => .cons h (vals_each r)
theorem nf {a q : Addr} {n : Nat} (h1 : a < n) (h2 : n ≤ q) : q ≠ a := fun e => absurd (Nat.lt_of_lt_of_le h1 h2) (by rw [e]; exact Nat.lt_irrefl _)
structure Fresh (X : Cx) (pins : List (Addr × Obj)) (H : Hp) (q : Addr) : Prop where
  non : H q = none
  loc : q ≠ X.env.locals
  fs : q ∉ X.fs
  new : X.s_0.heap.objs.size ≤ q
  cel : ∀ x c, X.env.cells.lookup x = some c → c ≠ q
  pin : ∀ p ∈ X.pn ++ pins, p.1 ≠ q
section
variable {X : Cx} {pins : List (Addr × Obj)} {σ : L2.St} {H : Hp} {s : Shared}
theorem fresh_of (I : Inv X pins σ H s) {q : Addr} (h : s.heap.objs.size ≤ q) : Fresh X pins H q where
  non := I.hok.fresh h
  loc := nf I.lt h
  fs := I.nofs h
  new := Nat.le_trans I.sz h
  cel := fun x c hc => by
    obtain ⟨v, o, ho, _⟩ := I.cell x c hc
    exact (nf (Heap.lt_size ho) h).symm
  pin := fun p hp => (nf (Heap.lt_size (I.pin p hp).1) h).symm
/-- the key store of the sort: pinned with what it holds; the list itself: tracked to the object -/
def here (a : Addr) (o : Obj) : HO := .ext fun h => h.get? a = some o
theorem here_ok {P : Program} {w : World} {h : Heap} {a : Addr} {o : Obj} (e : h.get? a = some o) : ObjOk P w H h a (here a o) := ⟨e, ⟨o, e⟩, fun _ _ z k => k o z⟩
theorem here_at {P : Program} {w : World} {h : Heap} {a : Addr} {o : Obj} (x : HOk P w H h) (e : H a = some (here a o)) : h.get? a = some o := (x a _ e).1
theorem seq_list {vs : Array Value} {n : Nat} : (seqObj "list" vs n) = ({ cls := .type "list", data := .seq vs n } : Obj) := rfl
theorem sort_core {a f : Addr} {fd : FuncData} {k tk0 : Nat} {pn : Str} {sp : Sp} {xs : List V} {vs : List Value} {g : V → Str} {hC : Heap} {Q : Value → Shared → Prop} {E' : Value → Shared → Prop} (I : Inv X pins σ H s) (keepC : ∀ b u, s.heap.get? b = some u → hC.get? b = some u) (ha : s.heap.objs.size ≤ a) (at0 : hC.get? a = some (seqObj "list" vs.toArray 0)) (rv : Vals xs vs) (hL : xs.length ≤ sizeLine)
    (F : FnOk X.prog X.w X.K X.mg X.base CX0 k f fd [pn] sp) (hr : Room (k + 2) X.A) (hb : Binds X.K fd [pn] []) (hu : X.A.units + 4 < cLine)
    (hsp : ∀ x ∈ xs, ∀ H', Same H H' → sp [x] H' (fun v H2 => v = .str (g x) ∧ Same H' H2) (fun _ _ _ => False))
    (fin : ∀ (H2 : Hp) (q : Addr) (s2 : Shared), Inv X pins σ H2 s2 → Same H H2 → H q = none → H2 q = some (.lst (xs.mergeSort (leG g))) → Q (.ref q) s2) :
    wpAny (model X.prog X.w) X.A.in1.in1 (Builtin.«list.sort» ⟨[.ref a], [(Str.ofString "key", .ref f)]⟩) (fun f s' => f = .done (.ret .none) ∧ Q (.ref a) s') E' { s with heap := hC, toks := tk0 } := by
  have vl : xs.length = vs.length := rv.length
  rw [ksk_t1]
  obtain ⟨e1, at1⟩ : ∃ e1, (hC.update a (Obj.mapSeq fun _ => (#[] : Array Value))).get? a = some (seqObj "list" #[] e1) := ⟨_, get?_update_seq at0 fun _ => #[]⟩
  generalize eh : hC.update a (Obj.mapSeq fun _ => (#[] : Array Value)) = hA at at1
  have keepA : ∀ b u, s.heap.get? b = some u → hA.get? b = some u := fun b u q => by
    rw [← eh, Heap.get?_update_ne _ _ _ _ (nf (Heap.lt_size q) ha).symm]
    exact keepC b u q
  unfold ksk_tree
  refine wpAny_bind (listItems_at (s := { s with heap := hC, toks := tk0 }) at0 rfl ?_)
  refine wpAny_bind (listUpdate_at (s := { s with heap := hC, toks := tk0 }) at0 rfl ?_ (by rw [List.size_toArray, ← vl]; exact hL) (Nat.zero_le _))
  show wpAny _ _ _ _ _ { s with toks := tk0, heap := hC.update a (Obj.mapSeq fun _ => (#[] : Array Value)) }
  rw [eh]
  refine wpAny_bind (seqEpoch_at (s := { s with heap := hA, toks := tk0 }) at1 rfl ?_)
  refine wpAny_bind (wpAny_newTuple ?_ (by show vs.length ≤ _; rw [← vl]; exact hL))
  refine wpAny_bind (wpAny_newList ?_ (Nat.zero_le _))
  refine wpAny_holding ?_
  -- the heap with the list emptied, the tuple laid
  generalize eT : hA.push (seqObj "tuple" vs.toArray 0) = hT
  have atT : hT.get? a = some (seqObj "list" #[] e1) := by
    rw [← eT]
    exact Heap.get?_push_of_some _ at1
  have I1 : Inv X pins σ (upd H a (here a (seqObj "list" #[] e1))) { s with heap := hT, toks := tk0 } := by
    refine I.laid (fun b u q => ?_) ha (here_ok atT)
    rw [← eT]
    exact Heap.get?_push_of_some _ (keepA b u q)
  have Ha : H a = none := I.hok.fresh ha
  have sm1 : Same H (upd H a (here a (seqObj "list" #[] e1))) := fun b o q => by
    rw [upd_ne (ne_of_none q Ha)]
    exact q
  generalize eH1 : upd H a (here a (seqObj "list" #[] e1)) = H1 at I1 sm1
  have H1a : H1 a = some (here a (seqObj "list" #[] e1)) := by
    rw [← eH1]
    exact upd_same
  have fr := fresh_of I1 (Nat.le_refl _)
  show wpAny _ _ (ksk_rest a (.ref f) false vs.toArray e1 (.ref hT.objs.size)) _ _ { s with heap := hT.push (seqObj "list" #[] 0), toks := tk0 }
  have hTs : hT.objs.size = ({ s with heap := hT, toks := tk0 } : Shared).heap.objs.size := rfl
  generalize eS : hT.objs.size = kS at fr ⊢
  have ka : kS ≠ a := nf (Heap.lt_size atT) (Nat.le_of_eq eS)
  have I2 : Inv X ((kS, seqObj "list" #[] 0) :: pins) σ H1 { s with heap := hT.push (seqObj "list" #[] 0), toks := tk0 } := by
    have J : Inv X pins σ H1 { s with heap := hT.push (seqObj "list" #[] 0), toks := tk0 } := I1.kept (t' := tk0) fun b u q => Heap.get?_push_of_some _ q
    refine J.pins_of fun p hp => ?_
    rcases List.mem_cons.mp hp with e | e
    · rw [e]
      refine ⟨?_, fr.non, fr.loc, fr.fs, fun v z => by cases z⟩
      rw [← eS]
      exact Heap.get?_push_size _ rfl
    · exact J.pin p (List.mem_append_right _ e)
  unfold ksk_rest
  refine wpAny_bind (wpAny_rule ?_)
  first
    | rw [List.forIn_toArray]
    | (rw [← Array.forIn_toList]; simp only [List.toList_toArray])
  refine wpAny_bind (ksk_fold (fun n s' => ∃ (Hn : Hp) (kA : Array Value) (e : Nat), Inv X ((kS, seqObj "list" kA e) :: pins) σ Hn s' ∧ Same H1 Hn ∧ Vals ((xs.take n).map fun x => V.str (g x)) kA.toList) vs 0 _ ⟨H1, #[], 0, I2, Same.refl _, .nil⟩ ?turn ?over)
  case turn =>
    rintro j u s' hj ⟨Hn, kA, e, J, sm, rk⟩
    simp only [Nat.zero_add] at rk ⊢
    have jl : j < vs.length := (List.getElem?_eq_some_iff.mp hj).1
    obtain ⟨x, hx, rx⟩ : ∃ x, xs[j]? = some x ∧ RelV x u := by
      have hx : xs[j]? = some (xs[j]'(by omega)) := List.getElem?_eq_getElem (by omega)
      obtain ⟨u', hu', ru'⟩ := rv.get hx
      rw [hj] at hu'
      cases hu'
      exact ⟨_, hx, ru'⟩
    have xm : x ∈ xs := List.mem_of_getElem? hx
    have hrun : wpAny (model X.prog X.w) X.A.in1.in1 (call (.ref f) [u]) (fun v s2 => EP X ((kS, seqObj "list" kA e) :: pins) σ (fun v H2 => v = .str (g x) ∧ Same Hn H2) v s2) (fun _ _ => False) s' := by
      have hr2 : Room k X.A.in1.in1 := (show Room (k + 1) X.A.in1 from Room.in1 hr).in1
      refine wpAny_call (codeAny_mono (F.run X.A.in1.in1 X.stack s' Hn ⟨[u], []⟩ [u] [x] (fun v H2 => v = .str (g x) ∧ Same Hn H2) (fun _ _ _ => False) hr2 J.env0.in1.in1 ?_ (.cons rx .nil) (hsp x xm Hn (sm1.trans sm))) fun r s2 hq => ?_)
      · have b1 := hb s' [u] J.kIn rfl
        rw [List.append_nil] at b1
        exact b1
      · cases r with
        | error er => exact (hq : False)
        | ok fl =>
          cases fl with
          | ret v => exact J.after hq
          | next => exact False.elim hq
          | brk => exact False.elim hq
          | cont => exact False.elim hq
    refine wpAny_bind (wpAny_attempt (wpAny_mono hrun (fun v s2 hv => ?_) fun _ _ z => z.elim))
    obtain ⟨y, H2, J2, ry, ey, sm2⟩ := hv
    subst ey
    have pk := J2.pin (kS, seqObj "list" kA e) (List.mem_append_right _ List.mem_cons_self)
    have kl : kA.size ≤ vs.length := by
      have q1 := rk.length
      rw [List.length_map, List.length_take] at q1
      have q2 : kA.toList.length = kA.size := Array.length_toList
      omega
    obtain ⟨c2, hc2⟩ : ∃ c2, (s2.heap.update kS (Obj.mapSeq (·.push v))).get? kS = some (seqObj "list" (kA.push v) c2) := ⟨_, get?_update_seq pk.1 (·.push v)⟩
    have sb := Heap.SameBut.update s2.heap kS (Obj.mapSeq (·.push v))
    try dsimp only
    refine wpAny_bind (listUpdate_at pk.1 rfl ?_ (by rw [← vl] at kl; omega) (by rw [Array.size_push, ← vl] at *; omega))
    refine wpAny_pure ⟨rfl, H2, kA.push v, c2, ?_, sm.trans sm2, ?_⟩
    · have J3 : Inv X pins σ H2 s2 := J2.pins_of fun p hp => J2.pin p (List.mem_append_right _ (List.mem_cons_of_mem _ hp))
      have J4 := J3.turned (t' := s2.toks) (h' := s2.heap.update kS (Obj.mapSeq (·.push v))) (it := kS) (fun b o hb q => (sb.2 b hb).trans q) pk.2.1 fr.loc (.inr fr.new) fr.cel fr.pin
      refine J4.pins_of fun p hp => ?_
      rcases List.mem_cons.mp hp with q | q
      · rw [q]
        exact ⟨hc2, pk.2.1, fr.loc, fr.fs, fun v z => by cases z⟩
      · exact J4.pin p (List.mem_append_right _ q)
    · rw [List.take_add_one, hx, List.map_append, Array.toList_push]
      exact rk.append (.cons ry .nil)
  case over =>
    rintro s' ⟨Hn, kA, e, J, sm, rk⟩
    simp only [Nat.zero_add] at rk
    rw [← vl, List.take_length] at rk
    have pk := J.pin (kS, seqObj "list" kA e) (List.mem_append_right _ List.mem_cons_self)
    have ata : s'.heap.get? a = some (seqObj "list" #[] e1) := here_at J.hok (sm _ _ H1a)
    have ksz : kA.size = vs.length := by
      have q1 := rk.length
      rw [List.length_map] at q1
      have q2 : kA.toList.length = kA.size := Array.length_toList
      omega
    have eachK : EachIs (fun v d => ∃ as, Reads s'.heap v d as) kA.toList (xs.map fun x => PyData.str (g x)) := by
      have gen : ∀ (ys : List V) (us : List Value), Vals (ys.map fun x => V.str (g x)) us → EachIs (fun v d => ∃ as, Reads s'.heap v d as) us (ys.map fun x => PyData.str (g x)) := by
        intro ys
        induction ys with
        | nil =>
          intro us r
          cases r
          exact .nil
        | cons y ys ih =>
          intro us r
          cases r with
          | cons ry rr =>
            obtain ⟨t, rfl⟩ := ry
            exact .cons ⟨[], .str _ _⟩ (ih _ rr)
      exact gen xs _ rk
    have alikeK : AllAlike (xs.map fun x => PyData.str (g x)) := by
      intro d hd d' hd'
      obtain ⟨b, _, rfl⟩ := List.mem_map.mp hd
      obtain ⟨c, _, rfl⟩ := List.mem_map.mp hd'
      simp [alike]
    have sortK : Sortable (xs.map fun x => PyData.str (g x)) := by
      refine .inr fun d hd => ?_
      obtain ⟨b, _, rfl⟩ := List.mem_map.mp hd
      exact ⟨by simp, fun ys => by simp⟩
    have unitK : ∀ d ∈ xs.map (fun x => PyData.str (g x)), X.A.in1.in1.units + d.depth < cLine := by
      intro d hd
      obtain ⟨b, _, rfl⟩ := List.mem_map.mp hd
      have u1 : X.A.in1.in1.units ≤ X.A.units + 2 := by first | exact Nat.le_refl _ | simp [Around.in1]
      simp only [PyData.depth]
      omega
    try dsimp only
    refine wpAny_bind (listItems_at pk.1 rfl ?_)
    have hid : (hideAll s'.heap [kS]).get? kS = none := hideAll_none _ (by simp)
    refine keyH_end (κ := dataKind s'.heap (xs.map fun x => PyData.str (g x))) (h₁ := hideAll s'.heap [kS]) (fun b o _ q => of_hideAll _ q) hid pk.1 ata ka (SortsAt.data (s := s') eachK alikeK sortK unitK) ksz (by rw [← vl]; exact hL) fun h3 tk c kp at3 => ⟨rfl, ?_⟩
    have eo : EachIs Rx (sortVals (dataKind s'.heap (xs.map fun x => PyData.str (g x))) false kA.toList vs) (xs.mergeSort (leG g)) :=
      keyedOut_each (rev := false) (fun x : V => PyData.str (g x)) ⟨s'.heap, kA.toList, alikeK, rfl, eachK⟩ (each_vals rv)
    generalize sortVals (dataKind s'.heap (xs.map fun x => PyData.str (g x))) false kA.toList vs = out at at3 eo
    -- the key store is let go, then the list takes the items
    have J3 : Inv X pins σ Hn s' := J.pins_of fun p hp => J.pin p (List.mem_append_right _ (List.mem_cons_of_mem _ hp))
    have back : (h3.update a fun _ => seqObj "list" #[] e1).get? a = some (seqObj "list" #[] e1) := by
      exact Heap.get?_update_self _ at3 rfl
    have J4 := J3.turned (t' := tk) (h' := h3.update a fun _ => seqObj "list" #[] e1) (it := kS) (fun b o hb q => ?_) pk.2.1 fr.loc (.inr fr.new) fr.cel fr.pin
    · have lenO : (xs.mergeSort (leG g)).length ≤ sizeLine := by
        rw [List.length_mergeSort]
        exact hL
      have J5 := J4.write (t' := tk) (x := a) (e := a) (h' := h3) (o := .lst (xs.mergeSort (leG g))) (by rw [sm _ _ H1a]; exact True.intro) (.inl rfl) (fun b u hb q => ?_) ⟨_, at3⟩ ⟨lenO, out, c, vals_each eo, at3⟩
      · refine fin _ a _ J5 (fun b o q => ?_) Ha upd_same
        rw [upd_ne (ne_of_none q Ha)]
        exact sm _ _ (sm1 _ _ q)
      · rw [Heap.get?_update_ne _ _ _ _ hb] at q
        exact q
    · by_cases ba : b = a
      · rw [ba] at q ⊢
        rw [ata] at q
        rw [← Option.some.inj q]
        exact back
      · rw [Heap.get?_update_ne _ _ _ _ ba]
        refine kp b o ba ?_
        exact hideAll_get [kS] q (by simpa using hb)
theorem sorted_fn {l f : Addr} {fd : FuncData} {k : Nat} {pn : Str} {sp : Sp} {xs : List V} {vs : List Value} {g : V → Str} {Q : Value → Shared → Prop} {E : Value → Shared → Prop} (I : Inv X pins σ H s) (hl : s.heap.IsList l vs.toArray) (rv : Vals xs vs) (hL : xs.length ≤ sizeLine)
    (F : FnOk X.prog X.w X.K X.mg X.base CX0 k f fd [pn] sp) (hr : Room (k + 2) X.A) (hb : Binds X.K fd [pn] []) (hu : X.A.units + 4 < cLine)
    (hsp : ∀ x ∈ xs, ∀ H', Same H H' → sp [x] H' (fun v H2 => v = .str (g x) ∧ Same H' H2) (fun _ _ _ => False))
    (fin : ∀ (H2 : Hp) (q : Addr) (s2 : Shared), Inv X pins σ H2 s2 → Same H H2 → H q = none → H2 q = some (.lst (xs.mergeSort (leG g))) → Q (.ref q) s2) :
    wpAny (model X.prog X.w) X.A (call (.builtin "sorted") [.ref l] [(Str.ofString "key", .ref f)]) Q E s := by
  refine sorted_of_sort hl (by rw [← rv.length]; exact hL) (ksk_s1 _ _) (fun _ => ksk_l1 _ _) fun E' => ?_
  exact sort_core I (fun b u q => copyHeap_old q) (Nat.le_succ _) (copyHeap_at s.heap vs) rv hL F hr hb hu hsp fin
end
end SK
namespace SK
open PySem PySem.Spec PyProof.Rows L2 PySem.W
set_option autoImplicit false
/-- a tuple is read in one way -/
def TInj (K : PySem.W.Frag) (H : Hp) : Prop := ∀ (a : Addr) (xs ys : List V), SqT K H a xs → SqT K H a ys → xs = ys
def tSortFn (K : PySem.W.Frag) (sp : Sp) (t : TA) : TE := fun σ H Q => t σ H fun vs H1 => TInj K H1 → ∃ (l : Addr) (xs : List V) (g : V → Str), vs = [.ref l] ∧ SqL K H1 l xs ∧
  (∀ x ∈ xs, ∀ H', Same H1 H' → sp [x] H' (fun v H2 => v = .str (g x) ∧ Same H' H2) (fun _ _ _ => False)) ∧ ∀ H2 p, Same H1 H2 → H1 p = none → H2 p = some (.lst (xs.mergeSort (leG g))) → Q (.ref p) H2
section
variable {X : Cx} {p p2 pos kpos : Pos} {e : Expr} {t : TA} {k : Nat} {f : Addr} {fd : FuncData} {pn fn : Str} {sp : Sp}
theorem pe_sortedFn (F : FnOk X.prog X.w X.K X.mg X.base CX0 k f fd [pn] sp) (hr : Room (k + 2) X.A) (hb : Binds X.K fd [pn] []) (hgs : Gl X "sorted") (hms : X.mg "sorted" = none) (hgf : Gl X fn) (hmf : X.mg fn = some (.ref f)) (ha : PA X [e] t)
    (hdb : (fn == ("__debug__" : Str)) = false := by decide) (he : backTo pos (starEach [e] X.env) = (false, eval e X.env) :: backTo pos (starEach [] X.env) := by rfl) (hpl : (backTo pos (starEach [e] X.env)).any (·.1) = false := by rfl) :
    PE X (.Call (.Name "sorted" p) [e] [⟨some "key", .Name fn p2, kpos⟩] pos) (tSortFn X.K sp t) := by
  refine ⟨fun pins s σ H Q I h => ?_⟩
  refine wpAny_Call_Name_kw (ld_blt I hgs hms (u := .builtin "sorted") (by decide +kernel) ?_)
  refine PyProof.Rows.callWith_kw (thn (ha.run pos pins s σ H _ I h) fun us s1 ⟨vs, H1, J, r1, q1⟩ => ?_) he hpl (by rfl) (by rfl)
  show wpAny _ _ (evalAll [do let v ← eval (.Name fn p2) X.env; standAt pos; pure v]) _ _ s1
  refine wpAny_evalAll_cons (wpAny_bind (ld_glob J hgf hmf (wpAny_bind (wpAny_standAt (wpAny_pure (wpAny_evalAll_nil ?_)))) hdb))
  obtain ⟨l, xs, g, rfl, hs, hsp, q⟩ := q1 fun a xs ys h1 h2 => J.tuple_inj h1 h2
  obtain ⟨its, rv, hl, hz⟩ := J.list hs
  rw [Vals.ref1 r1]
  show wpAny _ _ (call (.builtin "sorted") [.ref l] [(Str.ofString "key", .ref f)]) _ _ _
  exact sorted_fn J hl.isList rv hz F hr hb (by have := hr.units; omega) hsp fun H2 a s2 J2 sm hn ha => ⟨.ref a, H2, J2, rfl, q H2 a sm hn ha⟩
end
end SK
/-! sorted(d, reverse=b), sorted(d, key=f), list(d): d a dict with tuple keys -/
namespace ND
open PySem PySem.Spec PyProof.Rows L2 PySem.W PySem.Calls
set_option autoImplicit false
def keyRefs (kvs : List Ent) : List Value := kvs.map fun p => Value.ref p.2.1
def keyVs (kvs : List Ent) : List V := kvs.map fun p => V.ref p.2.1
theorem keyVals : ∀ kvs : List Ent, Vals (keyVs kvs) (keyRefs kvs)
  | [] => .nil
  | _ :: r => .cons rfl (keyVals r)
section
variable {X : Cx} {pins : List (Addr × Obj)} {σ : L2.St} {H : Hp} {s : Shared} {d : Addr} {kvs : List Ent}
theorem raw_at (I : Inv X pins σ H s) (hd : Rd H d (DO X.prog X.w d kvs)) : (d == sysModules) = false ∧ kvs.length ≤ sizeLine ∧ ∃ (es : Array DictEntry) (ep : Nat), s.heap.DictRaw d es ep ∧ es.size = kvs.length ∧ ∀ (n : Nat) (p : Ent), kvs[n]? = some p → ∃ en : DictEntry, es[n]? = some en ∧ en.key = .ref p.2.1 := by
  obtain ⟨⟨hs, hl, xs, rel, o, es, ep, h1, h2, h3, he, _⟩, _, _⟩ := hd.ok I.hok
  refine ⟨hs, hl, es, ep, ⟨o, h1, h2, h3⟩, ?_, fun n p hp => ?_⟩
  · rw [size_of_entries he, rel.len]
  · obtain ⟨q, hq, _, e2, _⟩ := KN.get rel n p hp
    have z := entry_at he n
    rw [hq] at z
    exact ⟨_, z, by rw [e2]; rfl⟩
theorem items_keys {es : Array DictEntry} {acc : Array Value} (sz : es.size = kvs.length) (ent : ∀ (n : Nat) (p : Ent), kvs[n]? = some p → ∃ en : DictEntry, es[n]? = some en ∧ en.key = .ref p.2.1) (ha : ItemsOf (fun i v => ∃ hi : i < es.size, v = es[i].key) acc es.size) : acc.toList = keyRefs kvs := by
  refine List.ext_getElem? fun n => ?_
  have asz : acc.toList.length = kvs.length := by
    have q : acc.toList.length = acc.size := Array.length_toList
    have := ha.1
    omega
  by_cases hn : n < kvs.length
  · have hp : kvs[n]? = some kvs[n] := List.getElem?_eq_getElem hn
    obtain ⟨en, hen, hk⟩ := ent n _ hp
    have hv : acc.toList[n]? = some (acc.toList[n]'(by omega)) := List.getElem?_eq_getElem (by omega)
    obtain ⟨hi, e⟩ := ha.2 n _ (by rw [← Array.getElem?_toList]; exact hv)
    have e2 : es[n] = en := by
      have := Array.getElem?_eq_getElem (xs := es) (i := n) hi
      rw [hen] at this
      exact (Option.some.inj this).symm
    rw [hv, e, e2, hk]
    unfold keyRefs
    rw [List.getElem?_map, hp]
    rfl
  · unfold keyRefs
    rw [List.getElem?_map, List.getElem?_eq_none (by omega), List.getElem?_eq_none (by omega)]
    rfl
theorem dict_sorted {kw : List (Str × Value)} {Q : Value → Shared → Prop} {E : Value → Shared → Prop} (I : Inv X pins σ H s) (hd : Rd H d (DO X.prog X.w d kvs)) (calm : X.calm = true) (ha1 : argsOk "sorted" ⟨[.ref d], kw⟩) (ha2 : ∀ x, argsOk "list.sort" ⟨[.ref x], kw⟩)
    (body : ∀ s1 : Shared, Inv X pins σ H s1 → ∀ E' : Value → Shared → Prop,
      wpAny (model X.prog X.w) X.A.in1.in1 (Builtin.«list.sort» ⟨[.ref s1.heap.objs.size], kw⟩) (fun f s' => f = .done (.ret .none) ∧ Q (.ref s1.heap.objs.size) s') E' { s1 with heap := s1.heap.push (seqObj "list" (keyRefs kvs).toArray 0) }) :
    wpAny (model X.prog X.w) X.A (call (.builtin "sorted") [.ref d] kw) Q E s := by
  obtain ⟨lo, hl, es, ep, raw, sz, ent⟩ := raw_at I hd
  refine call_function_entry_kw kind_sorted plain_sorted entry_sorted ha1 ?_
  unfold Builtin.«sorted»
  refine wpAny_bind (m := checkCount "sorted" 1 1 _) (wpAny_pure ?_)
  refine wpAny_bind (kdu_collect (A := X.A.in1) (KdlSrc.rawDict (prog := X.prog) (w := X.w) (es := es) (ep := ep) lo) (I.ok.hd calm) raw (by rw [sz]; exact hl) fun h' tk acc kp items => ?_)
  rw [items_keys sz ent items]
  have kl : (keyRefs kvs).length ≤ sizeLine := by
    unfold keyRefs
    rw [List.length_map]
    exact hl
  refine wpAny_bind (wpAny_newList ?_ kl)
  have J : Inv X pins σ H { s with heap := h', toks := tk } := I.kept kp
  have at0 : (h'.push (seqObj "list" (keyRefs kvs).toArray 0)).get? h'.objs.size = some (seqObj "list" (keyRefs kvs).toArray 0) := Heap.get?_push_size _ rfl
  refine wpAny_bind (wpAny_holding (wpAny_call_entry_kw slot_list_sort ⟨_, at0, rfl⟩ entry_list_sort ?inner (ha2 _)))
  case inner =>
    refine wpAny_mono (body { s with heap := h', toks := tk } J _) (fun f s' hf => ?_) fun _ _ e => e
    obtain ⟨rfl, hq⟩ := hf
    exact ⟨_, rfl, wpAny_pure ⟨_, rfl, hq⟩⟩
/-! ### sorted(d, reverse=b) -/
mutual
theorem NK.dp {K : PySem.W.Frag} {H : Hp} : ∀ (k : NestedKey) (v : V), NK K H k v → Dp K H v k.data
  | .none, _, h => by cases h; exact .non
  | .num i, _, h => by cases h; exact .int i
  | .text x, _, h => by cases h; exact .str x
  | .tup ks, _, h => by
    cases h with
    | tup q r => exact .tup q (NKs.dp ks _ r)
theorem NKs.dp {K : PySem.W.Frag} {H : Hp} : ∀ (ks : List NestedKey) (vs : List V), NKs K H ks vs → DpAll K H vs (NestedKey.datas ks)
  | [], _, h => by cases h; exact .nil
  | k :: ks, _, h => by
    cases h with
    | cons a r => exact .cons (NK.dp k _ a) (NKs.dp ks _ r)
end
def Rr (u : Value) (p : Ent) : Prop := u = .ref p.2.1
theorem each_refs : ∀ kvs : List Ent, EachIs Rr (keyRefs kvs) kvs
  | [] => .nil
  | _ :: r => .cons rfl (each_refs r)
theorem vals_refs : ∀ {us : List Value} {ps : List Ent}, EachIs Rr us ps → Vals (keyVs ps) us
  | _, _, .nil => .nil
  | _, _, .cons h r => .cons h (vals_refs r)
def rSortD (X : Cx) (b : Bool) : List V → List V → Hp → VK → Prop := fun vs zs H Q => ∃ (d : Addr) (kvs : List Ent), vs = [V.ref d] ∧ zs = [.bl b] ∧ Rd H d (DO X.prog X.w d kvs) ∧ KOks X.K H kvs ∧ AllAlike (kvs.map fun p => p.1.data) ∧ Sortable (kvs.map fun p => p.1.data) ∧ (∀ p ∈ kvs, p.1.data.depth ≤ 9) ∧
  ∀ p, H p = none → Q (.ref p) (upd H p (.lst (keyVs (kvs.mergeSort (dataLe b fun p => p.1.data)))))
theorem cr_sortedD {b : Bool} (calm : X.calm = true) (hu : X.A.units + 64 < cLine) : CallRK X (.builtin "sorted") [Str.ofString "reverse"] (rSortD X b) := by
  intro pins s σ H vs zs us ws Q I r rz h
  obtain ⟨d, kvs, rfl, rfl, hd, ok, al, so, dp, q⟩ := h
  obtain rfl := Vals.ref1 r
  obtain ⟨w1, rfl, e1⟩ := vals1 rz
  obtain rfl : w1 = Value.bool b := e1
  have hl : kvs.length ≤ sizeLine := (raw_at I hd).2.1
  refine dict_sorted I hd calm (args_sorted_rev _ _) (fun _ => args_list_sort_rev _ _) fun s1 J E' => ?_
  have at0 : (s1.heap.push (seqObj "list" (keyRefs kvs).toArray 0)).get? s1.heap.objs.size = some (seqObj "list" (keyRefs kvs).toArray 0) := Heap.get?_push_size _ rfl
  have er : EachIs (fun v p => ∃ as, Reads (sortingHeap (s1.heap.push (seqObj "list" (keyRefs kvs).toArray 0)) s1.heap.objs.size (keyRefs kvs)) v p.1.data as) (keyRefs kvs) kvs := by
    have gen : ∀ l : List Ent, KOks X.K H l → EachIs (fun v p => ∃ as, Reads (sortingHeap (s1.heap.push (seqObj "list" (keyRefs kvs).toArray 0)) s1.heap.objs.size (keyRefs kvs)) v p.1.data as) (keyRefs l) l := by
      intro l
      induction l with
      | nil => intro _; exact .nil
      | cons p l ih =>
        intro o
        refine .cons ?_ (ih fun x hx => o x (List.mem_cons_of_mem _ hx))
        obtain ⟨as, rd⟩ := Dp.reads J _ _ _ (NK.dp _ _ (o p List.mem_cons_self).1) rfl
        exact ⟨as, PyProof.Rows.Reads.keeps (fun b o e => sortingHeap_old (Nat.ne_of_lt (Heap.lt_size e)) (Heap.get?_push_of_some _ e)) rd⟩
    exact gen kvs ok
  have un : ∀ x ∈ kvs.map (fun p => p.1.data), X.A.in1.in1.units + x.depth < cLine := by
    intro x hx
    obtain ⟨p, hp, rfl⟩ := List.mem_map.mp hx
    have := dp p hp
    have u1 : X.A.in1.in1.units ≤ X.A.units + 2 := by first | exact Nat.le_refl _ | simp [Around.in1]
    omega
  have kl : (keyRefs kvs).length ≤ sizeLine := by
    unfold keyRefs
    rw [List.length_map]
    exact hl
  refine list_sort_rev_vals (s := { s1 with heap := s1.heap.push (seqObj "list" (keyRefs kvs).toArray 0) }) at0 (SortsAt.data (s := { s1 with heap := sortingHeap (s1.heap.push (seqObj "list" (keyRefs kvs).toArray 0)) s1.heap.objs.size (keyRefs kvs) }) (each_map (R := fun v x => ∃ as, Reads (sortingHeap (s1.heap.push (seqObj "list" (keyRefs kvs).toArray 0)) s1.heap.objs.size (keyRefs kvs)) v x as) (fun p : Ent => p.1.data) er) al so un) kl ⟨rfl, ?_⟩
  have eo := sortVals_data b (each_refs kvs) er al
  generalize sortVals (dataKind (sortingHeap (s1.heap.push (seqObj "list" (keyRefs kvs).toArray 0)) s1.heap.objs.size (keyRefs kvs)) (kvs.map fun p => p.1.data)) b (keyRefs kvs) (keyRefs kvs) = out at eo ⊢
  obtain ⟨c, hc⟩ := PyProof.Rows.sortedHeap_at (vs := keyRefs kvs) (out := out.toArray) at0
  refine ⟨.ref s1.heap.objs.size, upd H s1.heap.objs.size (.lst (keyVs (kvs.mergeSort (dataLe b fun p => p.1.data)))), J.laid (t' := s1.toks) (fun b u e => ?_) (Nat.le_refl _) ⟨?_, out, c, vals_refs eo, hc⟩, rfl, q _ (J.hok.fresh (Nat.le_refl _))⟩
  · have lt := Heap.lt_size e
    rw [PyProof.Rows.sortedHeap_old (Nat.ne_of_lt lt) (Nat.lt_of_lt_of_le lt (by rw [size_push']; exact Nat.le_succ _))]
    exact Heap.get?_push_of_some _ e
  · unfold keyVs
    rw [List.length_map, List.length_mergeSort]
    exact hl
/-! ### sorted(d, key=f) -/
def tSortDFn (X : Cx) (sp : Sp) (t : TA) : TE := fun σ H Q => t σ H fun vs H1 => SK.TInj X.K H1 → ∃ (d : Addr) (kvs : List Ent) (g : V → Str), vs = [.ref d] ∧ Rd H1 d (DO X.prog X.w d kvs) ∧
  (∀ x ∈ keyVs kvs, ∀ H', Same H1 H' → sp [x] H' (fun v H2 => v = .str (g x) ∧ Same H' H2) (fun _ _ _ => False)) ∧ ∀ H2 p, Same H1 H2 → H1 p = none → H2 p = some (.lst ((keyVs kvs).mergeSort (SK.leG g))) → Q (.ref p) H2
theorem pe_sortedDFn {p p2 pos kpos : Pos} {e : Expr} {t : TA} {k : Nat} {f : Addr} {fd : FuncData} {pn fn : Str} {sp : Sp} (calm : X.calm = true) (F : FnOk X.prog X.w X.K X.mg X.base CX0 k f fd [pn] sp) (hr : Room (k + 2) X.A) (hb : Binds X.K fd [pn] []) (hgs : Gl X "sorted") (hms : X.mg "sorted" = none) (hgf : Gl X fn) (hmf : X.mg fn = some (.ref f)) (ha : PA X [e] t)
    (hdb : (fn == ("__debug__" : Str)) = false := by decide) (he : backTo pos (starEach [e] X.env) = (false, eval e X.env) :: backTo pos (starEach [] X.env) := by rfl) (hpl : (backTo pos (starEach [e] X.env)).any (·.1) = false := by rfl) :
    PE X (.Call (.Name "sorted" p) [e] [⟨some "key", .Name fn p2, kpos⟩] pos) (tSortDFn X sp t) := by
  refine ⟨fun pins s σ H Q I h => ?_⟩
  refine wpAny_Call_Name_kw (ld_blt I hgs hms (u := .builtin "sorted") (by decide +kernel) ?_)
  refine PyProof.Rows.callWith_kw (thn (ha.run pos pins s σ H _ I h) fun us s1 ⟨vs, H1, J, r1, q1⟩ => ?_) he hpl (by rfl) (by rfl)
  show wpAny _ _ (evalAll [do let v ← eval (.Name fn p2) X.env; standAt pos; pure v]) _ _ s1
  refine wpAny_evalAll_cons (wpAny_bind (ld_glob J hgf hmf (wpAny_bind (wpAny_standAt (wpAny_pure (wpAny_evalAll_nil ?_)))) hdb))
  obtain ⟨d, kvs, g, rfl, hd, hsp, q⟩ := q1 fun a xs ys h1 h2 => J.tuple_inj h1 h2
  have hl : (keyVs kvs).length ≤ sizeLine := by
    unfold keyVs
    rw [List.length_map]
    exact (raw_at J hd).2.1
  rw [Vals.ref1 r1]
  show wpAny _ _ (call (.builtin "sorted") [.ref d] [(Str.ofString "key", .ref f)]) _ _ _
  refine dict_sorted J hd calm (ksk_s1 _ _) (fun _ => ksk_l1 _ _) fun s2 J2 E' => ?_
  exact SK.sort_core (Q := EP X pins σ Q) J2 (fun b u e => Heap.get?_push_of_some _ e) (Nat.le_refl _) (Heap.get?_push_size _ rfl) (keyVals kvs) hl F hr hb (by have := hr.units; omega) hsp fun H2 a s3 J3 sm hn ha => ⟨.ref a, H2, J3, rfl, q H2 a sm hn ha⟩
/-! ### list(d) -/
def rListD (X : Cx) : List V → Hp → VK → Prop := fun vs H Q => ∃ (d : Addr) (kvs : List Ent), vs = [V.ref d] ∧ Rd H d (DO X.prog X.w d kvs) ∧ ∀ p, H p = none → Q (.ref p) (upd H p (.lst (keyVs kvs)))
theorem cr_listD (calm : X.calm = true) : CallR X (.type "list") (rListD X) := by
  intro pins s σ H vs us Q I r h
  obtain ⟨d, kvs, rfl, hd, q⟩ := h
  obtain rfl := Vals.ref1 r
  obtain ⟨lo, hl, es, ep, raw, sz, ent⟩ := raw_at I hd
  refine kdl_call (KdlSrc.rawDict (prog := X.prog) (w := X.w) (es := es) (ep := ep) lo) (I.ok.hd calm) raw (by rw [sz]; exact hl) fun h' tk acc c kp at0 items => ?_
  have e := items_keys sz ent items
  have at1 : h'.get? s.heap.objs.size = some { cls := .type "list", dict := none, data := .seq (keyRefs kvs).toArray c, slots := #[] } := by
    rw [at0, ← e]
  refine ⟨.ref s.heap.objs.size, upd H s.heap.objs.size (.lst (keyVs kvs)), I.laid (t' := tk) kp (Nat.le_refl _) ⟨?_, keyRefs kvs, c, keyVals kvs, at1⟩, rfl, q _ (I.hok.fresh (Nat.le_refl _))⟩
  unfold keyVs
  rw [List.length_map]
  exact hl
end
end ND
/-! sorted(set of texts), sorted(list of texts) of any length -/
namespace TXB
open PySem PySem.Spec PyProof.Rows L2 PySem.W
set_option autoImplicit false
def leS : Str → Str → Bool := dataLe false fun x : Str => PyData.str x
def TxtV (v : Value) (x : Str) : Prop := ∃ t, v = Value.str x t
theorem each_of : ∀ {us : List Value} {xs : List Str}, StrsAre us xs → EachIs TxtV us xs
  | _, _, .nil => .nil
  | _, _, .cons n t r => .cons ⟨t, rfl⟩ (each_of r)
theorem strs_of : ∀ {us : List Value} {xs : List Str}, EachIs TxtV us xs → StrsAre us xs
  | _, _, .nil => .nil
  | _, _, .cons ⟨t, rfl⟩ r => .cons _ t (strs_of r)
theorem vals_of : ∀ {us : List Value} {xs : List Str}, EachIs TxtV us xs → Vals (xs.map V.str) us
  | _, _, .nil => .nil
  | _, _, .cons h r => .cons h (vals_of r)
theorem reads_of {h : Heap} : ∀ {us : List Value} {xs : List Str}, EachIs TxtV us xs → EachIs (fun v x => ∃ as, Reads h v (PyData.str x) as) us xs
  | _, _, .nil => .nil
  | _, _, .cons ⟨t, rfl⟩ r => .cons ⟨[], .str _ t⟩ (reads_of r)
theorem al_strs (xs : List Str) : AllAlike (xs.map fun x => PyData.str x) := by
  intro d hd d' hd'
  obtain ⟨a, _, rfl⟩ := List.mem_map.mp hd
  obtain ⟨b, _, rfl⟩ := List.mem_map.mp hd'
  simp [alike]
theorem so_strs (xs : List Str) : Sortable (xs.map fun x => PyData.str x) := by
  refine .inr fun d hd => ?_
  obtain ⟨a, _, rfl⟩ := List.mem_map.mp hd
  exact ⟨by simp, fun ys => by simp⟩
theorem leS_iff {a b : Str} : leS a b = true ↔ a.cps.toList ≤ b.cps.toList := by
  unfold leS
  rw [dataLe_str fun x : Str => x]
  exact decide_eq_true_iff
theorem ms_perm (xs : List Str) : (xs.mergeSort leS).Perm xs := List.mergeSort_perm xs leS
theorem ms_sorted (xs : List Str) : sortedS (xs.mergeSort leS) = true := by
  refine sortedS_of_pairwise _ ?_
  have h := List.pairwise_mergeSort (le := leS) (fun a b c h1 h2 => leS_iff.mpr (List.le_trans (leS_iff.mp h1) (leS_iff.mp h2))) (fun a b => by
    rw [Bool.or_eq_true, leS_iff, leS_iff]
    exact List.le_total _ _) xs
  refine h.imp fun {a b} hab => ?_
  rw [ltCps_eq]
  exact decide_eq_false (List.not_lt.mpr (leS_iff.mp hab))
section
variable {P : Program} {w : World} {A : Around} {E : Value → Shared → Prop} {s : Shared}
open TX in
theorem sorted_atB {a : Addr} {l : List Str} {Q : Value → Shared → Prop} (R : At P w s.heap a l) (hh : A.handled = none) (hsb : l.length < scanBound) (hu : A.units + 4 < cLine)
    (hQ : ∀ s' p (out : Array Value) (c : Nat) (ys : List Str), (∀ b o, s.heap.get? b = some o → s'.heap.get? b = some o) → s'.gens = s.gens → s'.os = s.os → s.heap.objs.size ≤ p →
      s'.heap.get? p = some (seqObj "list" out c) → StrsAre out.toList ys → ys.Perm l → sortedS ys = true → Q (.ref p) s') :
    wpAny (model P w) A (call (.builtin "sorted") [.ref a]) Q E s := by
  obtain ⟨⟨es, ep, t⟩, ho, ok⟩ := R
  have ft : t.fits es.size = true := ok.tx.fit
  have z : es.size = l.length := ok.tx.sz
  have sb : es.size < scanBound := by omega
  refine Calls.call_function_entry kind_sorted plain_sorted entry_sorted (args_sorted1 _) ?_
  unfold Builtin.«sorted»
  refine wpAny_bind (m := checkCount "sorted" 1 1 _) (wpAny_pure ?_)
  refine wpAny_bind (collect_set (A := A.in1) hh ⟨_, ho, rfl, rfl⟩ ft sb ok.up ok.led fun s1 vs k1 hz g1 o1 pm => ?_)
  obtain ⟨ks, hS, mem, hlen⟩ := texts_of ok.tx.el vs fun v hv => pm.mem_iff.mp hv
  have vl : vs.length = l.length := by rw [pm.length_eq, List.length_map, Array.length_toList]; exact z
  have pk : ks.Perm l := perm_of_sub l ks ok.nd (fun k hk => by
    obtain ⟨e, he, q⟩ := (ok.tx.mem k).mp hk
    exact (mem k).mpr ⟨e.2, pm.mem_iff.mpr (List.mem_map.mpr ⟨e, he, rfl⟩), q⟩) (by omega)
  have szl : vs.length ≤ sizeLine := by
    rw [vl, sizeLine_eq]
    unfold scanBound at hsb
    omega
  refine wpAny_bind (wpAny_newList ?_ szl)
  have hoL : (s1.heap.push (seqObj "list" vs.toArray 0)).get? s1.heap.objs.size = some (seqObj "list" vs.toArray 0) := Heap.get?_push_size _ rfl
  have ei := each_of hS
  have un : ∀ d, d ∈ ks.map (fun x => PyData.str x) → A.in1.in1.units + d.depth < cLine := fun d hd => by
    obtain ⟨b, _, rfl⟩ := List.mem_map.mp hd
    have u1 : A.in1.in1.units ≤ A.units + 2 := by first | exact Nat.le_refl _ | simp [Around.in1]
    simp only [PyData.depth]
    omega
  have er : EachIs (fun v x => ∃ as, Reads (sortingHeap (s1.heap.push (seqObj "list" vs.toArray 0)) s1.heap.objs.size vs) v (PyData.str x) as) vs ks := reads_of ei
  refine wpAny_bind (wpAny_holding (wpAny_call_entry slot_list_sort ⟨_, hoL, rfl⟩ entry_list_sort
    (list_sort_vals (s := { s1 with heap := s1.heap.push (seqObj "list" vs.toArray 0) }) hoL (SortsAt.data (s := { s1 with heap := sortingHeap (s1.heap.push (seqObj "list" vs.toArray 0)) s1.heap.objs.size vs }) (each_map (R := fun v x => ∃ as, Reads (sortingHeap (s1.heap.push (seqObj "list" vs.toArray 0)) s1.heap.objs.size vs) v x as) (fun x : Str => PyData.str x) er) (al_strs ks) (so_strs ks) un) szl ?_) (args_list_sort _)))
  have eo := sortVals_data false ei er (al_strs ks)
  generalize sortVals (dataKind (sortingHeap (s1.heap.push (seqObj "list" vs.toArray 0)) s1.heap.objs.size vs) (ks.map fun x => PyData.str x)) false vs vs = out at eo ⊢
  obtain ⟨c, hc⟩ := sortedHeap_at (vs := vs) (out := out.toArray) hoL
  refine ⟨_, rfl, wpAny_pure ⟨_, rfl, hQ _ s1.heap.objs.size _ c (ks.mergeSort leS) (fun b u e => ?_) g1 o1 hz hc (strs_of eo) ((ms_perm ks).trans pk) (ms_sorted ks)⟩⟩
  have q := k1 b u e
  have lt := Heap.lt_size q
  show (sortedHeap (s1.heap.push (seqObj "list" vs.toArray 0)) s1.heap.objs.size vs _).get? b = some u
  rw [sortedHeap_old (Nat.ne_of_lt lt) (by rw [Heap.size_push]; exact Nat.lt_succ_of_lt lt)]
  exact Heap.get?_push_of_some _ q
end
section
variable {X : Cx}
/-- sorted(set of texts): of any length -/
def rSortTx (P : Program) (w : World) : List V → Hp → VK → Prop := fun vs H Q => ∃ (a : Addr) (l : List Str), vs = [V.ref a] ∧ H a = some (TX.SetTx P w a l) ∧ l.length < scanBound ∧
  ∀ (ys : List Str) (p : Addr), ys.Perm l → sortedS ys = true → H p = none → Q (.ref p) (upd H p (.lst (ys.map V.str)))
theorem cr_sortTx (hc : X.calm = true) (hu : X.A.units + 66 < cLine) : CallR X (.builtin "sorted") (rSortTx X.prog X.w) := by
  intro pins s σ H vs us Q I r h
  obtain ⟨a, l, rfl, ha, hsb, q⟩ := h
  have R : TX.At X.prog X.w s.heap a l := (I.hok a _ ha).1
  rw [Vals.ref1 r]
  refine sorted_atB R (I.ok.hd hc) hsb (by omega) fun s' p out c ys k g o hp hg hi pm so => ?_
  have hlen : (ys.map V.str).length ≤ sizeLine := by
    rw [List.length_map, pm.length_eq, sizeLine_eq]
    unfold scanBound at hsb
    omega
  have hn : H p = none := I.hok.fresh hp
  have J : Inv X pins σ (upd H p (.lst (ys.map V.str))) { s with heap := s'.heap, gens := s'.gens, drawn := s'.drawn, toks := s'.toks } :=
    I.call (ch := []) (Un.laid k hp hn) (I.hok.laid k hp ⟨hlen, out.toList, c, vals_of_strs hi, hg⟩) (by rw [g]; exact I.bare) (fun _ z => nomatch z)
  have e : s' = { s with heap := s'.heap, gens := s'.gens, drawn := s'.drawn, toks := s'.toks } := by
    cases s'
    cases s
    cases o
    rfl
  rw [e]
  exact ⟨.ref p, _, J, rfl, q ys p pm so hn⟩
/-- sorted(xs), xs a list of texts of any length -/
def rSortedS (K : PySem.W.Frag) : List V → Hp → VK → Prop := fun vs H Q => ∃ (a : Addr) (xs : List Str), vs = [V.ref a] ∧ SqL K H a (xs.map V.str) ∧ xs.length ≤ sizeLine ∧
  ∀ (ys : List Str) (p : Addr), ys.Perm xs → sortedS ys = true → H p = none → Q (.ref p) (upd H p (.lst (ys.map V.str)))
theorem cr_sortedS (hu : X.A.units + 66 < cLine) : CallR X (.builtin "sorted") (rSortedS X.K) := by
  intro pins s σ H vs us Q I r h
  obtain ⟨a, xs, rfl, hs, hL, q⟩ := h
  obtain ⟨its, rv, hl, _⟩ := I.list hs
  rw [Vals.ref1 r]
  have ei := each_of rv.strs
  refine sorted_data (enc := fun x : Str => PyData.str x) hl.isList ei (reads_of ei) (al_strs xs) (so_strs xs) hL (fun b _ => ?_) fun out hlen eo => ?_
  · show _ + 2 + (PyData.str _).depth < _
    simp only [PyData.depth]
    omega
  · obtain ⟨c, hc⟩ := sortedAll_at s.heap its out.toArray
    have hn : H (s.heap.objs.size + 1) = none := I.hok.fresh (Nat.le_succ _)
    refine ⟨.ref _, upd H (s.heap.objs.size + 1) (.lst ((xs.mergeSort leS).map V.str)), I.laid (t' := s.toks) (fun _ _ => sortedAll_old) (Nat.le_succ _) ⟨?_, out, c, vals_of eo, hc⟩, rfl, q _ _ (ms_perm xs) (ms_sorted xs) hn⟩
    rw [List.length_map, List.length_mergeSort]
    exact hL
end
end TXB
/-! {k: v for ..} with keys that are nested tuples -/
namespace ND
open PySem PySem.Spec PyProof.Rows L2
set_option autoImplicit false
section
variable {X : Cx}
/-- one more pair, put in by the comprehension -/
theorem putD {pins : List (Addr × Obj)} {σ : L2.St} {H : Hp} {s : Shared} {E : Value → Shared → Prop} {D b : Addr}
    {kvs : List Ent} {k : NestedKey} {v : V} {r : Value} {Q : Unit → Shared → Prop} (hu : X.A.units + 9 < cLine)
    (I : Inv X pins σ H s) (g : H D = some (DO X.prog X.w D kvs)) (oks : KOks X.K H kvs) (key : NK X.K H k (.ref b))
    (dep : k.depth ≤ 8) (few : kvs.length < sizeLine) (rv : RelV v r)
    (q : ∀ s', Inv X pins σ (upd H D (DO X.prog X.w D (putN kvs k b v))) s' → Q () s') :
    wpAny (model X.prog X.w) X.A (dictSet D (.ref b) r) Q E s := by
  obtain ⟨nsys, _, raws, rel, dd⟩ := do_at I (.inl g) oks
  have rl : raws.length ≤ sizeLine := by
    have := rel.len
    omega
  have room : (nestedKind X.prog X.w).room X.A := by
    show X.A.units + 8 < cLine
    omega
  refine wpAny_dictSet_heap (hsz := rl) room (key_at I key dep) dd fun h1 dd1 but => q _ ?_
  have has : ∃ o, h1.get? D = some o := by
    obtain ⟨o, _, _, e, _⟩ := dd1
    exact ⟨o, e⟩
  have le := putN_len kvs k b v
  exact d_write I (by rw [g]; exact True.intro) but has (do_new nsys (by omega) (rel.put rv) dd1)
/-- what a turn leaves: the pair in the dict D, then on -/
def PutIn (P : Program) (w : World) (K : PySem.W.Frag) (D : Addr) (y z : V) (H : Hp) (Nx : Hp → Prop) : Prop :=
  ∃ (b : Addr) (kvs : List Ent) (k : NestedKey), y = .ref b ∧ H D = some (DO P w D kvs) ∧ KOks K H kvs ∧
    NK K H k (.ref b) ∧ k.depth ≤ 8 ∧ kvs.length < sizeLine ∧ Nx (upd H D (DO P w D (putN kvs k b z)))
def TurnD (P : Program) (w : World) (K : PySem.W.Frag) (D : Addr) (g : TG) (tt : TT) (tk tv : TE) (vs : List Nat) (σ : L2.St) (Nx : Hp → Prop) (x : V) (H : Hp) : Prop :=
  g x (wipe σ vs) H fun σ2 H2 => wipe σ2 vs = wipe σ vs ∧ tt σ2 H2 fun b H3 =>
    if b = true then tk σ2 H3 fun y H4 => tv σ2 H4 fun z H5 => PutIn P w K D y z H5 Nx else Nx H3
def tDcN (P : Program) (w : World) (K : PySem.W.Frag) (wi : TI) (g : TG) (tt : TT) (tk tv : TE) (vs : List Nat) : TE := fun σ H Q => wi σ H fun J H1 =>
  ∀ D, H1 D = none → ∃ W : Nat → Nat → Hp → Prop, (∃ m, W 0 m (upd H1 D (DO P w D []))) ∧ ∀ i m H, W i m H →
    (J.stop i H ∧ Q (.ref D) H) ∨ (J.go i H ∧ ∃ Nx : Hp → Prop, (∀ H', Nx H' → ∃ m', m' < m ∧ W (i + 1) m' H') ∧
      ∀ x H', J.yld i H x H' → TurnD P w K D g tt tk tv vs σ Nx x H')
def InBlk (X : Cx) (scope : Scope) (p : Cx → Prop) : Prop :=
  ∀ (s : Shared) (H : Hp) (C : Addr) (cl : List (Str × Addr)) (fp : List Addr), p (X.blk s H scope (compEnvC scope cl C X.env) fp)
/-- a run that raises nothing, under any way to raise -/
theorem calmE {α : Type} {t : Sem α} {Q Q' : α → Shared → Prop} {M : Model} {A : Around} {E E' : Value → Shared → Prop} {s : Shared}
    (hx : ∀ v s, E v s → False) (h : wpAny M A t Q E s) (hQ : ∀ a s, Q a s → Q' a s) : wpAny M A t Q' E' s :=
  wpAny_mono h hQ fun _ _ z => (hx _ _ z).elim
/-- one turn of the block -/
theorem turnD {Y : Cx} {pins : List (Addr × Obj)} {kx vx tg : PySem.Expr} {ifs : List PySem.Expr} {g : TG} {tt : TT} {tk tv : TE} {vs : List Nat} {σ : L2.St} {D : Addr} {Nx : Hp → Prop} {x : V} {u : Value} {s : Shared} {H : Hp}
    {m : Nat} {Iv : Nat → Shared → Prop} {E : Value → Shared → Prop} (hx : ∀ v s, Y.xe v s → False) (hu : Y.A.units + 9 < cLine) (pg : PG Y tg g) (pt : PTs Y ifs tt) (pk : PE Y kx tk) (pv : PE Y vx tv)
    (I : Inv Y pins (wipe σ vs) H s) (rx : RelV x u) (q : TurnD Y.prog Y.w Y.K D g tt tk tv vs σ Nx x H)
    (fin : ∀ σ' s' H', wipe σ' vs = wipe σ vs → Inv Y pins σ' H' s' → Nx H' → ∃ j, j < m ∧ Iv j s') :
    wpAny (model Y.prog Y.w) Y.A (assign tg Y.env u) (fun _ t1 =>
      wpAny (model Y.prog Y.w) Y.A (forIn ifs true fun c r => if r = true then do let ok ← isTrue c Y.env (eval c Y.env); pure (ForInStep.yield ok) else pure (ForInStep.yield r)) (fun ok t2 =>
        if ok = true then
          wpAny (model Y.prog Y.w) Y.A (eval kx Y.env) (fun kv t3 =>
            wpAny (model Y.prog Y.w) Y.A (eval vx Y.env) (fun vv t4 =>
              wpAny (model Y.prog Y.w) Y.A (dictSet D kv vv) (fun _ t5 => ∃ j, j < m ∧ Iv j t5) E t4) E t3) E t2
        else ∃ j, j < m ∧ Iv j t2) E t1) E s := by
  refine calmE hx (pg.run _ s _ H x u _ I rx q) fun _ t1 ⟨σ1, H1, I1, w1, q1⟩ => ?_
  refine calmE hx (pt.run _ t1 σ1 H1 _ I1 q1) fun b t2 ⟨H2, I2, q2⟩ => ?_
  cases b
  · exact fin σ1 t2 H2 w1 I2 q2
  · refine calmE hx (pk.run _ t2 σ1 H2 _ I2 q2) fun kv t3 ⟨y, H3, I3, ry, q3⟩ => ?_
    refine calmE hx (pv.run _ t3 σ1 H3 _ I3 q3) fun vv t4 ⟨z, H4, I4, rz, b, kvs, k, ey, gD, oks, key, dep, few, nx⟩ => ?_
    subst ey
    obtain rfl : kv = Value.ref b := ry
    exact putD hu I4 gD oks key dep few rz fun t5 I5 => fin σ1 t5 _ w1 I5 nx
/-- {k: v for target in iter if ..}: its value -/
theorem pe_dcN {kx vx tg iter : PySem.Expr} {ifs : List PySem.Expr} {scope : Scope} {own : List (Str × Nat)} {pos : Pos} {wi : TI} {g : TG} {tt : TT} {tk tv : TE}
    (hu : X.A.units + 9 < cLine) (hc : X.calm = true) (hN : X.N.Nodup) (hi : PI X tg iter wi) (ok : BlkOk X.N X.env.scope scope own)
    (hg : InBlk X scope fun Y => PG Y tg g) (ht : InBlk X scope fun Y => PTs Y ifs tt) (hk : InBlk X scope fun Y => PE Y kx tk) (hv : InBlk X scope fun Y => PE Y vx tv)
    (hs : ∀ x, foldedSetIterable iter X.env x = pure x := by intro _; rfl) :
    PE X (.DictComp kx vx [⟨tg, iter, ifs, 0⟩] scope pos) (tDcN X.prog X.w X.K wi g tt tk tv (own.map (·.2))) := by
  refine ⟨fun pins s σ H Q I h => ?_⟩
  rw [arm_eval_DictComp]
  have frees : ∀ y ∈ scope.names, y.2 = .free → ∃ c, X.env.cells.lookup y.1 = some c := fun y hy e =>
    (ok.free y hy e).elim (fun k => I.ok.has _ (.inl k)) (fun k => I.ok.has _ (.inr k))
  refine wpAny_comprehension_free (use := none) rfl hs (closure_ok frees) ok.kind (fun y hy e => (ok.uniq y hy).trans (congrArg some e)) ?_
  refine thn (hi.run pins s σ H _ I h) fun xv s1 hx => thn hx fun itv s2 ⟨it, fp, tn, J, H2, e, I2, T, st2, f2, q⟩ => ?_
  subst e
  refine wpAny_newObj_type (newEnv_comp ?_)
  obtain ⟨nd, end_⟩ : ∃ d : Obj, d = { cls := .type "dict", data := .dict #[] } := ⟨_, rfl⟩
  rw [← end_]
  obtain ⟨s3, e3⟩ : ∃ t : Shared, t = { s2 with heap := s2.heap.push nd } := ⟨_, rfl⟩
  obtain ⟨D, eD⟩ : ∃ D, D = s2.heap.objs.size := ⟨_, rfl⟩
  have hp3 : s3.heap = s2.heap.push nd := by rw [e3]
  have gone : H2 D = none := I2.hok.fresh (Nat.le_of_eq eD.symm)
  obtain ⟨W, ⟨m0, w0⟩, turn⟩ := q D gone
  have I3 : Inv X pins σ (upd H2 D (DO X.prog X.w D [])) s3 := by
    rw [e3]
    refine I2.laid (t' := s2.toks) (fun b o e => Heap.get?_push_of_some _ e) (Nat.le_of_eq eD.symm) ?_
    rw [eD, end_]
    exact do_new (xs := []) (beq_eq_false_iff_ne.mpr (Ne.symm (Nat.ne_of_lt I2.big))) (Nat.zero_le _) .nil (Heap.DictOfH.new s2.heap)
  -- what the loop goes through lies elsewhere
  have low : ∀ b ∈ fp, b < D := fun b hb => by
    obtain ⟨o, e, _⟩ := T.obj _ _ st2 b hb
    rw [eD]
    exact Heap.lt_size e
  have f3 : ∀ b ∈ fp, FpOk X pins (upd H2 D (DO X.prog X.w D [])) b ∧ b < s3.heap.objs.size := fun b hb => by
    have lt := low b hb
    refine ⟨⟨(upd_ne (Nat.ne_of_lt lt)).trans (f2 b hb).1, (f2 b hb).2⟩, ?_⟩
    rw [hp3, Heap.size_push, ← eD]
    exact Nat.lt_succ_of_lt lt
  have st3 : tn 0 s3.heap := T.keep _ _ _ st2 fun b _ o e => by
    rw [hp3]
    exact Heap.get?_push_of_some _ e
  have I4 := block_start I3 ok hN f3
  have none3 : ∀ b ∈ fp, (upd H2 D (DO X.prog X.w D [])) b = none := fun b hb => (f3 b hb).1.1
  obtain ⟨C, eC⟩ : ∃ C, C = s3.heap.objs.size := ⟨_, rfl⟩
  obtain ⟨cl, ecl⟩ : ∃ cl, cl = cellsFrom (s3.heap.objs.size + 1) scope.names (cloFrom X.env.cells scope.names []) := ⟨_, rfl⟩
  obtain ⟨ev, eev⟩ : ∃ ev, ev = compEnvC scope cl C X.env := ⟨_, rfl⟩
  have atC : ev.locals = s3.heap.objs.size := by
    rw [eev, ← eC]
    rfl
  have pg := hg s3 (upd H2 D (DO X.prog X.w D [])) C cl fp
  have pt := ht s3 (upd H2 D (DO X.prog X.w D [])) C cl fp
  have pk := hk s3 (upd H2 D (DO X.prog X.w D [])) C cl fp
  have pv := hv s3 (upd H2 D (DO X.prog X.w D [])) C cl fp
  rw [← eev] at pg pt pk pv
  rw [← ecl, ← eC, ← eev] at I4
  have goal : codeAny (model X.prog X.w) X.A (.compStart (.DictComp kx vx [⟨tg, iter, ifs, 0⟩] scope pos) 0 (.ref it) (.ref D) ev) (compPost (model X.prog X.w) X.A X.xe none (EP X pins σ Q) (.ref D) C) { s3 with heap := pushCells (s3.heap.push { cls := .type "dict", data := .dict #[] }) scope.names } := ?_
  · rw [eev, ecl, eC, e3, eD, ← end_] at goal
    exact goal
  generalize hH3 : upd H2 D (DO X.prog X.w D []) = H3 at I3 I4 pg pt pk pv w0 none3 f3
  generalize hs4 : ({ s3 with heap := pushCells (s3.heap.push { cls := .type "dict", data := .dict #[] }) scope.names } : Shared) = s4 at I4 ⊢
  have st4 : tn 0 s4.heap := T.keep _ _ _ st3 fun b _ o e => by
    rw [← hs4]
    exact pushCells_keeps _ _ _ _ (Heap.get?_push_of_some _ e)
  have quiet : ∀ v s, (X.blk s3 H3 scope ev fp).xe v s → False := fun _ _ z => z
  have keeps : ∀ {σ' : L2.St} {H' : Hp} {s' : Shared}, Inv (X.blk s3 H3 scope ev fp) [] σ' H' s' → (∀ b ∈ fp, H' b = none) → ∀ b ∈ fp, FpOk (X.blk s3 H3 scope ev fp) [] H' b :=
    fun {σ' H' s'} J' nb b hb => ⟨nb b hb, (J'.ok.exf b hb).1, J'.ok.exfs b hb, .inl hb, fun x c e => (J'.ok.exf b hb).2 x c e, fun p hp => (by simp at hp : False).elim⟩
  have loop : codeAny (model X.prog X.w) X.A (.compLoop (.DictComp kx vx [⟨tg, iter, ifs, 0⟩] scope pos) 0 (.ref it) (.ref D) ev) (compPost (model X.prog X.w) X.A X.xe none (EP X pins σ Q) (.ref D) C) s4 := by
    refine compLoop_anyD (fun n t => ∃ i G, Inv (X.blk s3 H3 scope ev fp) [] (wipe σ (own.map (·.2))) G t ∧ tn i t.heap ∧ (∀ b ∈ fp, G b = none) ∧ W i n G) ?_ m0 ⟨0, H3, I4, st4, none3, w0⟩
    rintro n s5 ⟨i, G, I5, st5, n5, w5⟩
    rcases turn i n G w5 with ⟨stop, done⟩ | ⟨go, Nx, down, step⟩
    · refine thnF (T.done (X.blk s3 H3 scope ev fp) rfl rfl rfl hc i [] s5 _ G (fun _ _ => False) I5 (keeps I5 n5) st5 stop) fun r s6 ⟨er, I6⟩ => ?_
      subst er
      have I7 : Inv X pins σ G s6 := I3.call' (ch := fp) I6.os I6.base I6.hok I6.bare fun b hb =>
        let z := (f3 b hb).1.2
        ⟨z.2.2.1, z.1, z.2.2.2.1, z.2.2.2.2⟩
      have nC : G s3.heap.objs.size = none := atC ▸ (show G ev.locals = none from I6.free)
      obtain ⟨mm, ns, _⟩ := I6.loc
      have ns : s6.heap.Ns C mm := by
        rw [eC, ← atC]
        exact ns
      obtain ⟨z0, z1, _, z3, z4, z5⟩ := I3.fpOk (Nat.le_refl _) nC
      rw [← eC] at z0 z1 z3 z4 z5
      exact ⟨mm, ns, fun h2 sb => ⟨.ref D, G, I7.turned (t' := s6.toks) (fun b o hb e => (sb.2 b hb).trans e) z0 z1 z3 z4 z5, rfl, done⟩⟩
    · refine thnF (T.item (X.blk s3 H3 scope ev fp) rfl rfl rfl hc i [] s5 _ G (fun _ _ => False) I5 (keeps I5 n5) st5 go) fun r s6 ⟨u, er, h6⟩ => ?_
      subst er
      refine thnF h6 fun _ s7 ⟨x, H7, I7, r7, y7, st7, n7⟩ => ?_
      refine turnD (Y := X.blk s3 H3 scope ev fp) (Iv := fun n t => ∃ i G, Inv (X.blk s3 H3 scope ev fp) [] (wipe σ (own.map (·.2))) G t ∧ tn i t.heap ∧ (∀ b ∈ fp, G b = none) ∧ W i n G) quiet hu pg pt pk pv (I7.pinned (keeps I7 n7) (T.obj _ _ st7)) r7 (step x H7 y7) fun σ' s' G' ww Jv nx => ?_
      obtain ⟨j, lt, w'⟩ := down G' nx
      have pin : ∀ b ∈ fp, ∀ o, s7.heap.get? b = some o → s'.heap.get? b = some o ∧ G' b = none := fun b hb o e =>
        have z := Jv.pin (b, o) (List.mem_append_right _ (List.mem_append_right _ (mem_pinsAt hb e)))
        ⟨z.1, z.2.1⟩
      refine ⟨j, lt, i + 1, G', (Jv.unpinned (pins := [])).weak ?_ fun l v e => ?_, T.keep _ _ _ st7 fun b hb o e => (pin b hb o e).1, fun b hb => ?_, w'⟩
      · rw [← ww, wipe_length]
      · rw [← ww] at e
        exact (wipe_some e).1
      · obtain ⟨o, e, _⟩ := T.obj _ _ st7 b hb
        exact (pin b hb o e).2
  exact codeAny_compStart_dict loop (T.self X.A 0 _ _ _ st4 loop)
end
end ND
namespace ND
open PySem PySem.Spec PyProof.Rows L2
set_option autoImplicit false
/-- by a walk -/
theorem dcN_it {P : Program} {w0 : World} {K : PySem.W.Frag} {J : It} {n : Nat} {G : Hp → Prop} {Y : Nat → Hp → V → Hp → Prop} (w : Walk J n G Y) {g : TG} {tt : TT} {tk tv : TE} {vs : List Nat} {σ : L2.St} {H1 : Hp} {D : Addr} {Qd : Hp → Prop}
    (Pv : Nat → Hp → Prop) (h0 : Pv 0 (upd H1 D (DO P w0 D []))) (hG : ∀ i H, i ≤ n → Pv i H → G H)
    (hs : ∀ i x H H', i < n → Pv i H → Y i H x H' → TurnD P w0 K D g tt tk tv vs σ (Pv (i + 1)) x H') (hd : ∀ H, Pv n H → Qd H) :
    ∃ W : Nat → Nat → Hp → Prop, (∃ m, W 0 m (upd H1 D (DO P w0 D []))) ∧ ∀ i m H, W i m H →
      (J.stop i H ∧ Qd H) ∨ (J.go i H ∧ ∃ Nx : Hp → Prop, (∀ H', Nx H' → ∃ m', m' < m ∧ W (i + 1) m' H') ∧
        ∀ x H', J.yld i H x H' → TurnD P w0 K D g tt tk tv vs σ Nx x H') := by
  refine ⟨fun i m H => i ≤ n ∧ m = n - i ∧ Pv i H, ⟨n, Nat.zero_le _, rfl, h0⟩, ?_⟩
  rintro i m H ⟨hi, rfl, p⟩
  rcases Nat.lt_or_eq_of_le hi with lt | e
  · exact .inr ⟨w.goes i H lt (hG i H hi p), Pv (i + 1), fun H' p' => ⟨n - (i + 1), by omega, lt, rfl, p'⟩, fun x H' y => hs i x H H' lt p (w.yields i H x H' lt (hG i H hi p) y)⟩
  · subst e
    exact .inl ⟨w.stops H (hG i H hi p), hd H p⟩
end ND
/-! for k, v in d.items(): dicts whose keys are nested tuples -/
namespace ND
open PySem PySem.Spec PyProof.Rows L2
set_option autoImplicit false
def IiN (P : Program) (w : World) (d : Addr) (ob : Obj) (kvs : List Ent) : L2.It :=
  ⟨fun n H => H d = some (.frz ob (DO P w d kvs)) ∧ n < kvs.length, fun n H x H' => ∃ (p : Addr) (e : Ent), kvs[n]? = some e ∧ x = .ref p ∧ H p = none ∧ H' = upd H p (.tup [.ref e.2.1, e.2.2]), fun n H => H d = some (.frz ob (DO P w d kvs)) ∧ kvs.length ≤ n⟩
theorem locked_at2 {X : Cx} {pins : List (Addr × Obj)} {σ : L2.St} {H : Hp} {s : Shared} {d : Addr} {ob : Obj} {kvs : List Ent} (I : Inv X pins σ H s) (h : H d = some (.frz ob (DO X.prog X.w d kvs))) :
    (d == sysModules) = false ∧ s.heap.get? d = some ob ∧ ob.ExactDict ∧ ∃ (es : Array DictEntry) (ep : Nat), ob.data = .dict es ep ∧ es.size = kvs.length ∧
      ∀ (n : Nat) (p : Ent), kvs[n]? = some p → ∃ en : DictEntry, es[n]? = some en ∧ en.key = .ref p.2.1 ∧ RelV p.2.2 en.val := by
  obtain ⟨at1, ⟨hs, _, xs, rel, o1, es, ep, at2, ex, dt, he, _⟩, _⟩ := I.hok d _ h
  rw [at1] at at2
  cases at2
  refine ⟨hs, at1, ex, es, ep, dt, ?_, fun n p hp => ?_⟩
  · rw [size_of_entries he, rel.len]
  · obtain ⟨q, hq, _, e2, e3⟩ := KN.get rel n p hp
    have z := entry_at he n
    rw [hq] at z
    exact ⟨_, z, by rw [e2]; rfl, e3⟩
theorem turn_itemsN {P : Program} {w : World} {K : PySem.W.Frag} {elts : List Expr} {kk : Nat} {tpos : Pos} {d : Addr} {ob : Obj} {es : Array DictEntry} {ep : Nat} {kvs : List Ent} (it : Addr) (hob : ob.data = .dict es ep) :
    Turn P w K (.Tuple elts kk tpos) (IiN P w d ob kvs) [it] it (fun i h => ∃ ok ov, IsItemIter h it d i kvs.length ep ok ov) where
  mem := by simp
  obj := fun i h st b hb => by
    have e : b = it := by simpa using hb
    subst e
    obtain ⟨ok, ov, e⟩ := st
    exact ⟨_, e, fun v z => nomatch z⟩
  keep := fun i h h' st k => let ⟨ok, ov, e⟩ := st; ⟨ok, ov, k it (by simp) _ e⟩
  item := by
    intro X hP hw hK hc i pins s σ H E I hf st hg
    subst hP hw hK
    obtain ⟨hd, hi⟩ := hg
    obtain ⟨hs, hgd, hx, es', ep', hdt, hsz, ent⟩ := locked_at2 I hd
    obtain ⟨rfl, rfl⟩ := same_data hob hdt
    have hkv : kvs[i]? = some kvs[i] := List.getElem?_eq_getElem hi
    obtain ⟨en, hen, hkey, hval⟩ := ent i _ hkv
    obtain ⟨ok, ov, he⟩ := st
    rw [← hsz] at he
    have hi' : i < es'.size := by omega
    have een : es'[i] = en := by
      rw [Array.getElem?_eq_getElem hi'] at hen
      exact Option.some.inj hen
    have hlt : it < s.heap.objs.size := Heap.lt_size he
    refine DT.nextI he ⟨ob, hgd, hx, hdt⟩ hi' fun h' ho hT hz hk => ?_
    rw [een] at ho hT
    refine ⟨_, rfl, wpAny_letOwnedTupleGo_items (s := { s with heap := h' }) ho fun h'' he' sb => ?_⟩
    have hT2 : h''.get? s.heap.objs.size = some { cls := .type "tuple", data := .seq #[en.key, en.val] } := (sb.2 _ (Nat.ne_of_gt hlt)).trans hT
    have new : ObjOk X.prog X.w (upd H s.heap.objs.size (.tup [.ref kvs[i].2.1, kvs[i].2.2])) h'' s.heap.objs.size (.tup [.ref kvs[i].2.1, kvs[i].2.2]) :=
      ⟨by show 2 ≤ sizeLine; decide, [en.key, en.val], .cons hkey (.cons hval .nil), ⟨_, hT2, rfl, _, rfl⟩⟩
    have I1 : Inv X pins σ (upd H s.heap.objs.size (.tup [.ref kvs[i].2.1, kvs[i].2.2])) { s with heap := h'' } :=
      I.turnedNew (t' := s.toks) (ch := [it]) (fun b ob hb e => (sb.2 b (by simpa using hb)).trans (hk b ob (by simpa using hb) e)) hf (Nat.le_refl _) new
    refine ⟨.ref s.heap.objs.size, _, I1, rfl, ⟨_, _, hkv, rfl, I.hok.fresh (Nat.le_refl _), rfl⟩, ⟨en.key, en.val, ?_⟩, fun b hb => ?_⟩
    · rw [← hsz]; exact he'
    · have e : b = it := by simpa using hb
      rw [e, upd_ne (Nat.ne_of_lt hlt)]
      exact (hf it (by simp)).1
  done := by
    intro X hP hw hK hc i pins s σ H E I hf st hg
    subst hP hw hK
    obtain ⟨hd, hi⟩ := hg
    obtain ⟨f0, f1, f2, f3, f4, f5⟩ := hf it (by simp)
    obtain ⟨hs, hgd, hx, es', ep', hdt, hsz, ent⟩ := locked_at2 I hd
    obtain ⟨rfl, rfl⟩ := same_data hob hdt
    obtain ⟨ok, ov, he⟩ := st
    rw [← hsz] at he
    exact DT.endI (I.ok.hd hc) he ⟨ob, hgd, hx, hdt⟩ (by omega) fun h' eb => ⟨rfl, I.turned (t' := s.toks) (fun b ob hb e => eb b ob hb e) f0 f1 f3 f4 f5⟩
  self := fun A i s Q E st h => let ⟨_, _, e⟩ := st; PySem.W.kcp_self e h
def iItemsN (X : Cx) (td : TE) : TI := fun σ H R => td σ H fun x H1 => ∃ (d : Addr) (ob : Obj) (kvs : List Ent), x = .ref d ∧ H1 d = some (.frz ob (DO X.prog X.w d kvs)) ∧ R (IiN X.prog X.w d ob kvs) H1
theorem pi_itemsN {X : Cx} {e : Expr} {td : TE} {apos cpos : Pos} {elts : List Expr} {kk : Nat} {tpos : Pos} (he : PE X e td) (hbase : attributeBase e "items" X.env (eval e X.env) = eval e X.env := by rfl) (hline : (apos.endLine == cpos.line) = true := by rfl) :
    PI X (.Tuple elts kk tpos) (.Call (.Attribute e "items" apos) [] [] cpos) (iItemsN X td) := by
  refine ⟨fun pins s σ H R I h => ?_⟩
  refine wpAny_Call_method (T := "dict") (id := "dict.items") hbase rfl hline PySem.F.plainAttrs_dict PySem.F.slot_dict_items PySem.F.type_dict_items (thn (he.run pins s σ H _ I h) fun u s1 ⟨x, H1, I1, rx, d, o, kvs, ex, hd, q⟩ => ?_)
  subst ex
  obtain rfl : u = Value.ref d := rx
  obtain ⟨hs, hgd, hx, es, ep, hdt, hsz, ent⟩ := locked_at2 I1 hd
  have raw : DT.Raw s1.heap d es ep := ⟨o, hgd, hx, hdt⟩
  refine ⟨raw.typeIs, ?_, ?_⟩
  · exact fun a e => by cases e; exact ⟨o, hgd, hx.2.1⟩
  have I2 : Inv X pins σ H1 { s1 with heap := s1.heap.push { cls := .type "dict_items", data := .fields #[.ref d] } } := I1.kept (t' := s1.toks) fun b ob q => Heap.get?_push_of_some _ q
  have fin : wpAny (model X.prog X.w) X.A (pyIter (.ref s1.heap.objs.size)) (PIE X pins σ (.Tuple elts kk tpos) R) X.xe { s1 with heap := s1.heap.push { cls := .type "dict_items", data := .fields #[.ref d] } } := by
    refine DT.iterI (d := d) ⟨_, Heap.get?_push_size _ rfl, rfl, rfl⟩ (raw.push _) (pi_one (tk := s1.toks) I2 _ (turn_itemsN _ hdt) ⟨.none, .none, ?_⟩ q)
    rw [← hsz]
    exact Heap.get?_push_size _ rfl
  show wpAny _ _ (callWith cpos (.builtin "dict.items") [.ref d] [] []) _ X.xe s1
  exact method_meetsIn PySem.F.slot_dict_items PySem.F.entry_dict_items rfl (PySem.evalArgs_none ⟨rfl, raw.typeIs, PySem.F.args_dict_items_1 _, _, DT.meetsItems (es := es) (ep := ep) hs, ⟨raw, fin⟩⟩)
end ND
/-! (a, *xs): a tuple's items at the end of written items -/
namespace ND
open PySem PySem.Spec PyProof.Rows L2
set_option autoImplicit false
def tStarT (K : PySem.W.Frag) (te : TE) : TA := fun σ H Q => te σ H fun x H1 => ∃ (a : Addr) (xs : List V), x = .ref a ∧ SqT K H1 a xs ∧ Q xs H1
theorem pa_starT {X : Cx} {e : Expr} {p : Pos} {te : TE} (ha : PE X e te) : PA X [.Starred e p] (tStarT X.K te) := by
  refine ⟨fun pos pins s σ H Q I h => PySem.W.items_star (thn (ha.run pins s σ H _ I h) fun u s1 ⟨x, H1, I1, r1, a, xs, ex, hx, q⟩ => ?_)⟩
  subst ex
  obtain rfl : u = Value.ref a := r1
  obtain ⟨its, rv, ht, hz⟩ := I1.tuple hx
  obtain ⟨o, D, hc, n, hd⟩ := id ht
  have hT' : s1.TypeIs (.ref a) "tuple" := ⟨o, D, hc⟩
  have l := rv.length
  unfold PySem.W.StarOf notIterableAtAll
  refine wpAny_bind (wpAny_specialOf hT' PySem.F.slot_tuple_iter.lookup (wpAny_pure ⟨rfl, ?_⟩))
  refine wpAny_collect_seq a (.inr rfl) D hc hd (fun h' hk => ?_) (by show its.length ≤ sizeLine; omega)
  refine Calls.spliced_nil ?_
  exact ⟨xs, H1, I1.kept (t' := s1.toks) hk, by rw [List.append_nil]; exact rv, q⟩
end ND
/-! [a, *xs]: a list's items at the end of written items -/
namespace ND
open PySem PySem.Spec PyProof.Rows L2
set_option autoImplicit false
def tStarL (K : PySem.W.Frag) (te : TE) : TA := fun σ H Q => te σ H fun x H1 => ∃ (a : Addr) (xs : List V), x = .ref a ∧ SqL K H1 a xs ∧ Q xs H1
theorem pa_starL {X : Cx} {e : Expr} {p : Pos} {te : TE} (ha : PE X e te) : PA X [.Starred e p] (tStarL X.K te) := by
  refine ⟨fun pos pins s σ H Q I h => PySem.W.items_star (thn (ha.run pins s σ H _ I h) fun u s1 q => ?_)⟩
  obtain ⟨x, H1, I1, r1, a, xs, ex, hx, q⟩ := q
  subst ex
  obtain rfl : u = Value.ref a := r1
  obtain ⟨its, rv, hl, hz⟩ := I1.list hx
  obtain ⟨o, D, hc, n, hd⟩ := id hl.isList
  have hT : s1.TypeIs (.ref a) "list" := ⟨o, D, hc⟩
  have l := rv.length
  unfold PySem.W.StarOf notIterableAtAll
  refine wpAny_bind (wpAny_specialOf hT PySem.F.slot_list_iter.lookup (wpAny_pure ⟨rfl, ?_⟩))
  refine wpAny_collect_seq a (.inl rfl) D hc hd (fun h' hk => ?_) (by show its.length ≤ sizeLine; omega)
  exact Calls.spliced_nil ⟨xs, H1, I1.kept (t' := s1.toks) hk, by rw [List.append_nil]; exact rv, q⟩
end ND
/-! sets whose items are tuples at any depth (to eight) of texts, numbers, None: {f(x) for x in xs}, sorted(set); fewer than 64 items -/
namespace NSet
open PySem PySem.Spec PyProof.Rows L2 PySem.W
set_option autoImplicit false
abbrev KIt : Type := Addr × NestedKey
def KeyAt (g : Heap) (z : KIt) : Prop := NestedIs g z.2 (.ref z.1) ∧ z.2.depth ≤ 8
abbrev hs1 (w : World) (k : NestedKey) : Int := k.hash w
def ent1 (w : World) (z : KIt) : Int × Value := (hs1 w z.2, .ref z.1)
theorem KeyAt.up {g g' : Heap} {z : KIt} (q : KeyAt g z) (m : ∀ b o, g.get? b = some o → g'.get? b = some o) : KeyAt g' z := ⟨NestedIs.at (fun b o _ _ e _ => m b o e) _ _ q.1, q.2⟩
theorem KeyAt.but {g g' : Heap} {z : KIt} {d : Addr} {o : Obj} {r : Array (Int × Value)} {n : Nat} {T : SetTable} (q : KeyAt g z) (e : g.get? d = some o) (f : o.data = .set r n T) (m : Heap.SameBut d g g') : KeyAt g' z := by
  refine ⟨NestedIs.at (fun b ob vs k h1 h2 => (m.2 b fun x => ?_).trans h1) _ _ q.1, q.2⟩
  rw [x, e] at h1
  cases h1
  rw [f] at h2
  cases h2
theorem KeyAt.one {g : Heap} {y z : KIt} (a : KeyAt g y) (b : KeyAt g z) (e : y.1 = z.1) : y = z := by
  refine Prod.ext e ?_
  have b1 := b.1
  rw [← e] at b1
  exact NestedIs.inj _ _ _ a.1 b1
section
variable {P : Program} {w : World}
/-! ### questions about keys that the search asks -/
def NoC (P : Program) (w : World) (n : Nat) (s : Shared) (v : Value) : Prop := ∀ (B : Around) (E : Value → Shared → Prop) (Q : Bool → Shared → Prop), Q false s → wpAny (model P w) B (ofAClassStatement n v) Q E s
def Hby (P : Program) (w : World) (n : Nat) (s : Shared) (v : Value) : Prop := ∀ (B : Around) (E : Value → Shared → Prop) (Q : Bool → Shared → Prop), (∀ b, Q b s) → wpAny (model P w) B (hashByValue n v) Q E s
theorem NoC.tup {n : Nat} {s : Shared} {b : Addr} {o : Obj} {vs : Array Value} {m : Nat} (e1 : s.heap.get? b = some o) (e2 : o.cls = .type "tuple") (e3 : o.data = .seq vs m) (hq : ∀ v ∈ vs.toList, NoC P w n s v) : NoC P w (n + 1) s (.ref b) := fun B E Q h => by
  have tT : s.TypeIs (.ref b) "tuple" := ⟨o, e1, e2⟩
  unfold ofAClassStatement
  refine wpAny_bind (wpAny_typeOf tT ?_)
  dsimp only
  rw [show (("tuple" : String) == "tuple") = true from by decide]
  simp only [if_true, Bool.not_true, Bool.false_eq_true, if_false]
  try refine wpAny_bind (wpAny_pure ?_)
  try simp only [Bool.not_true, Bool.false_eq_true, if_false]
  refine wpAny_bind (wpAny_seqItems e1 e3 ?_)
  dsimp only
  refine wpAny_bind ?_
  show wpAny _ _ (forIn vs _ _) _ _ s
  rw [← Array.forIn_toList]
  refine wpAny_forIn_list _ (fun l r t => r.1 = none ∧ t = s ∧ ∀ v ∈ l, NoC P w n s v) _ ?_ ?_ _ _ ⟨rfl, rfl, hq⟩
  · rintro v l r t ⟨_, rfl, al⟩
    refine wpAny_bind (al v List.mem_cons_self _ _ _ ?_)
    simp only [Bool.false_eq_true, if_false]
    exact wpAny_pure ⟨rfl, rfl, fun u q => al u (List.mem_cons_of_mem _ q)⟩
  · rintro ⟨r1, r2⟩ t ⟨z, rfl, _⟩
    simp only at z
    subst z
    exact wpAny_pure h
theorem Hby.tup {n : Nat} {s : Shared} {b : Addr} {o : Obj} {vs : Array Value} {m : Nat} (e1 : s.heap.get? b = some o) (e2 : o.cls = .type "tuple") (e3 : o.data = .seq vs m) (hq : ∀ v ∈ vs.toList, Hby P w n s v) : Hby P w (n + 1) s (.ref b) := fun B E Q h => by
  have tT : s.TypeIs (.ref b) "tuple" := ⟨o, e1, e2⟩
  unfold hashByValue
  refine wpAny_bind (wpAny_specialOf tT F.slot_tuple_hash.lookup ?_)
  dsimp only
  refine wpAny_bind (wpAny_seqItems e1 e3 ?_)
  refine wpAny_bind ?_
  show wpAny _ _ (forIn vs _ _) _ _ s
  rw [← Array.forIn_toList]
  refine wpAny_forIn_list _ (fun l r t => t = s ∧ (r.1 = none ∨ r.1 = some false) ∧ (∀ v ∈ l, Hby P w n s v)) _ ?_ ?_ _ _ ⟨rfl, .inl rfl, hq⟩
  · rintro v l r t ⟨rfl, _, al⟩
    refine wpAny_bind (al v List.mem_cons_self _ _ _ fun c => ?_)
    cases c with
    | true =>
      simp only [Bool.not_true, Bool.false_eq_true, if_false]
      exact wpAny_pure ⟨rfl, .inl rfl, fun u q => al u (List.mem_cons_of_mem _ q)⟩
    | false =>
      simp only [Bool.not_false, if_true]
      exact wpAny_pure (wpAny_pure (h false))
  · rintro ⟨r1, r2⟩ t ⟨rfl, z, _⟩
    rcases z with z | z
    · simp only at z
      subst z
      exact wpAny_pure (h true)
    · simp only at z
      subst z
      exact wpAny_pure (h false)
mutual
theorem noC : ∀ (k : NestedKey) (v : Value) (n : Nat) (s : Shared), NestedIs s.heap k v → k.depth ≤ n → NoC P w n s v
  | .none, _, n, s, x, _ => by cases x; cases n <;> exact fun _ _ _ h => wpAny_pure h
  | .num i, _, n, s, x, _ => by cases x <;> cases n <;> exact fun _ _ _ h => wpAny_pure h
  | .text y, _, n, s, x, _ => by cases x; cases n <;> exact fun _ _ _ h => wpAny_pure h
  | .tup ks, _, n, s, x, dn => by
    cases x with
    | tup e1 e2 e3 e4 =>
      simp only [NestedKey.depth] at dn
      cases n with
      | zero => omega
      | succ n => exact .tup e1 e2 e3 (noCs ks _ n s e4 (by omega))
theorem noCs : ∀ (ks : List NestedKey) (vs : List Value) (n : Nat) (s : Shared), NestedAll s.heap ks vs → NestedKey.depthAll ks ≤ n → ∀ v ∈ vs, NoC P w n s v
  | [], _, n, s, x, _, v, hv => by cases x; cases hv
  | k :: ks, _, n, s, x, dn, v, hv => by
    cases x with
    | cons x1 x2 =>
      simp only [NestedKey.depthAll] at dn
      rcases List.mem_cons.mp hv with e | hv
      · rw [e]
        exact noC k _ n s x1 (by omega)
      · exact noCs ks _ n s x2 (by omega) v hv
end
mutual
theorem hby : ∀ (k : NestedKey) (v : Value) (n : Nat) (s : Shared), NestedIs s.heap k v → k.depth ≤ n → Hby P w n s v
  | .none, _, n, s, x, _ => by cases x; cases n <;> exact fun _ _ _ h => wpAny_pure (h _)
  | .num i, _, n, s, x, _ => by cases x <;> cases n <;> exact fun _ _ _ h => wpAny_pure (h _)
  | .text y, _, n, s, x, _ => by cases x; cases n <;> exact fun _ _ _ h => wpAny_pure (h _)
  | .tup ks, _, n, s, x, dn => by
    cases x with
    | tup e1 e2 e3 e4 =>
      simp only [NestedKey.depth] at dn
      cases n with
      | zero => omega
      | succ n => exact .tup e1 e2 e3 (hbys ks _ n s e4 (by omega))
theorem hbys : ∀ (ks : List NestedKey) (vs : List Value) (n : Nat) (s : Shared), NestedAll s.heap ks vs → NestedKey.depthAll ks ≤ n → ∀ v ∈ vs, Hby P w n s v
  | [], _, n, s, x, _, v, hv => by cases x; cases hv
  | k :: ks, _, n, s, x, dn, v, hv => by
    cases x with
    | cons x1 x2 =>
      simp only [NestedKey.depthAll] at dn
      rcases List.mem_cons.mp hv with e | hv
      · rw [e]
        exact hby k _ n s x1 (by omega)
      · exact hbys ks _ n s x2 (by omega) v hv
end
variable {A : Around} {E : Value → Shared → Prop} {s : Shared}
theorem unseen {z : KIt} (q : KeyAt s.heap z) {ys : List Value} (hy : ∀ y ∈ ys, ∃ z', y = Value.ref z'.1 ∧ KeyAt s.heap z') {Q : Bool → Shared → Prop} (h : Q false s) : wpAny (model P w) A (searchCouldBeSeen (.ref z.1) ys) Q E s := by
  unfold searchCouldBeSeen
  refine wpAny_bind ?_
  refine wpAny_forIn_list _ (fun l r t => r.1 = none ∧ t = s ∧ ∀ y ∈ l, ∃ z', y = Value.ref z'.1 ∧ KeyAt s.heap z') _ ?_ ?_ _ _ ⟨rfl, rfl, hy⟩
  · rintro v l r t ⟨_, rfl, al⟩
    obtain ⟨z', rfl, q'⟩ := al v List.mem_cons_self
    have al' : ∀ y ∈ l, ∃ z', y = Value.ref z'.1 ∧ KeyAt t.heap z' := fun u hu => al u (List.mem_cons_of_mem _ hu)
    dsimp only
    by_cases c : (z.1 == z'.1 || (carriedByValue (.ref z.1) && carriedByValue (.ref z'.1))) = true
    · exact wp_if_pos c (wpAny_pure ⟨rfl, rfl, al'⟩)
    · refine wp_if_neg c ?_
      refine wpAny_bind (quiet_key _ _ 8 t q.1 q.2 _ _ _ ?_)
      simp only [Bool.not_true, Bool.false_eq_true, if_false]
      refine wpAny_bind (quiet_key _ _ 8 t q'.1 q'.2 _ _ _ ?_)
      simp only [Bool.not_true, Bool.false_eq_true, if_false]
      refine wpAny_bind (noC _ _ 8 t q.1 q.2 _ _ _ ?_)
      simp only [Bool.false_eq_true, if_false]
      refine wpAny_bind (noC _ _ 8 t q'.1 q'.2 _ _ _ ?_)
      simp only [Bool.false_eq_true, if_false]
      exact wpAny_pure ⟨rfl, rfl, al'⟩
  · rintro ⟨r1, r2⟩ t ⟨e, rfl, _⟩
    simp only at e
    subst e
    exact wpAny_pure h
end
/-! ### the set -/
def rows1 (w : World) (L : List KIt) : List (Int × Value) := L.map (ent1 w)
def hashs (w : World) (L : List KIt) : List Int := L.map fun z => hs1 w z.2
/-- at a stands a set of the rows L -/
structure NS (w : World) (g : Heap) (a : Addr) (L : List KIt) (r : Array (Int × Value)) (n : Nat) (T : SetTable) : Prop where
  ob : ∃ o, g.get? a = some o ∧ o.ExactSet ∧ o.data = .set r n T
  rw : r.toList = rows1 w L
  tb : TabOk T (hashs w L)
  nd : (L.map (·.2)).Nodup
  ky : ∀ z ∈ L, KeyAt g z
  ld : w.params.followText "set-order" = true ∨ T.led = true
  rm : L.length * 5 < T.mask * 3
  fw : L.length < 64
theorem rows_len {w : World} {L : List KIt} {r : Array (Int × Value)} (h : r.toList = rows1 w L) : r.size = L.length := by
  have z := congrArg List.length h
  unfold rows1 at z
  rwa [Array.length_toList, List.length_map] at z
theorem hashs_len (w : World) (L : List KIt) : (hashs w L).length = L.length := List.length_map _
section
variable {P : Program} {w : World} {A : Around} {E : Value → Shared → Prop} {s : Shared} {a : Addr} {L : List KIt} {r : Array (Int × Value)} {n : Nat} {T : SetTable}
theorem NS.fits {g : Heap} (R : NS w g a L r n T) : T.fits r.size = true := by
  have z1 := R.tb.sz
  rw [hashs_len] at z1
  have z2 := rows_len R.rw
  have z3 := R.rm
  unfold SetTable.fits SetTable.fill
  rw [R.tb.dm, Bool.and_eq_true, beq_iff_eq, decide_eq_true_eq]
  exact ⟨by omega, by simp; omega⟩
theorem NS.at {g : Heap} (R : NS w g a L r n T) {i : Nat} {z : KIt} (h : L[i]? = some z) : r[i]? = some (ent1 w z) := by
  rw [← Array.getElem?_toList, R.rw]
  unfold rows1
  rw [List.getElem?_map, h]
  rfl
theorem NS.open {g : Heap} (R : NS w g a L r n T) : ¬ T.gaveWay = true := by
  unfold SetTable.gaveWay
  rw [mask_odd R.tb.mok]
  decide
theorem NS.up {g g' : Heap} (R : NS w g a L r n T) (m : ∀ b o, g.get? b = some o → g'.get? b = some o) : NS w g' a L r n T := by
  obtain ⟨o, e, q⟩ := R.ob
  exact ⟨⟨o, m _ _ e, q⟩, R.rw, R.tb, R.nd, fun z hz => (R.ky z hz).up m, R.ld, R.rm, R.fw⟩
theorem plainDummy (m : Nat) : ∀ (c : Nat) (p : SetTable.Probe), p.dummy = none → (nth m p c).dummy = none
  | 0, _, h => h
  | c + 1, p, h => plainDummy m c (adv m p) (by unfold adv; split <;> exact h)
/-- looking for a key on its way from step c on; K: the first empty place of the way -/
theorem look_from (R : NS w s.heap a L r n T) {z : KIt} (hz : KeyAt s.heap z) (hu : A.units + 8 < cLine) {K : Nat} (kf : K < 10 * SetTable.turns T.mask) (kn : way T.mask (hs1 w z.2) K ∉ T.place.toList)
    (kb : ∀ c, c < K → way T.mask (hs1 w z.2) c ∈ T.place.toList) {Q : SetFound → Shared → Prop} (yes : z.2 ∈ L.map (·.2) → Q (.there none) s) (no : z.2 ∉ L.map (·.2) → Q (.free (way T.mask (hs1 w z.2) K) false) s) :
    ∀ (f c : Nat) (at0 : Option SetTable.Probe), at0.getD (T.probeStart (hs1 w z.2)) = nth T.mask (runAt T.mask (SetTable.bits (hs1 w z.2) % (T.mask + 1)) (SetTable.bits (hs1 w z.2))) c → c ≤ K → K < f + c →
      (∀ (i : Nat) y, L[i]? = some y → y.2 = z.2 → ∃ d, c ≤ d ∧ d < K ∧ T.place.toList[i]? = some (way T.mask (hs1 w z.2) d)) →
      wpAny (model P w) A (setSearchFrom a (.ref z.1) (hs1 w z.2) true f at0) Q E s
  | 0, c, _, _, l1, l2, _ => by omega
  | f + 1, c, at0, e0, l1, l2, ahead => by
    obtain ⟨o, ho, hx, hd⟩ := R.ob
    rw [setSearchFrom_succ]
    refine wpAny_bind (wpAny_setState_of ho hd R.fits ?_)
    dsimp only
    refine wp_if_neg R.open ?_
    try refine wpAny_bind (wpAny_pure ?_)
    generalize hk : hs1 w z.2 = k at e0 kn kb ahead no ⊢
    generalize hB : runAt T.mask (SetTable.bits k % (T.mask + 1)) (SetTable.bits k) = B at e0
    have dn : (nth T.mask B c).dummy = none := plainDummy _ c B (by rw [← hB]; rfl)
    have wq : ∀ q, (nth T.mask (nth T.mask B c) q).j = way T.mask k (c + q) := fun q => by
      rw [← nth_add, ← hB]
    have lastE : (nth T.mask (nth T.mask B c) (K - c)).j = way T.mask k K := by rw [wq, Nat.add_sub_cancel' l1]
    have hh : ∀ (i : Nat) (y : KIt), L[i]? = some y → (fun i => (r[i]?.map (·.1)).getD 0) i = hs1 w y.2 := fun i y hy => by
      simp only [R.at hy]
      rfl
    rcases go_spec T R.tb.ris R.tb.dm (fun i => (r[i]?.map (·.1)).getD 0) k (10 * SetTable.turns T.mask) (K - c) (nth T.mask B c) dn (by omega) (fun q hq => by rw [wq]; exact kb _ (by omega)) (by rw [lastE]; exact kn) with ⟨q, i, hq, hi, hm, none_before, found⟩ | ⟨none_before, found⟩
    · rw [wq] at hi found
      have pr : T.probe (fun i => (r[i]?.map (·.1)).getD 0) k (at0.getD (T.probeStart k)) = some (.candidate (way T.mask k (c + q)) i (nth T.mask (nth T.mask B c) (q + 1))) := by
        rw [e0]
        exact found
      rw [pr]
      dsimp only
      have il : i < L.length := by
        have z1 := (List.getElem?_eq_some_iff.mp hi).1
        have z2 := R.tb.sz
        rw [hashs_len] at z2
        rw [Array.length_toList] at z1
        omega
      obtain ⟨y, hy⟩ : ∃ y, L[i]? = some y := ⟨_, List.getElem?_eq_getElem il⟩
      have ym := List.mem_of_getElem? hy
      have main : wpAny (model P w) A (searchRest a (.ref z.1) k true f r T (way T.mask k (c + q)) i (nth T.mask (nth T.mask B c) (q + 1))) Q E s := by
        unfold searchRest
        rw [R.at hy]
        dsimp only [ent1]
        refine wpAny_bind (wpAny_holding ((nestedKind P w).eqBool (x := y.2) (y := z.2) hu (R.ky y ym) hz ?_))
        refine wpAny_bind (wpAny_setState_of ho hd R.fits ?_)
        dsimp only
        by_cases same : y.2 = z.2
        · refine wp_if_pos (by simp [same]) (wpAny_pure (yes ?_))
          exact List.mem_map.mpr ⟨y, ym, same⟩
        · refine wp_if_neg (by simp [same]) ?_
          try refine wpAny_bind (wpAny_pure ?_)
          rw [sameMem]
          dsimp only
          have sl : T.slot (way T.mask k (c + q)) = .live i := slot_live R.tb.ris hi
          simp only [if_true, sl, R.at hy]
          refine wpAny_bind (wpAny_isSame_ref_self (wpAny_bind (wpAny_pure ?_)))
          simp only [if_true]
          refine wp_if_neg (by simp [same]) ?_
          rw [← hk]
          refine look_from R hz hu kf (by rw [hk]; exact kn) (by rw [hk]; exact kb) yes (by rw [hk]; exact no) f (c + (q + 1)) _ (by rw [hk, hB]; exact (nth_add _ c B (q + 1)).symm) (by omega) (by omega) fun i' y' h1 h2 => ?_
          rw [hk]
          obtain ⟨d, b1, b2, b3⟩ := ahead i' y' h1 h2
          refine ⟨d, ?_, b2, b3⟩
          have hy' : (fun i => (r[i]?.map (·.1)).getD 0) i' = k := by rw [hh i' y' h1, h2]; exact hk
          by_cases d1 : d < c + q
          · exact absurd hy' (none_before (d - c) i' (by omega) (by rw [wq, Nat.add_sub_cancel' b1]; exact b3))
          · by_cases d2 : d = c + q
            · have s2 := slot_live R.tb.ris b3
              rw [d2, sl] at s2
              injection s2 with s2
              rw [← s2, hy] at h1
              cases h1
              exact absurd h2 same
            · omega
      by_cases led : T.led = true
      · refine wp_if_neg (by simp [led]) ?_
        try refine wpAny_bind (wpAny_pure ?_)
        exact main
      · refine wp_if_pos (by simp [led]) ?_
        refine wpAny_bind (unseen hz (fun u hu => ?_) ?_)
        · obtain ⟨e, he, rfl⟩ := List.mem_map.mp hu
          have h1 : e ∈ r.toList := by
            have : e ∈ r ∧ e.1 = k := by simpa using he
            simpa using this.1
          rw [R.rw] at h1
          obtain ⟨z', hz', rfl⟩ := List.mem_map.mp h1
          exact ⟨z', rfl, R.ky z' hz'⟩
        · refine wp_if_neg (by decide) ?_
          try refine wpAny_bind (wpAny_pure ?_)
          exact main
    · rw [lastE] at found
      have pr : T.probe (fun i => (r[i]?.map (·.1)).getD 0) k (at0.getD (T.probeStart k)) = some (.empty (way T.mask k K) none) := by
        rw [e0]
        exact found
      rw [pr]
      dsimp only
      refine wpAny_pure (no fun hm => ?_)
      obtain ⟨y, ym, ye⟩ := List.mem_map.mp hm
      obtain ⟨i, il, ie⟩ := List.getElem_of_mem ym
      have hy : L[i]? = some y := by rw [List.getElem?_eq_getElem il, ie]
      obtain ⟨d, b1, b2, b3⟩ := ahead i y hy ye
      exact none_before (d - c) i (by omega) (by rw [wq, Nat.add_sub_cancel' b1]; exact b3) ((hh i y hy).trans (by rw [ye]; exact hk))
theorem look (R : NS w s.heap a L r n T) {z : KIt} (hz : KeyAt s.heap z) (hu : A.units + 8 < cLine) {Q : SetFound → Shared → Prop} (yes : z.2 ∈ L.map (·.2) → Q (.there none) s)
    (no : ∀ K, z.2 ∉ L.map (·.2) → way T.mask (hs1 w z.2) K ∉ T.place.toList → (∀ c, c < K → way T.mask (hs1 w z.2) c ∈ T.place.toList) → Q (.free (way T.mask (hs1 w z.2) K) false) s) :
    wpAny (model P w) A (setSearch a (.ref z.1) (hs1 w z.2) true) Q E s := by
  have rm := R.rm
  obtain ⟨K, k1, k2, k3⟩ := R.tb.first (by rw [hashs_len]; omega) (hs1 w z.2)
  have tn : 10 * SetTable.turns T.mask ≤ 1420 := by
    unfold SetTable.turns
    rcases R.tb.mok with e | e | e <;> omega
  unfold setSearch
  refine look_from R hz hu k1 k2 k3 yes (fun h => no K h k2 k3) 100000 0 none rfl (Nat.zero_le _) (by omega) fun i y hy ye => ?_
  have hi : (hashs w L)[i]? = some (hs1 w z.2) := by
    unfold hashs
    rw [List.getElem?_map, hy, ← ye]
    rfl
  have il : i < T.place.toList.length := by
    have z1 := (List.getElem?_eq_some_iff.mp hy).1
    have z2 := R.tb.sz
    rw [hashs_len] at z2
    rw [Array.length_toList]
    omega
  obtain ⟨c, c1, c2⟩ := R.tb.before k2 hi (List.getElem?_eq_getElem il)
  exact ⟨c, Nat.zero_le _, c1, by rw [List.getElem?_eq_getElem il, c2]⟩
theorem rows_ins (w : World) (L : List KIt) (p : Nat) (z : KIt) : rows1 w (L.take p ++ z :: L.drop p) = (rows1 w L).take p ++ ent1 w z :: (rows1 w L).drop p := by
  simp only [rows1, List.map_append, List.map_cons, List.map_take, List.map_drop]
theorem hashs_ins (w : World) (L : List KIt) (p : Nat) (z : KIt) : hashs w (L.take p ++ z :: L.drop p) = (hashs w L).take p ++ hs1 w z.2 :: (hashs w L).drop p := by
  simp only [hashs, List.map_append, List.map_cons, List.map_take, List.map_drop]
theorem order_it {w : World} {L : List KIt} {r : Array (Int × Value)} (hr : r.toList = rows1 w L) (order : Array Nat) (pm : order.toList.Perm (List.range L.length)) :
    ∃ M : List KIt, (order.filterMap (r[·]?)).toList = rows1 w M ∧ M.Perm L ∧ hashs w M = order.toList.map fun i => (r.map (·.1)).getD i 0 := by
  have rn := rows_len hr
  have ra : ∀ i (h : i < L.length), r[i]? = some (ent1 w L[i]) := fun i h => by
    rw [← Array.getElem?_toList, hr]
    unfold rows1
    rw [List.getElem?_map, List.getElem?_eq_getElem h]
    rfl
  have each : ∀ l : List Nat, (∀ i ∈ l, i < L.length) → l.filterMap (fun i => r[i]?) = rows1 w (l.filterMap fun i => L[i]?) ∧ hashs w (l.filterMap fun i => L[i]?) = l.map fun i => (r.map (·.1)).getD i 0 := by
    intro l
    induction l with
    | nil => exact fun _ => ⟨rfl, rfl⟩
    | cons i l ih =>
      intro hl
      have il := hl i List.mem_cons_self
      obtain ⟨i1, i2⟩ := ih fun j hj => hl j (List.mem_cons_of_mem _ hj)
      have e0 : (r.map (·.1)).getD i 0 = hs1 w L[i].2 := by
        rw [Array.getD_eq_getD_getElem?, Array.getElem?_map, ra i il]
        rfl
      rw [List.filterMap_cons_some (ra i il), List.filterMap_cons_some (List.getElem?_eq_getElem il), List.map_cons, i1, e0, ← i2]
      exact ⟨rfl, rfl⟩
  obtain ⟨m1, m2⟩ := each order.toList fun i hi => List.mem_range.mp (pm.mem_iff.mp hi)
  have whole : ∀ m, m ≤ L.length → (List.range m).filterMap (fun i => L[i]?) = L.take m := by
    intro m
    induction m with
    | zero => exact fun _ => rfl
    | succ m ih =>
      intro hm
      rw [List.range_succ, List.filterMap_append, ih (Nat.le_of_succ_le hm), List.take_add_one, List.getElem?_eq_getElem hm, List.filterMap_cons_some (List.getElem?_eq_getElem hm)]
      rfl
  refine ⟨order.toList.filterMap fun i => L[i]?, by rw [← m1]; simp, ?_, m2⟩
  have q := pm.filterMap fun i => L[i]?
  rwa [whole L.length (Nat.le_refl _), List.take_length] at q
theorem relay {o : Obj} (ho : s.heap.get? a = some o) (hx : o.ExactSet) (hd : o.data = .set r n T) (hr : r.toList = rows1 w L) (sz : T.place.size = r.size) (dm : T.dummies = #[]) (fl : r.size ≤ T.mask) (nd : (L.map (·.2)).Nodup) (ky : ∀ z ∈ L, KeyAt s.heap z)
    (ld : w.params.followText "set-order" = true ∨ T.led = true) (fw : L.length < 64) {want M : Nat} (e1 : SetTable.sizeAbove want - 1 = M) (hM : MaskOk M) (e2 : SetTable.sizeAbove want ≤ 128) (rm : L.length * 5 < M * 3) {Q : Unit → Shared → Prop}
    (k : ∀ g' L' r' n' T', Heap.SameBut a s.heap g' → NS w g' a L' r' n' T' → L'.Perm L → Q () { s with heap := g' }) : wpAny (model P w) A (setRelay a want) Q E s := by
  have rn := rows_len hr
  have ft : T.fits r.size = true := by
    unfold SetTable.fits SetTable.fill
    rw [dm, Bool.and_eq_true, beq_iff_eq, decide_eq_true_eq]
    exact ⟨sz, by simp; omega⟩
  obtain ⟨T', order, f1, f2, f3, f4, f5, _, _⟩ := relaid_ok T (hs := r.map (·.1)) (wanted := want) e1 hM (by rw [Array.size_map, rn]; omega)
  rw [Array.size_map, rn] at f2
  obtain ⟨L', g1, g2, g3⟩ := order_it hr order f2
  rw [← g3] at f3
  have sz' : (order.filterMap (r[·]?)).size = r.size := by
    rw [rows_len g1, g2.length_eq, rn]
  rw [setRelay_eq]
  refine wpAny_bind (wpAny_setState_of ho hd ft ?_)
  dsimp only
  refine wp_if_neg (by rw [sizeLine_eq]; omega) ?_
  try refine wpAny_bind (wpAny_pure ?_)
  rw [f1]
  dsimp only
  refine wpAny_bind (wp_if_neg (by rw [sz']; simp) ?_)
  try refine wpAny_bind (wpAny_pure ?_)
  refine wpAny_pure ?_
  dsimp only
  refine wpAny_storeSet_of ho hd ?_ (by rw [sz', rn, sizeLine_eq]; omega)
  have sb : Heap.SameBut a s.heap (s.heap.update a (Obj.putSet (order.filterMap (r[·]?)) T')) := Heap.SameBut.update ..
  exact k _ L' _ (n + 1) T' sb ⟨⟨_, store_at ho hd, ⟨hx.1, hx.2.1, hx.2.2⟩, rfl⟩, g1, f3, (g2.map (·.2)).nodup_iff.mpr nd, fun z hz => (ky z (g2.mem_iff.mp hz)).but ho hd sb, by rw [f5]; exact ld, by rw [g2.length_eq, f4]; exact rm, by rw [g2.length_eq]; exact fw⟩ g2
/-- a table without the word that its hashes are plain -/
def dl (T : SetTable) : SetTable := { T with plain := false }
theorem dl_ok {T : SetTable} {hs : List Int} (h : TabOk T hs) : TabOk (dl T) hs := ⟨h.ris, h.dm, h.sz, h.mok, h.bd, h.reach⟩
theorem put_it (R : NS w s.heap a L r n T) {z : KIt} (hz : KeyAt s.heap z) (hu : A.units + 8 < cLine) (fw : L.length + 1 < 64) {Q : Bool → Shared → Prop}
    (k : ∀ b g' L' r' n' T', Heap.SameBut a s.heap g' → NS w g' a L' r' n' T' → (z.2 ∈ L.map (·.2) → L' = L) → (z.2 ∉ L.map (·.2) → L'.Perm (z :: L)) → Q b { s with heap := g' }) :
    wpAny (model P w) A (setAddHashed a (.ref z.1) (hs1 w z.2)) Q E s := by
  obtain ⟨o, ho, hx, hd⟩ := R.ob
  have rn := rows_len R.rw
  have rm := R.rm
  unfold setAddHashed
  refine wpAny_holding ?_
  rw [show (100000 : Nat) = 99999 + 1 from rfl, setAddHashedIn_succ]
  refine wpAny_bind (wpAny_setState_of ho hd R.fits ?_)
  dsimp only
  refine wp_if_neg (by simp [byScan, Value.scannable]) ?_
  try refine wpAny_bind (wpAny_pure ?_)
  refine wpAny_bind (look R hz hu (fun hm => ?_) fun K hm kn kb => ?_)
  · dsimp only
    exact wpAny_pure (k false s.heap L r n T (Heap.SameBut.refl a s.heap) R (fun _ => rfl) fun e => absurd hm e)
  dsimp only
  refine wpAny_bind (wpAny_setState_of ho hd R.fits ?_)
  dsimp only
  obtain ⟨q1, q2, q3, q4, q5, q6, q7, q8, q9⟩ := R.tb.put kn kb
  generalize hpt : T.put (way T.mask (hs1 w z.2) K) = pt at q1 q3 q4 q5 q6 q7 q8 q9 ⊢
  obtain ⟨T1, p⟩ := pt
  dsimp only at q1 q3 q4 q5 q6 q7 q8 q9 ⊢
  subst q1
  generalize SetTable.below T.place (way T.mask (hs1 w z.2) K) = p at q2 q3 ⊢
  have pm := put_perm L p z
  have hin : (SetTable.insertAt r p (hs1 w z.2, .ref z.1)).toList = rows1 w (L.take p ++ z :: L.drop p) := by
    rw [SetTable.toList_insertAt, rows_ins, R.rw]
    rfl
  rw [← hashs_ins] at q3
  have nd1 : ((L.take p ++ z :: L.drop p).map (·.2)).Nodup := (pm.map (·.2)).nodup_iff.mpr (by rw [List.map_cons]; exact List.nodup_cons.mpr ⟨hm, R.nd⟩)
  rw [hashs_len] at q9
  -- behind the question whether the hash is by value
  have fin : ∀ T2 : SetTable, TabOk T2 (hashs w (L.take p ++ z :: L.drop p)) → T2.mask = T.mask → T2.led = T.led → T2.fill = L.length + 1 → wpAny (model P w) A (do
      storeSet a (SetTable.insertAt r p (hs1 w z.2, .ref z.1)) T2
      if (!false && T2.tooFull) = true then setRelay a (SetTable.grown (r.size + 1))
      return true) Q E s := fun T2 t1 t2 t3 t4 => by
    generalize L.take p ++ z :: L.drop p = M at pm hin nd1 t1
    have ml : M.length = L.length + 1 := pm.length_eq
    have rl := rows_len hin
    generalize SetTable.insertAt r p (hs1 w z.2, .ref z.1) = r1 at hin rl ⊢
    refine wpAny_bind (wpAny_storeSet_of ho hd ?_ (by rw [rl, ml, sizeLine_eq]; omega))
    have sb : Heap.SameBut a s.heap (s.heap.update a (Obj.putSet r1 T2)) := Heap.SameBut.update ..
    have ho1 := store_at (es' := r1) (t' := T2) ho hd
    generalize s.heap.update a (Obj.putSet r1 T2) = g1 at sb ho1 ⊢
    have ky1 : ∀ y ∈ M, KeyAt g1 y := fun y hy => by
      rcases List.mem_cons.mp (pm.mem_iff.mp hy) with e | e
      · rw [e]
        exact hz.but ho hd sb
      · exact (R.ky y e).but ho hd sb
    have ld1 : w.params.followText "set-order" = true ∨ T2.led = true := by rw [t3]; exact R.ld
    have tf : T2.tooFull = true ↔ T.mask * 3 ≤ (L.length + 1) * 5 := by
      unfold SetTable.tooFull
      rw [decide_eq_true_eq, t4, t2]
    by_cases full : T2.tooFull = true
    · first
        | (refine wpAny_bind ?_; refine wp_if_pos (by simp [full]) ?_)
        | (refine wp_if_pos (by simp [full]) ?_; refine wpAny_bind ?_)
      have fl := tf.mp full
      have sz1 : T2.place.size = r1.size := by
        have h := t1.sz
        rw [hashs_len] at h
        omega
      have two : (T.mask = 7 ∧ L.length = 4) ∨ (T.mask = 31 ∧ L.length = 18) := by
        rcases R.tb.mok with e | e | e <;> rw [e] at fl rm
        · exact .inl ⟨e, by omega⟩
        · exact .inr ⟨e, by omega⟩
        · omega
      have go : ∀ m, SetTable.sizeAbove (SetTable.grown (r.size + 1)) - 1 = m → MaskOk m → SetTable.sizeAbove (SetTable.grown (r.size + 1)) ≤ 128 → (L.length + 1) * 5 < m * 3 → wpAny (model P w) A (setRelay a (SetTable.grown (r.size + 1))) (fun _ s' => wpAny (model P w) A (pure true) Q E s') E { s with heap := g1 } := fun m x1 x2 x3 x4 => by
        refine relay (s := { s with heap := g1 }) ho1 ⟨hx.1, hx.2.1, hx.2.2⟩ rfl hin sz1 t1.dm (by rcases two with ⟨e, e2⟩ | ⟨e, e2⟩ <;> omega) nd1 ky1 ld1 (by omega) x1 x2 x3 (by rw [ml]; exact x4) fun g2 L2 r2 n2 T3 sb2 R2 pm2 => ?_
        exact wpAny_pure (k true g2 L2 r2 n2 T3 (sb.trans sb2) R2 (fun e => absurd e hm) fun _ => pm2.trans pm)
      rcases two with ⟨_, e2⟩ | ⟨_, e2⟩
      · exact go 31 (by rw [rn, e2, size_20]) (.inr (.inl rfl)) (by rw [rn, e2, size_20]; decide) (by omega)
      · exact go 127 (by rw [rn, e2, size_76]) (.inr (.inr rfl)) (by rw [rn, e2, size_76]; decide) (by omega)
    · first
        | refine wp_if_neg (by simp [full]) ?_
        | (refine wpAny_bind ?_; refine wp_if_neg (by simp [full]) ?_; refine wpAny_pure ?_)
      refine wpAny_pure (k true g1 M r1 (n + 1) T2 sb ⟨⟨_, ho1, ⟨hx.1, hx.2.1, hx.2.2⟩, rfl⟩, hin, t1, nd1, ky1, ld1, ?_, by omega⟩ (fun e => absurd e hm) fun _ => pm)
      rw [ml, t2]
      have := mt tf.mpr full
      omega
  by_cases pl : T1.plain = true
  · first
      | (refine wpAny_bind ?_; refine wp_if_pos pl ?_; refine hby _ _ 8 s hz.1 hz.2 _ _ _ fun b => ?_)
      | refine wp_if_pos pl (wpAny_bind (hby _ _ 8 s hz.1 hz.2 _ _ _ fun b => ?_))
    cases b with
    | true =>
      simp only [if_true]
      exact fin T1 q3 q4 q5 q9
    | false =>
      simp only [Bool.false_eq_true, if_false]
      exact fin (dl T1) (dl_ok q3) q4 q5 q9
  · first
      | (refine wpAny_bind ?_; refine wp_if_neg pl ?_; refine wpAny_pure ?_)
      | refine wp_if_neg pl (wpAny_bind (wpAny_pure ?_))
    simp only [if_true]
    exact fin T1 q3 q4 q5 q9
end
end NSet
/-! sorting tuples that may be empty; {f(x) for x in xs} and sorted of it, as rules -/
namespace NSet
open PySem PySem.Spec PyProof.Rows L2 PySem.W PySem.SeqAt
set_option autoImplicit false
section
variable {prog : Program} {w : World} {A : Around} {s : Shared}
theorem tup_lt {E : Value → Shared → Prop} {Q : Value → Shared → Prop} {l b : Addr} {xs ys : Array Value} {e r : Nat → Bool} (h1 : s.heap.IsTuple l xs) (h2 : s.heap.IsTuple b ys)
    (he : ∀ j (i1 : j < xs.size) (i2 : j < ys.size), EqAt A.in1 s xs[j] ys[j] (e j)) (hr : ∀ j (i1 : j < xs.size) (i2 : j < ys.size), e j = false → RcLt A.in1 s xs[j] ys[j] (r j))
    (k : Q (.bool (firstLt e r (decide (xs.size < ys.size)) (List.range (min xs.size ys.size)))) s) : wpAny (model prog w) A (call (.builtin "tuple.__lt__") [.ref l, .ref b]) Q E s := by
  obtain ⟨⟨c1, d1, t1, l1⟩, o1, e1, n1, f1⟩ := id h1
  obtain ⟨⟨c2, d2, t2, l2⟩, o2, e2, n2, f2⟩ := id h2
  simp only at e1 f1 e2 f2
  subst e1 f1 e2 f2
  exact call_meets F.slot_tuple_lt ⟨_, o1, rfl⟩ F.entry_tuple_lt (F.args_tuple_lt_2 _ _) (tuple_ltAt l b xs ys n1 n2 d1 d2 l1 l2 e r) ⟨o1, o2, he, hr, k⟩
theorem one_tup {f : Bool} {xs ys : List PyData} {a b : Value} {as bs : List Addr} {E : Value → Shared → Prop} {Q : Bool → Shared → Prop} (ra : Reads s.heap a (.tuple xs) as) (rb : Reads s.heap b (.tuple ys) bs) (al : alike (.tuple xs) (.tuple ys) = true)
    (hu : A.units + min (PyData.tuple xs).depth (PyData.tuple ys).depth < cLine) (hq : Q (dataLt (.tuple xs) (.tuple ys)) s) : wpAny (model prog w) A (oneLt' f a b) Q E s := by
  cases f with
  | false => exact oneLt_alike (fun h => nomatch h) ra rb al (by simp) hu hq
  | true =>
    have al2 : alikeAll xs ys = true := by simpa [alike] using al
    cases ra with
    | @tuple l o vs n _ as1 a1 a2 a3 a4 =>
      cases rb with
      | @tuple l' o' us n' _ bs1 b1 b2 b3 b4 =>
        have z1 : vs.size = xs.length := by simpa using ReadsAll.length _ _ _ a4
        have z2 : us.size = ys.length := by simpa using ReadsAll.length _ _ _ b4
        rw [dataLt_tuple, ← firstLt_toks xs ys al2, ← z1, ← z2] at hq
        rw [oneLt'_eq]
        simp only [if_true]
        refine wpAny_bind (wpAny_cRoomFor (room_here hu) ?_)
        refine wpAny_bind (wpAny_callSpecialIfBound?_slot (T := "tuple") ⟨_, a1, a2⟩ F.slot_tuple_lt (tup_lt (e := pairEq xs ys) (r := fun j => dataLt (xs.getD j .none) (ys.getD j .none)) ⟨_, a1, a2, _, a3⟩ ⟨_, b1, b2, _, b3⟩ (fun j j1 j2 => ?_) (fun j j1 j2 hj => ?_) ?_))
        · have := eqAt_alikeAll xs ys A.in1 s vs.toList us.toList _ _ a4 b4 al2 (room_in hu) j (by simpa using j1) (by simpa using j2)
          simpa using this
        · have := rcLt_alikeAll xs ys A.in1 s vs.toList us.toList _ _ a4 b4 al2 (room_in hu) j (by simpa using j1) (by simpa using j2) hj
          simpa using this
        · exact wpAny_truthy_bool hq
/-- what the sort finds of the first items of the keys -/
theorem firsts {M : Model} {E : Value → Shared → Prop} : ∀ (vs : List Value) {Q : List (Option Value) → Shared → Prop}, (∀ v ∈ vs, ∃ a o xs n, v = .ref a ∧ s.heap.get? a = some o ∧ o.cls = .type "tuple" ∧ o.data = .seq xs n) →
    (∀ fs : List (Option Value), fs.length = vs.length → (fs.all (·.isSome) = true → ∀ v ∈ vs, ∃ a o xs n, v = .ref a ∧ s.heap.get? a = some o ∧ o.data = .seq xs n ∧ xs.size ≠ 0) → Q fs s) → wpAny M A (vs.mapM firstOfTuple') Q E s
  | [], _, _, h => by
    rw [List.mapM_nil]
    exact wpAny_pure (h [] rfl fun _ v hv => nomatch hv)
  | v :: vs, Q, t, h => by
    obtain ⟨a, o, xs, n, rfl, ho, hc, hd⟩ := t v List.mem_cons_self
    rw [List.mapM_cons]
    refine wpAny_bind ?_
    rw [kas_first_eq]
    refine wpAny_bind (Looks.here (show Looks M s.heap (typeOf (.ref a)) o.cls from (Looks.ld ho).andThen .now) ?_)
    rw [hc, if_neg (by first | decide | simp)]
    refine wpAny_bind (listItems_at ho hd (wpAny_pure ?_))
    refine wpAny_bind (firsts vs (fun u hu => t u (List.mem_cons_of_mem _ hu)) fun fs l1 l2 => wpAny_pure (h _ (by rw [List.length_cons, List.length_cons, l1]) fun al u hu => ?_))
    rw [List.all_cons, Bool.and_eq_true] at al
    rcases List.mem_cons.mp hu with e | e
    · refine ⟨a, o, xs, n, e, ho, hd, fun z => ?_⟩
      have : xs[0]? = none := by rw [Array.getElem?_eq_none]; omega
      rw [this] at al
      exact absurd al.1 (by simp)
    · exact l2 al.2 u e
theorem each_val {α : Type} {R : Value → α → Prop} : ∀ {us : List Value} {bs : List α}, EachIs R us bs → ∀ u ∈ us, ∃ b ∈ bs, R u b
  | _, _, .nil, u, h => nomatch h
  | _, _, .cons a t, u, h => by
    rcases List.mem_cons.mp h with e | e
    · exact ⟨_, List.mem_cons_self, e ▸ a⟩
    · obtain ⟨b, h1, h2⟩ := each_val t u e
      exact ⟨b, List.mem_cons_of_mem _ h1, h2⟩
/-- tuples that read as alike data can be sorted, empty ones too -/
theorem sorts_tups {vs : List Value} {ds : List PyData} (e : EachIs (fun v d => ∃ as, Reads s.heap v d as) vs ds) (al : AllAlike ds) (tp : ∀ d ∈ ds, ∃ xs, d = .tuple xs) (hu : ∀ d, d ∈ ds → A.units + d.depth < cLine) : SortsAt prog w A s (dataKind s.heap ds) vs := by
  by_cases ne : ∀ d ∈ ds, ∃ x r, d = PyData.tuple (x :: r)
  · exact SortsAt.data e al (.inl ne) hu
  have room : ∀ {d d' : PyData}, d ∈ ds → A.units + min d.depth d'.depth < cLine := fun {d d'} hd => Nat.lt_of_le_of_lt (Nat.add_le_add_left (Nat.min_le_left _ _) _) (hu d hd)
  have lt : ∀ f : Bool, ∀ (E : Value → Shared → Prop) {x y : Value} (p q : (dataKind s.heap ds).α) {Q : Bool → Shared → Prop}, (dataKind s.heap ds).keyOf x = some p → (dataKind s.heap ds).keyOf y = some q → Q ((dataKind s.heap ds).blt p q) s → wpAny (model prog w) A (oneLt' f x y) Q E s := by
    intro f E x y p q Q hx hy hq
    obtain ⟨d, as, hd, ra, rfl⟩ := dataKind_inv hx
    obtain ⟨d', as', hd', rb, rfl⟩ := dataKind_inv hy
    have hal := al d hd d' hd'
    have hr := room (d' := d') hd
    obtain ⟨xs, rfl⟩ := tp d hd
    obtain ⟨ys, rfl⟩ := tp d' hd'
    exact one_tup ra rb hal hr hq
  have tv : ∀ v ∈ vs, ∃ a o xs n, v = .ref a ∧ s.heap.get? a = some o ∧ o.cls = .type "tuple" ∧ o.data = .seq xs n := fun v hv => by
    obtain ⟨d, hd, as, r⟩ := each_val e v hv
    obtain ⟨xs, rfl⟩ := tp d hd
    cases r with
    | @tuple l o us n _ _ a1 a2 a3 a4 => exact ⟨l, o, us, n, rfl, a1, a2, a3⟩
  have keys : ∀ v, v ∈ vs → ∃ a, (dataKind s.heap ds).keyOf v = some a := fun v hv => by
    obtain ⟨d, hd, as, r⟩ := each_val e v hv
    exact ⟨_, dataKind_some al hd r⟩
  -- which kind it is depends on the first key alone
  have kindly : ∀ (kd : SortKind), kd = general' ∨ kd = oneType' → H.LtAt prog w A s (dataKind s.heap ds) kd := by
    rintro kd (rfl | rfl) E x y a b Q hx hy hq
    · exact lt false E _ _ hx hy hq
    · exact lt true E _ _ hx hy hq
  by_cases h3 : ¬ 2 ≤ vs.length
  · exact ⟨keys, general', kindly _ (.inl rfl), fun h => absurd h h3⟩
  have h2 : 2 ≤ vs.length := Classical.not_not.mp h3
  obtain ⟨v1, rest, rfl⟩ : ∃ v1 rest, vs = v1 :: rest := by
    match vs, h2 with
    | v1 :: rest, _ => exact ⟨v1, rest, rfl⟩
  obtain ⟨a0, o0, xs0, n0, rfl, q1, q2, q3⟩ := tv v1 List.mem_cons_self
  have notall : ∀ fs : List (Option Value), (fs.all (·.isSome) = true → ∀ v ∈ Value.ref a0 :: rest, ∃ a o xs n, v = .ref a ∧ s.heap.get? a = some o ∧ o.data = .seq xs n ∧ xs.size ≠ 0) → fs.all (·.isSome) = false := fun fs h => by
    rw [Bool.eq_false_iff]
    intro z
    refine ne fun d hd => ?_
    obtain ⟨xs, rfl⟩ := tp d hd
    have h' := h z
    obtain ⟨v, hv, as, r⟩ : ∃ v ∈ Value.ref a0 :: rest, ∃ as, Reads s.heap v (.tuple xs) as := by
      have gen : ∀ {us : List Value} {bs : List PyData}, EachIs (fun v d => ∃ as, Reads s.heap v d as) us bs → PyData.tuple xs ∈ bs → ∃ v ∈ us, ∃ as, Reads s.heap v (.tuple xs) as := by
        intro us bs E
        induction E with
        | nil => exact fun h => nomatch h
        | cons a t ih =>
          intro h
          rcases List.mem_cons.mp h with e | e
          · exact ⟨_, List.mem_cons_self, e ▸ a⟩
          · obtain ⟨v, h1, h2⟩ := ih e
            exact ⟨v, List.mem_cons_of_mem _ h1, h2⟩
      exact gen e hd
    obtain ⟨a, o, us, n, rfl, e1, e2, e3⟩ := h' v hv
    cases r with
    | @tuple l o' us' n' _ _ b1 b2 b3 b4 =>
      rw [e1] at b1
      cases b1
      rw [e2] at b3
      cases b3
      have z : us.toList.length = xs.length := SeqAt.ReadsAll.length _ _ _ b4
      rw [Array.length_toList] at z
      match xs, z with
      | [], z => exact absurd z e3
      | x :: r, _ => exact ⟨x, r, rfl⟩
  by_cases z0 : xs0.size = 0
  · refine ⟨keys, oneType', kindly _ (.inr rfl), fun _ E Q hq => ?_⟩
    rw [kat_kind_eq, List.mapM_toArray, map_eq_pure_bind, List.mapM_cons]
    refine wpAny_bind (wpAny_bind (wpAny_bind ?_))
    rw [kas_first_eq]
    refine wpAny_bind (Looks.here (show Looks (model prog w) s.heap (typeOf (.ref a0)) o0.cls from (Looks.ld q1).andThen .now) ?_)
    rw [q2, if_neg (by first | decide | simp)]
    refine wpAny_bind (listItems_at q1 q3 (wpAny_pure ?_))
    have n0' : xs0[0]? = none := by rw [Array.getElem?_eq_none]; omega
    rw [n0']
    refine wpAny_bind (firsts rest (fun u hu => tv u (List.mem_cons_of_mem _ hu)) fun fs l1 l2 => wpAny_pure (wpAny_pure ?_))
    rw [if_neg (by simp), if_neg (by simp)]
    rw [oneTypeOnly'_eq, List.mapM_toArray, map_eq_pure_bind]
    refine wpAny_bind (wpAny_bind (wpAny_bind (kas_mapM (r := Value.type "tuple") _ (fun v hv Q' hq' => ?_) (wpAny_pure ?_))))
    · obtain ⟨a, o, xs, n, rfl, e1, e2, e3⟩ := tv v hv
      exact Looks.here (show Looks (model prog w) s.heap (typeOf (.ref a)) (Value.type "tuple") from e2 ▸ (Looks.ld e1).andThen .now) hq'
    · have z1 : ((Value.ref a0 :: rest).map fun _ => Value.type "tuple").toArray[0]? = some (Value.type "tuple") := by simp
      rw [z1]
      have z2 : (((Value.ref a0 :: rest).map fun _ => Value.type "tuple").toArray.all fun x => x == Value.type "tuple") = true := by
        simp only [List.all_toArray, List.all_map, List.all_eq_true]
        intro _ _
        exact beq_self_eq_true _
      simp only [z2, if_true]
      exact wpAny_pure (wpAny_pure hq)
  · refine ⟨keys, general', kindly _ (.inl rfl), fun _ E Q hq => ?_⟩
    rw [kat_kind_eq, List.mapM_toArray, map_eq_pure_bind]
    refine wpAny_bind (wpAny_bind ?_)
    rw [List.mapM_cons]
    refine wpAny_bind ?_
    rw [kas_first_eq]
    refine wpAny_bind (Looks.here (show Looks (model prog w) s.heap (typeOf (.ref a0)) o0.cls from (Looks.ld q1).andThen .now) ?_)
    rw [q2, if_neg (by first | decide | simp)]
    refine wpAny_bind (listItems_at q1 q3 (wpAny_pure ?_))
    obtain ⟨f, hf⟩ : ∃ f, xs0[0]? = some f := ⟨xs0[0]'(by omega), Array.getElem?_eq_getElem _⟩
    rw [hf]
    refine wpAny_bind (firsts rest (fun u hu => tv u (List.mem_cons_of_mem _ hu)) fun fs l1 l2 => wpAny_pure (wpAny_pure ?_))
    have na := notall (some f :: fs) fun z v hv => by
      rw [List.all_cons, Bool.and_eq_true] at z
      rcases List.mem_cons.mp hv with e | e
      · exact ⟨a0, o0, xs0, n0, e, q1, q3, z0⟩
      · exact l2 z.2 v e
    rw [if_neg (by simpa using na), if_pos (by simp)]
    exact wpAny_pure hq
end
end NSet
/-! the set comprehension, whatever is put in; sets of nested keys and of texts -/
namespace NSet
open PySem PySem.Spec PyProof.Rows L2 PySem.W ND
set_option autoImplicit false
abbrev freshSet (w : World) : Obj := { cls := .type "set", dict := none, data := .set #[] 0 (.fresh 0 0 (!w.params.followText "set-order")) }
/-- what putting y into the set at D asks, N is what must hold behind it -/
abbrev PutR : Type := Addr → V → Hp → (Hp → Prop) → Prop
def Adds (P : Program) (w : World) (K : PySem.W.Frag) (put : PutR) : Prop := ∀ {Y : Cx} {pins : List (Addr × Obj)} {σ : L2.St} {H : Hp} {s : Shared} {E : Value → Shared → Prop} {D : Addr} {y : V} {v : Value} {N : Hp → Prop} {Q : Value → Shared → Prop},
  Y.prog = P → Y.w = w → Y.K = K → Y.A.units + 16 < cLine → Inv Y pins σ H s → RelV y v → put D y H N → (∀ s' H', Inv Y pins σ H' s' → N H' → Q .none s') → wpAny (model P w) Y.A (call (.builtin "set.add") [.ref D, v]) Q E s
def News1 (P : Program) (w : World) (so : Addr → HO) : Prop := ∀ (H : Hp) (h : Heap) (D : Addr), h.get? D = some (freshSet w) → ObjOk P w H h D (so D)
def TurnS (put : PutR) (D : Addr) (g : TG) (tt : TT) (te : TE) (vs : List Nat) (σ : L2.St) (Nx : Hp → Prop) (x : V) (H : Hp) : Prop :=
  g x (wipe σ vs) H fun σ2 H2 => wipe σ2 vs = wipe σ vs ∧ tt σ2 H2 fun b H3 => if b = true then te σ2 H3 fun y H4 => put D y H4 Nx else Nx H3
def tSc (so : Addr → HO) (put : PutR) (wi : TI) (g : TG) (tt : TT) (te : TE) (vs : List Nat) : TE := fun σ H Q => wi σ H fun J H1 =>
  ∀ D, H1 D = none → ∃ W : Nat → Nat → Hp → Prop, (∃ m, W 0 m (upd H1 D (so D))) ∧ ∀ i m H, W i m H →
    (J.stop i H ∧ Q (.ref D) H) ∨ (J.go i H ∧ ∃ Nx : Hp → Prop, (∀ H', Nx H' → ∃ m', m' < m ∧ W (i + 1) m' H') ∧ ∀ x H', J.yld i H x H' → TurnS put D g tt te vs σ Nx x H')
section
variable {X : Cx}
theorem turnS {Y : Cx} {put : PutR} (ad : Adds Y.prog Y.w Y.K put) {pins : List (Addr × Obj)} {ex tg : PySem.Expr} {ifs : List PySem.Expr} {g : TG} {tt : TT} {te : TE} {vs : List Nat} {σ : L2.St} {D : Addr} {Nx : Hp → Prop} {x : V} {u : Value} {s : Shared} {H : Hp}
    {m : Nat} {Iv : Nat → Shared → Prop} {E : Value → Shared → Prop} (hx : ∀ v s, Y.xe v s → False) (hu : Y.A.units + 16 < cLine) (pg : PG Y tg g) (pt : PTs Y ifs tt) (pe : PE Y ex te)
    (I : Inv Y pins (wipe σ vs) H s) (rx : RelV x u) (q : TurnS put D g tt te vs σ Nx x H)
    (fin : ∀ σ' s' H', wipe σ' vs = wipe σ vs → Inv Y pins σ' H' s' → Nx H' → ∃ j, j < m ∧ Iv j s') :
    wpAny (model Y.prog Y.w) Y.A (assign tg Y.env u) (fun _ t1 =>
      wpAny (model Y.prog Y.w) Y.A (forIn ifs true fun c r => if r = true then do let ok ← isTrue c Y.env (eval c Y.env); pure (ForInStep.yield ok) else pure (ForInStep.yield r)) (fun ok t2 =>
        if ok = true then wpAny (model Y.prog Y.w) Y.A (eval ex Y.env) (fun v t3 => wpAny (model Y.prog Y.w) Y.A (call (.builtin "set.add") [.ref D, v]) (fun _ t5 => ∃ j, j < m ∧ Iv j t5) E t3) E t2
        else ∃ j, j < m ∧ Iv j t2) E t1) E s := by
  refine calmE hx (pg.run _ s _ H x u _ I rx q) fun _ t1 ⟨σ1, H1, I1, w1, q1⟩ => ?_
  refine calmE hx (pt.run _ t1 σ1 H1 _ I1 q1) fun b t2 ⟨H2, I2, q2⟩ => ?_
  cases b
  · exact fin σ1 t2 H2 w1 I2 q2
  · refine calmE hx (pe.run _ t2 σ1 H2 _ I2 q2) fun kv t3 ⟨y, H3, I3, ry, q3⟩ => ?_
    exact ad rfl rfl rfl hu I3 ry q3 fun t5 H5 I5 nx => fin σ1 t5 H5 w1 I5 nx
theorem pe_sc {so : Addr → HO} {put : PutR} (ad : Adds X.prog X.w X.K put) (nw : News1 X.prog X.w so) {ex tg iter : PySem.Expr} {ifs : List PySem.Expr} {scope : Scope} {own : List (Str × Nat)} {pos : Pos} {wi : TI} {g : TG} {tt : TT} {te : TE}
    (hu : X.A.units + 16 < cLine) (hc : X.calm = true) (hN : X.N.Nodup) (hi : PI X tg iter wi) (ok : BlkOk X.N X.env.scope scope own)
    (hg : InBlk X scope fun Y => PG Y tg g) (ht : InBlk X scope fun Y => PTs Y ifs tt) (he : InBlk X scope fun Y => PE Y ex te)
    (hs : ∀ x, foldedSetIterable iter X.env x = pure x := by intro _; rfl) :
    PE X (.SetComp ex [⟨tg, iter, ifs, 0⟩] scope pos) (tSc so put wi g tt te (own.map (·.2))) := by
  refine ⟨fun pins s σ H Q I h => ?_⟩
  rw [PpSet.eval_SetComp]
  have frees : ∀ y ∈ scope.names, y.2 = .free → ∃ c, X.env.cells.lookup y.1 = some c := fun y hy e =>
    (ok.free y hy e).elim (fun k => I.ok.has _ (.inl k)) (fun k => I.ok.has _ (.inr k))
  refine wpAny_comprehension_free (use := none) rfl hs (closure_ok frees) ok.kind (fun y hy e => (ok.uniq y hy).trans (congrArg some e)) ?_
  refine thn (hi.run pins s σ H _ I h) fun xv s1 hx => thn hx fun itv s2 ⟨it, fp, tn, J, H2, e, I2, T, st2, f2, q⟩ => ?_
  subst e
  refine PpSet.newSet_ok (newEnv_comp ?_)
  obtain ⟨nd, end_⟩ : ∃ d : Obj, d = { cls := .type "set", dict := none, data := .set #[] 0 (.fresh 0 0 (!X.w.params.followText "set-order")) } := ⟨_, rfl⟩
  rw [← end_]
  obtain ⟨s3, e3⟩ : ∃ t : Shared, t = { s2 with heap := s2.heap.push nd } := ⟨_, rfl⟩
  obtain ⟨D, eD⟩ : ∃ D, D = s2.heap.objs.size := ⟨_, rfl⟩
  have hp3 : s3.heap = s2.heap.push nd := by rw [e3]
  have gone : H2 D = none := I2.hok.fresh (Nat.le_of_eq eD.symm)
  obtain ⟨W, ⟨m0, w0⟩, turn⟩ := q D gone
  have I3 : Inv X pins σ (upd H2 D (so D)) s3 := by
    rw [e3]
    refine I2.laid (t' := s2.toks) (fun b o e => Heap.get?_push_of_some _ e) (Nat.le_of_eq eD.symm) ?_
    refine nw _ _ _ ?_
    rw [eD, end_]
    exact Heap.get?_push_size _ rfl
  have low : ∀ b ∈ fp, b < D := fun b hb => by
    obtain ⟨o, e, _⟩ := T.obj _ _ st2 b hb
    rw [eD]
    exact Heap.lt_size e
  have f3 : ∀ b ∈ fp, FpOk X pins (upd H2 D (so D)) b ∧ b < s3.heap.objs.size := fun b hb => by
    have lt := low b hb
    refine ⟨⟨(upd_ne (Nat.ne_of_lt lt)).trans (f2 b hb).1, (f2 b hb).2⟩, ?_⟩
    rw [hp3, Heap.size_push, ← eD]
    exact Nat.lt_succ_of_lt lt
  have st3 : tn 0 s3.heap := T.keep _ _ _ st2 fun b _ o e => by
    rw [hp3]
    exact Heap.get?_push_of_some _ e
  have I4 := block_start I3 ok hN f3
  have none3 : ∀ b ∈ fp, (upd H2 D (so D)) b = none := fun b hb => (f3 b hb).1.1
  obtain ⟨C, eC⟩ : ∃ C, C = s3.heap.objs.size := ⟨_, rfl⟩
  obtain ⟨cl, ecl⟩ : ∃ cl, cl = cellsFrom (s3.heap.objs.size + 1) scope.names (cloFrom X.env.cells scope.names []) := ⟨_, rfl⟩
  obtain ⟨ev, eev⟩ : ∃ ev, ev = compEnvC scope cl C X.env := ⟨_, rfl⟩
  have atC : ev.locals = s3.heap.objs.size := by
    rw [eev, ← eC]
    rfl
  have pg := hg s3 (upd H2 D (so D)) C cl fp
  have pt := ht s3 (upd H2 D (so D)) C cl fp
  have pe := he s3 (upd H2 D (so D)) C cl fp
  rw [← eev] at pg pt pe
  rw [← ecl, ← eC, ← eev] at I4
  have goal : codeAny (model X.prog X.w) X.A (.compStart (.SetComp ex [⟨tg, iter, ifs, 0⟩] scope pos) 0 (.ref it) (.ref D) ev) (compPost (model X.prog X.w) X.A X.xe none (EP X pins σ Q) (.ref D) C) { s3 with heap := pushCells (s3.heap.push { cls := .type "dict", data := .dict #[] }) scope.names } := ?_
  · rw [eev, ecl, eC, e3, eD] at goal
    exact goal
  generalize hH3 : upd H2 D (so D) = H3 at I3 I4 pg pt pe w0 none3 f3
  generalize hs4 : ({ s3 with heap := pushCells (s3.heap.push { cls := .type "dict", data := .dict #[] }) scope.names } : Shared) = s4 at I4 ⊢
  have st4 : tn 0 s4.heap := T.keep _ _ _ st3 fun b _ o e => by
    rw [← hs4]
    exact pushCells_keeps _ _ _ _ (Heap.get?_push_of_some _ e)
  have quiet : ∀ v s, (X.blk s3 H3 scope ev fp).xe v s → False := fun _ _ z => z
  have keeps : ∀ {σ' : L2.St} {H' : Hp} {s' : Shared}, Inv (X.blk s3 H3 scope ev fp) [] σ' H' s' → (∀ b ∈ fp, H' b = none) → ∀ b ∈ fp, FpOk (X.blk s3 H3 scope ev fp) [] H' b :=
    fun {σ' H' s'} J' nb b hb => ⟨nb b hb, (J'.ok.exf b hb).1, J'.ok.exfs b hb, .inl hb, fun x c e => (J'.ok.exf b hb).2 x c e, fun p hp => (by simp at hp : False).elim⟩
  have loop : codeAny (model X.prog X.w) X.A (.compLoop (.SetComp ex [⟨tg, iter, ifs, 0⟩] scope pos) 0 (.ref it) (.ref D) ev) (compPost (model X.prog X.w) X.A X.xe none (EP X pins σ Q) (.ref D) C) s4 := by
    refine PpSet.compLoopS_any (fun n t => ∃ i G, Inv (X.blk s3 H3 scope ev fp) [] (wipe σ (own.map (·.2))) G t ∧ tn i t.heap ∧ (∀ b ∈ fp, G b = none) ∧ W i n G) ?_ m0 ⟨0, H3, I4, st4, none3, w0⟩
    rintro n s5 ⟨i, G, I5, st5, n5, w5⟩
    rcases turn i n G w5 with ⟨stop, done⟩ | ⟨go, Nx, down, step⟩
    · refine thnF (T.done (X.blk s3 H3 scope ev fp) rfl rfl rfl hc i [] s5 _ G (fun _ _ => False) I5 (keeps I5 n5) st5 stop) fun r s6 ⟨er, I6⟩ => ?_
      subst er
      have I7 : Inv X pins σ G s6 := I3.call' (ch := fp) I6.os I6.base I6.hok I6.bare fun b hb =>
        let z := (f3 b hb).1.2
        ⟨z.2.2.1, z.1, z.2.2.2.1, z.2.2.2.2⟩
      have nC : G s3.heap.objs.size = none := atC ▸ (show G ev.locals = none from I6.free)
      obtain ⟨mm, ns, _⟩ := I6.loc
      have ns : s6.heap.Ns C mm := by
        rw [eC, ← atC]
        exact ns
      obtain ⟨z0, z1, _, z3, z4, z5⟩ := I3.fpOk (Nat.le_refl _) nC
      rw [← eC] at z0 z1 z3 z4 z5
      exact ⟨mm, ns, fun h2 sb => ⟨.ref D, G, I7.turned (t' := s6.toks) (fun b o hb e => (sb.2 b hb).trans e) z0 z1 z3 z4 z5, rfl, done⟩⟩
    · refine thnF (T.item (X.blk s3 H3 scope ev fp) rfl rfl rfl hc i [] s5 _ G (fun _ _ => False) I5 (keeps I5 n5) st5 go) fun r s6 ⟨u, er, h6⟩ => ?_
      subst er
      refine thnF h6 fun _ s7 ⟨x, H7, I7, r7, y7, st7, n7⟩ => ?_
      refine turnS (Y := X.blk s3 H3 scope ev fp) ad (Iv := fun n t => ∃ i G, Inv (X.blk s3 H3 scope ev fp) [] (wipe σ (own.map (·.2))) G t ∧ tn i t.heap ∧ (∀ b ∈ fp, G b = none) ∧ W i n G) quiet hu pg pt pe (I7.pinned (keeps I7 n7) (T.obj _ _ st7)) r7 (step x H7 y7) fun σ' s' G' ww Jv nx => ?_
      obtain ⟨j, lt, w'⟩ := down G' nx
      have pin : ∀ b ∈ fp, ∀ o, s7.heap.get? b = some o → s'.heap.get? b = some o ∧ G' b = none := fun b hb o e =>
        have z := Jv.pin (b, o) (List.mem_append_right _ (List.mem_append_right _ (mem_pinsAt hb e)))
        ⟨z.1, z.2.1⟩
      refine ⟨j, lt, i + 1, G', (Jv.unpinned (pins := [])).weak ?_ fun l v e => ?_, T.keep _ _ _ st7 fun b hb o e => (pin b hb o e).1, fun b hb => ?_, w'⟩
      · rw [← ww, wipe_length]
      · rw [← ww] at e
        exact (wipe_some e).1
      · obtain ⟨o, e, _⟩ := T.obj _ _ st7 b hb
        exact (pin b hb o e).2
  exact PpSet.codeAny_compStart_set loop (T.self X.A 0 _ _ _ st4 loop)
end
/-- by a walk -/
theorem sc_it {so : Addr → HO} {put : PutR} {J : It} {n : Nat} {G : Hp → Prop} {Y : Nat → Hp → V → Hp → Prop} (w : L2.Walk J n G Y) {g : TG} {tt : TT} {te : TE} {vs : List Nat} {σ : L2.St} {H1 : Hp} {D : Addr} {Qd : Hp → Prop}
    (Pv : Nat → Hp → Prop) (h0 : Pv 0 (upd H1 D (so D))) (hG : ∀ i H, i ≤ n → Pv i H → G H) (hs : ∀ i x H H', i < n → Pv i H → Y i H x H' → TurnS put D g tt te vs σ (Pv (i + 1)) x H') (hd : ∀ H, Pv n H → Qd H) :
    ∃ W : Nat → Nat → Hp → Prop, (∃ m, W 0 m (upd H1 D (so D))) ∧ ∀ i m H, W i m H →
      (J.stop i H ∧ Qd H) ∨ (J.go i H ∧ ∃ Nx : Hp → Prop, (∀ H', Nx H' → ∃ m', m' < m ∧ W (i + 1) m' H') ∧ ∀ x H', J.yld i H x H' → TurnS put D g tt te vs σ Nx x H') := by
  refine ⟨fun i m H => i ≤ n ∧ m = n - i ∧ Pv i H, ⟨n, Nat.zero_le _, rfl, h0⟩, ?_⟩
  rintro i m H ⟨hi, rfl, p⟩
  rcases Nat.lt_or_eq_of_le hi with lt | e
  · exact .inr ⟨w.goes i H lt (hG i H hi p), Pv (i + 1), fun H' p' => ⟨n - (i + 1), by omega, lt, rfl, p'⟩, fun x H' y => hs i x H H' lt p (w.yields i H x H' lt (hG i H hi p) y)⟩
  · subst e
    exact .inl ⟨w.stops H (hG i H hi p), hd H p⟩
end NSet
/-! sets of nested keys and of texts, put by a comprehension; sorted(set of nested keys) -/
namespace NSet
open PySem PySem.Spec PyProof.Rows L2 PySem.W ND
set_option autoImplicit false
/-- the set at a, without what is known of the keys themselves -/
def N0 (w : World) (g : Heap) (a : Addr) (L : List KIt) : Prop := ∃ (r : Array (Int × Value)) (n : Nat) (T : SetTable), (∃ o, g.get? a = some o ∧ o.ExactSet ∧ o.data = .set r n T) ∧ r.toList = rows1 w L ∧ TabOk T (hashs w L) ∧ (L.map (·.2)).Nodup ∧
  (w.params.followText "set-order" = true ∨ T.led = true) ∧ L.length * 5 < T.mask * 3 ∧ L.length < 64
theorem NS.n0 {w : World} {g : Heap} {a : Addr} {L : List KIt} {r : Array (Int × Value)} {n : Nat} {T : SetTable} (R : NS w g a L r n T) : N0 w g a L := ⟨r, n, T, R.ob, R.rw, R.tb, R.nd, R.ld, R.rm, R.fw⟩
theorem N0.full {w : World} {g : Heap} {a : Addr} {L : List KIt} (R : N0 w g a L) (k : ∀ z ∈ L, KeyAt g z) : ∃ r n T, NS w g a L r n T := by
  obtain ⟨r, n, T, h1, h2, h3, h4, h5, h6, h7⟩ := R
  exact ⟨r, n, T, h1, h2, h3, h4, k, h5, h6, h7⟩
def SetO (w : World) (a : Addr) (L : List KIt) : HO := .ext fun g => N0 w g a L
theorem setO_new {w : World} {P : Program} {H : Hp} {h : Heap} {a : Addr} {L : List KIt} (R : N0 w h a L) : ObjOk P w H h a (SetO w a L) := by
  have ⟨r, n, T, ⟨o, ho, x⟩, q⟩ := R
  refine ⟨R, ⟨o, ho⟩, fun h1 h2 p k => ?_⟩
  have ⟨r', n', T', ⟨o', ho', x'⟩, q'⟩ := (show N0 w h1 a L from p)
  exact ⟨r', n', T', ⟨o', k o' ho', x'⟩, q'⟩
theorem setO_fresh (P0 : Program) (w : World) : News1 P0 w fun D => SetO w D [] := fun H h D e => setO_new ⟨#[], 0, _, ⟨_, e, ⟨rfl, rfl, rfl⟩, rfl⟩, rfl,
  ⟨List.Pairwise.nil, rfl, rfl, .inl rfl, fun x hx => (by cases hx), fun i h j hi => (by simp [hashs] at hi)⟩, List.nodup_nil, by
    show _ ∨ (!w.params.followText "set-order") = true
    cases w.params.followText "set-order"
    · exact .inr rfl
    · exact .inl rfl, by show 0 * 5 < 7 * 3; decide, by show 0 < 64; decide⟩
def NKs1 (K : PySem.W.Frag) (H : Hp) (L : List KIt) : Prop := ∀ z ∈ L, NK K H z.2 (.ref z.1) ∧ z.2.depth ≤ 8
theorem NKs1.mono {K : PySem.W.Frag} {H H' : Hp} {L : List KIt} (h : NKs1 K H L) (m : ∀ b xs, SqT K H b xs → SqT K H' b xs) : NKs1 K H' L := fun z hz => ⟨NK.mono m _ _ (h z hz).1, (h z hz).2⟩
/-- a tuple that is a key goes into the set -/
def putN1 (w : World) (K : PySem.W.Frag) : PutR := fun D y H N => ∃ (b : Addr) (k : NestedKey) (L : List KIt), y = .ref b ∧ H D = some (SetO w D L) ∧ NKs1 K H L ∧ NK K H k (.ref b) ∧ k.depth ≤ 8 ∧ L.length + 1 < 64 ∧
  ∀ L', (k ∈ L.map (·.2) → L' = L) → (k ∉ L.map (·.2) → L'.Perm ((b, k) :: L)) → N (upd H D (SetO w D L'))
theorem adds_N (P : Program) (w : World) (K : PySem.W.Frag) : Adds P w K (putN1 w K) := by
  intro Y pins σ H s E D y v N Q e1 e2 e3 hu I rv ⟨b, k, L, ey, hD, oks, key, dep, few, nx⟩ q
  subst e1 e2 e3 ey
  obtain rfl : v = Value.ref b := rv
  have R0 : N0 Y.w s.heap D L := (I.hok D _ hD).1
  obtain ⟨r, n, T, R⟩ := R0.full fun z hz => ⟨nk_is I _ _ _ (oks z hz).1 rfl, (oks z hz).2⟩
  have hz : KeyAt s.heap (b, k) := ⟨nk_is I _ _ _ key rfl, dep⟩
  have tS : s.TypeIs (.ref D) "set" := by
    obtain ⟨o, ho, hx, _⟩ := R.ob
    exact ⟨o, ho, hx.1⟩
  refine wpAny_call_entry F.slot_set_add tS F.entry_set_add ?_ (F.args_set_add_2 _ _)
  unfold Builtin.«set.add» Builtin.Frozenset.oneOther
  simp only [List.isEmpty_nil, bind_assoc]
  unfold Builtin.Frozenset.addrOf setAdd
  refine wpAny_bind (wpAny_pure ?_)
  try dsimp only
  refine wpAny_bind (wpAny_pure ?_)
  try dsimp only
  refine wpAny_bind ?_
  refine wpAny_holding ?_
  have u1 : Y.A.in1.units ≤ Y.A.units + 1 := by first | exact Nat.le_refl _ | simp [Around.in1]
  refine wpAny_bind (pyHash_key k _ _ _ _ hz.1 (by omega) ?_)
  refine put_it (s := { s with toks := s.toks + k.draws }) (R.up fun _ _ e => e) (z := (b, k)) hz (by omega) few fun c g' L' r' n' T' sb R' c1 c2 => ?_
  show wpAny _ _ (ret Value.none) _ _ _
  refine wpAny_pure ⟨_, rfl, ?_⟩
  have he : ∃ u, g'.get? D = some u := by
    obtain ⟨o, ho, _⟩ := R'.ob
    exact ⟨o, ho⟩
  exact q _ _ (I.write (e := D) (t' := s.toks + k.draws) (by rw [hD]; trivial) (.inl rfl) (fun b u hb hu => (sb.2 b hb).trans hu) he (setO_new R'.n0)) (nx L' c1 c2)
/-! ### texts -/
theorem setTx_fresh (P : Program) (w : World) : News1 P w fun D => TX.SetTx P w D [] := fun H h D e => TX.setTx_new ⟨(#[], 0, .fresh 0 0 (!w.params.followText "set-order")), e, ⟨Froz.TxOk.nil rfl, List.Pairwise.nil, by
    show _ ∨ (!w.params.followText "set-order") = true
    cases w.params.followText "set-order"
    · exact .inr rfl
    · exact .inl rfl, List.nodup_nil⟩⟩
def putTx (P : Program) (w : World) : PutR := fun D y H N => ∃ (x : Str) (l : List Str), y = .str x ∧ H D = some (TX.SetTx P w D l) ∧ l.length + 1 < scanBound ∧ (x ∈ l → N H) ∧ (x ∉ l → N (upd H D (TX.SetTx P w D (x :: l))))
theorem adds_Tx (P : Program) (w : World) (K : PySem.W.Frag) : Adds P w K (putTx P w) := by
  intro Y pins σ H s E D y v N Q e1 e2 e3 hu I rv ⟨x, l, ey, hD, few, n1, n2⟩ q
  subst e1 e2 e3 ey
  obtain ⟨t, rfl⟩ : ∃ t, v = Value.str x t := rv
  have R0 : TX.At Y.prog Y.w s.heap D l := (I.hok D _ hD).1
  obtain ⟨B, hB, ok⟩ := id R0
  refine wpAny_call_entry F.slot_set_add ⟨_, hB, rfl⟩ F.entry_set_add ?_ (F.args_set_add_2 _ _)
  unfold Builtin.«set.add» Builtin.Frozenset.oneOther
  simp only [List.isEmpty_nil, bind_assoc]
  unfold Builtin.Frozenset.addrOf setAdd
  refine wpAny_bind (wpAny_pure ?_)
  try dsimp only
  refine wpAny_bind (wpAny_pure ?_)
  try dsimp only
  refine wpAny_bind ?_
  refine wpAny_holding ?_
  refine wpAny_bind ((strKind Y.prog Y.w).pyHash (Froz.is_str x t) ?_)
  by_cases m : x ∈ l
  · refine TX.add_old (s := { s with toks := s.toks + 1 }) hB ok.tx m (by omega) ?_
    show wpAny _ _ (ret Value.none) _ _ _
    exact wpAny_pure ⟨_, rfl, q _ _ (I.kept (t' := s.toks + 1) fun _ _ e => e) (n1 m)⟩
  · refine Froz.add_x (s := { s with toks := s.toks + 1 }) hB ok.tx m (by omega) ?_
    show wpAny _ _ (ret Value.none) _ _ _
    refine wpAny_pure ⟨_, rfl, q _ _ ?_ (n2 m)⟩
    have hg : (s.heap.update D (fun _ => Froz.sObj "set" (Froz.addTx (hashStr Y.w x) (.str x t) B))).get? D = some (Froz.sObj "set" (Froz.addTx (hashStr Y.w x) (.str x t) B)) := Froz.get_upd _ hB rfl
    refine I.write (e := D) (t' := s.toks + 1) (by rw [hD]; trivial) (.inl rfl) (fun b u hb hu => ?_) ⟨_, hg⟩ (TX.setTx_new ⟨_, hg, ok.add t m⟩)
    exact (Heap.get?_update_ne _ _ _ _ hb).trans hu
/-! ### sorted -/
mutual
theorem data_depth : ∀ k : NestedKey, k.data.depth = k.depth
  | .none => by simp [NestedKey.data, NestedKey.depth, PyData.depth]
  | .num i => by simp [NestedKey.data, NestedKey.depth, PyData.depth]
  | .text x => by simp [NestedKey.data, NestedKey.depth, PyData.depth]
  | .tup ks => by
    rw [NestedKey.data, NestedKey.depth, PyData.depth, datas_depth ks]
theorem datas_depth : ∀ ks : List NestedKey, PyData.depthAll (NestedKey.datas ks) = NestedKey.depthAll ks
  | [] => by simp [NestedKey.datas, NestedKey.depthAll, PyData.depthAll]
  | k :: ks => by rw [NestedKey.datas, NestedKey.depthAll, PyData.depthAll, data_depth k, datas_depth ks]
end
section
variable {X : Cx}
theorem refs_perm {L : List KIt} (inj : ∀ y ∈ L, ∀ z ∈ L, y.1 = z.1 → y = z) (nd : L.Nodup) : ∀ vs : List Value, vs.Perm (L.map fun z => Value.ref z.1) → ∃ M : List KIt, vs = M.map (fun z => Value.ref z.1) ∧ M.Perm L := by
  intro vs pm
  have ex : ∀ us : List Value, (∀ u ∈ us, ∃ z ∈ L, u = Value.ref z.1) → ∃ M : List KIt, us = M.map (fun z => Value.ref z.1) ∧ ∀ z ∈ M, z ∈ L := by
    intro us
    induction us with
    | nil => exact fun _ => ⟨[], rfl, fun z h => nomatch h⟩
    | cons u us ih =>
      intro h
      obtain ⟨z, hz, e⟩ := h u List.mem_cons_self
      obtain ⟨M, e1, s1⟩ := ih fun x hx => h x (List.mem_cons_of_mem _ hx)
      refine ⟨z :: M, by rw [List.map_cons, e, e1], fun y hy => ?_⟩
      rcases List.mem_cons.mp hy with q | q
      · rw [q]
        exact hz
      · exact s1 y q
  obtain ⟨M, e, sub⟩ := ex vs fun u hu => by
    obtain ⟨z, hz, q⟩ := List.mem_map.mp (pm.mem_iff.mp hu)
    exact ⟨z, hz, q.symm⟩
  refine ⟨M, e, ?_⟩
  rw [e] at pm
  have nL : (L.map fun z => Value.ref z.1).Nodup := List.pairwise_map.mpr (List.Pairwise.imp_of_mem (fun {y z} hy hz ne q => ne (inj y hy z hz (by injection q))) nd)
  have nM : M.Nodup := List.Pairwise.of_map (fun z : KIt => Value.ref z.1) (fun _ _ ne q => ne (congrArg (fun z : KIt => Value.ref z.1) q)) (pm.nodup_iff.mpr nL)
  refine (List.perm_ext_iff_of_nodup nM nd).mpr fun z => ⟨sub z, fun hz => ?_⟩
  obtain ⟨y, hy, q⟩ := List.mem_map.mp (pm.mem_iff.mpr (List.mem_map.mpr ⟨z, hz, rfl⟩))
  rw [← inj y (sub y hy) z hz (by injection q)]
  exact hy
theorem refs_vals : ∀ M : List KIt, Vals (M.map fun z => V.ref z.1) (M.map fun z => Value.ref z.1)
  | [] => .nil
  | _ :: M => .cons rfl (refs_vals M)
def RefOf (u : Value) (z : KIt) : Prop := u = .ref z.1
theorem refs_each : ∀ M : List KIt, EachIs RefOf (M.map fun z => Value.ref z.1) M
  | [] => .nil
  | _ :: M => .cons rfl (refs_each M)
theorem each_out : ∀ {us : List Value} {M : List KIt}, EachIs RefOf us M → Vals (M.map fun z => V.ref z.1) us
  | _, _, .nil => .nil
  | _, _, .cons h r => .cons h (each_out r)
abbrev leN (y z : KIt) : Bool := dataLe false (fun z : KIt => z.2.data) y z
/-- sorted(a set of nested keys) -/
def rSortN (K : PySem.W.Frag) (w : World) : List V → Hp → VK → Prop := fun vs H Q => ∃ (a : Addr) (L : List KIt), vs = [V.ref a] ∧ H a = some (SetO w a L) ∧ NKs1 K H L ∧ (∀ y ∈ L, ∀ z ∈ L, alike y.2.data z.2.data = true) ∧ (∀ z ∈ L, ∃ ks, z.2 = .tup ks) ∧
  ∀ (M : List KIt) (p : Addr), M.Perm L → (M.map (·.2)).Nodup → M.length < 64 → H p = none → Q (.ref p) (upd H p (.lst ((M.mergeSort leN).map fun z => V.ref z.1)))
theorem cr_sortN (hc : X.calm = true) (hu : X.A.units + 66 < cLine) : CallR X (.builtin "sorted") (rSortN X.K X.w) := by
  intro pins s σ H vs0 us Q I rv h
  obtain ⟨a, L, rfl, ha, oks, al, tp, q⟩ := h
  rw [Vals.ref1 rv]
  have R0 : N0 X.w s.heap a L := (I.hok a _ ha).1
  obtain ⟨r, n, T, R⟩ := R0.full fun z hz => ⟨nk_is I _ _ _ (oks z hz).1 rfl, (oks z hz).2⟩
  obtain ⟨o, ho, hx, hd⟩ := R.ob
  have rn := rows_len R.rw
  have fw := R.fw
  refine Calls.call_function_entry kind_sorted plain_sorted entry_sorted (args_sorted1 _) ?_
  unfold Builtin.«sorted»
  refine wpAny_bind (m := checkCount "sorted" 1 1 _) (wpAny_pure ?_)
  refine wpAny_bind (collect_set (A := X.A.in1) (I.ok.hd hc) ⟨o, ho, hx.1, hd⟩ R.fits (by unfold scanBound; omega) R.tb.ris R.ld fun s1 vs k1 hz g1 o1 pm => ?_)
  have hes : r.toList.map (·.2) = L.map fun z => Value.ref z.1 := by
    rw [R.rw]
    unfold rows1
    rw [List.map_map]
    rfl
  rw [hes] at pm
  obtain ⟨M, rfl, pM⟩ := refs_perm (fun y hy z hz e => (R.ky y hy).one (R.ky z hz) e) (List.Pairwise.of_map (fun z : KIt => z.2) (fun _ _ ne e => ne (congrArg _ e)) R.nd) vs pm
  have Ml : M.length < 64 := by rw [pM.length_eq]; exact fw
  have szl : (M.map fun z => Value.ref z.1).length ≤ sizeLine := by rw [List.length_map, sizeLine_eq]; omega
  refine wpAny_bind (wpAny_newList ?_ szl)
  have at0 : (s1.heap.push (seqObj "list" (M.map fun z => Value.ref z.1).toArray 0)).get? s1.heap.objs.size = some (seqObj "list" (M.map fun z => Value.ref z.1).toArray 0) := Heap.get?_push_size _ rfl
  have er : EachIs (fun v (z : KIt) => ∃ as, Reads (sortingHeap (s1.heap.push (seqObj "list" (M.map fun z => Value.ref z.1).toArray 0)) s1.heap.objs.size (M.map fun z => Value.ref z.1)) v z.2.data as) (M.map fun z => Value.ref z.1) M := by
    have gen : ∀ l : List KIt, (∀ z ∈ l, z ∈ M) → EachIs (fun v (z : KIt) => ∃ as, Reads (sortingHeap (s1.heap.push (seqObj "list" (M.map fun z => Value.ref z.1).toArray 0)) s1.heap.objs.size (M.map fun z => Value.ref z.1)) v z.2.data as) (l.map fun z => Value.ref z.1) l := by
      intro l
      induction l with
      | nil => exact fun _ => .nil
      | cons z l ih =>
        intro hl
        refine .cons ?_ (ih fun x hx => hl x (List.mem_cons_of_mem _ hx))
        obtain ⟨as, rd⟩ := Dp.reads I _ _ _ (NK.dp _ _ (oks z (pM.mem_iff.mp (hl z List.mem_cons_self))).1) rfl
        exact ⟨as, PyProof.Rows.Reads.keeps (fun b o e => sortingHeap_old (Nat.ne_of_lt (Heap.lt_size (k1 b o e))) (Heap.get?_push_of_some _ (k1 b o e))) rd⟩
    exact gen M fun _ h => h
  have alM : AllAlike (M.map fun z => z.2.data) := by
    intro d hd d' hd'
    obtain ⟨y, hy, rfl⟩ := List.mem_map.mp hd
    obtain ⟨z, hz, rfl⟩ := List.mem_map.mp hd'
    exact al y (pM.mem_iff.mp hy) z (pM.mem_iff.mp hz)
  have dpl : ∀ (z : KIt), z ∈ L → z.2.data.depth ≤ 9 := fun z hz => by
    have gen : ∀ k : NestedKey, k.data.depth = k.depth := fun k => data_depth k
    rw [gen]
    exact Nat.le_succ_of_le (oks z hz).2
  have un : ∀ x ∈ M.map (fun z => z.2.data), X.A.in1.in1.units + x.depth < cLine := by
    intro x hx
    obtain ⟨z, hz, rfl⟩ := List.mem_map.mp hx
    have := dpl z (pM.mem_iff.mp hz)
    have u1 : X.A.in1.in1.units ≤ X.A.units + 2 := by first | exact Nat.le_refl _ | simp [Around.in1]
    omega
  refine wpAny_bind (wpAny_holding (wpAny_call_entry slot_list_sort ⟨_, at0, rfl⟩ entry_list_sort
    (list_sort_vals (s := { s1 with heap := s1.heap.push (seqObj "list" (M.map fun z => Value.ref z.1).toArray 0) }) at0 (sorts_tups (s := { s1 with heap := sortingHeap (s1.heap.push (seqObj "list" (M.map fun z => Value.ref z.1).toArray 0)) s1.heap.objs.size (M.map fun z => Value.ref z.1) })
      (each_map (R := fun v x => ∃ as, Reads (sortingHeap (s1.heap.push (seqObj "list" (M.map fun z => Value.ref z.1).toArray 0)) s1.heap.objs.size (M.map fun z => Value.ref z.1)) v x as) (fun z : KIt => z.2.data) er) alM (fun d hd => ?_) un) szl ?_) (args_list_sort _)))
  · obtain ⟨z, hz, rfl⟩ := List.mem_map.mp hd
    obtain ⟨ks, e⟩ := tp z (pM.mem_iff.mp hz)
    rw [e]
    exact ⟨_, by rw [NestedKey.data]⟩
  have eo := sortVals_data false (refs_each M) er alM
  generalize sortVals (dataKind (sortingHeap (s1.heap.push (seqObj "list" (M.map fun z => Value.ref z.1).toArray 0)) s1.heap.objs.size (M.map fun z => Value.ref z.1)) (M.map fun z => z.2.data)) false (M.map fun z => Value.ref z.1) (M.map fun z => Value.ref z.1) = out at eo ⊢
  obtain ⟨c, hcc⟩ := PyProof.Rows.sortedHeap_at (vs := M.map fun z => Value.ref z.1) (out := out.toArray) at0
  have hn : H s1.heap.objs.size = none := I.hok.fresh hz
  have kk : ∀ b u, s.heap.get? b = some u → (PyProof.Rows.sortedHeap (s1.heap.push (seqObj "list" (M.map fun z => Value.ref z.1).toArray 0)) s1.heap.objs.size (M.map fun z => Value.ref z.1) out.toArray).get? b = some u := fun b u e => by
    have z := k1 b u e
    have lt := Heap.lt_size z
    rw [PyProof.Rows.sortedHeap_old (Nat.ne_of_lt lt) (by rw [size_push']; exact Nat.lt_succ_of_lt lt)]
    exact Heap.get?_push_of_some _ z
  have len : ((M.mergeSort leN).map fun z => V.ref z.1).length ≤ sizeLine := by rw [List.length_map, List.length_mergeSort, sizeLine_eq]; omega
  have J : Inv X pins σ (upd H s1.heap.objs.size (.lst ((M.mergeSort leN).map fun z => V.ref z.1))) { s with heap := PyProof.Rows.sortedHeap (s1.heap.push (seqObj "list" (M.map fun z => Value.ref z.1).toArray 0)) s1.heap.objs.size (M.map fun z => Value.ref z.1) out.toArray, gens := s1.gens, drawn := s1.drawn, toks := s1.toks } :=
    I.call (ch := []) (Un.laid kk hz hn) (I.hok.laid kk hz ⟨len, out, c, each_out eo, hcc⟩) (by rw [g1]; exact I.bare) (fun _ z => nomatch z)
  refine ⟨_, rfl, wpAny_pure ⟨_, rfl, ?_⟩⟩
  have e : (({ s1 with heap := PyProof.Rows.sortedHeap (s1.heap.push (seqObj "list" (M.map fun z => Value.ref z.1).toArray 0)) s1.heap.objs.size (M.map fun z => Value.ref z.1) out.toArray } : Shared)) = { s with heap := PyProof.Rows.sortedHeap (s1.heap.push (seqObj "list" (M.map fun z => Value.ref z.1).toArray 0)) s1.heap.objs.size (M.map fun z => Value.ref z.1) out.toArray, gens := s1.gens, drawn := s1.drawn, toks := s1.toks } := by
    cases s1
    cases s
    cases o1
    rfl
  rw [← e] at J
  exact ⟨.ref s1.heap.objs.size, _, J, rfl, q M _ pM ((pM.map (·.2)).nodup_iff.mpr R.nd) Ml hn⟩
end
end NSet
/-! set(a list of nested keys): fewer than 64 items -/
namespace NSet
open PySem PySem.Spec PyProof.Rows L2 PySem.W ND
set_option autoImplicit false
theorem N0.at {w : World} {g g' : Heap} {a : Addr} {L : List KIt} (R : N0 w g a L) (m : ∀ o, g.get? a = some o → g'.get? a = some o) : N0 w g' a L := by
  obtain ⟨r, n, T, ⟨o, e, q⟩, z⟩ := R
  exact ⟨r, n, T, ⟨o, m _ e, q⟩, z⟩
section
variable {P : Program} {w : World} {A : Around} {E : Value → Shared → Prop} {s : Shared}
theorem fillN {I : Addr} {fp wr : List Addr} {G : Array GenState → Array GenState → Prop} {n : Nat} {Pv : Nat → Value → Prop} {St : Nat → Shared → Prop} {R : Result → Shared → Prop}
    (W : WalksS P w A.in1 I fp wr G n Pv St) (a : Addr) (ha : a ∉ fp) (xs : List KIt) (hn : n = xs.length) (hb : xs.length + 1 < 64) (hu : A.units + 40 < cLine) (hv : ∀ i v, Pv i v → ∃ z, xs[i]? = some z ∧ v = .ref z.1) {h0 : Heap} (h0n : ∀ b ∈ a :: wr, h0.get? b = none) (hk : ∀ z ∈ xs, KeyAt h0 z) :
    ∀ (m i : Nat) (s : Shared), n - i = m → i ≤ n → St i s → (∀ b o, h0.get? b = some o → s.heap.get? b = some o) → (∃ L, N0 w s.heap a L ∧ L.length ≤ i ∧ (∀ z ∈ L, z ∈ xs) ∧ ∀ k, k ∈ L.map (·.2) ↔ k ∈ (xs.take i).map (·.2)) →
      (∀ s' L, Moved (a :: wr) G s s' → N0 w s'.heap a L → (∀ z ∈ L, z ∈ xs) → (∀ k, k ∈ L.map (·.2) ↔ k ∈ xs.map (·.2)) → L.length ≤ n → R (.ok (.ret .none)) s') →
      codeAny (model P w) A (.builtin "set.update.loop" ⟨[.ref a, .ref I], []⟩) R s := by
  have aw : a ∉ wr := fun q => ha (W.sub _ q)
  have ww : ∀ b ∈ wr, b ∈ a :: wr := fun b q => List.mem_cons_of_mem _ q
  have u1 : A.in1.units ≤ A.units + 1 := by first | exact Nat.le_refl _ | simp [Around.in1]
  intro m
  induction m with
  | zero =>
    intro i s em hi st bs ⟨L, hA, hl, hx, mem⟩ hR
    obtain rfl : i = n := by omega
    refine codeAny_builtin F.entry_set_update_loop ?_
    rw [Around.under_plainId F.plain_set_update_loop _]
    show wpAny _ A.in1 (pyNext (.ref I) >>= _) _ _ s
    refine wpAny_bind (W.done s _ _ st fun s' mv => ?_)
    show wpAny _ A.in1 (ret Value.none) _ _ s'
    have et : xs.take i = xs := List.take_of_length_le (by omega)
    rw [et] at mem
    exact wpAny_pure (hR s' L (mv.mono ww) (hA.at fun o e => mv.heap a o aw e) hx mem hl)
  | succ m ih =>
    intro i s em hi st bs ⟨L, hA, hl, hx, mem⟩ hR
    have lt : i < n := by omega
    refine codeAny_builtin F.entry_set_update_loop ?_
    rw [Around.under_plainId F.plain_set_update_loop _]
    show wpAny _ A.in1 (pyNext (.ref I) >>= _) _ _ s
    refine wpAny_bind (W.item i s _ _ lt st fun v s1 hP st1 mv => ?_)
    obtain ⟨z, hz, rfl⟩ := hv i v hP
    have zx := List.mem_of_getElem? hz
    have bs1 : ∀ b o, h0.get? b = some o → s1.heap.get? b = some o := fun b o e => mv.heap b o (fun q => by rw [h0n b (ww b q)] at e; cases e) (bs b o e)
    have kz : KeyAt s1.heap z := (hk z zx).up bs1
    obtain ⟨r, nn, T, R0⟩ := (hA.at (g' := s1.heap) fun o e => mv.heap a o aw e).full fun y hy => (hk y (hx y hy)).up bs1
    show wpAny _ A.in1 (holding [Value.ref z.1] (setAdd a (.ref z.1)) >>= _) _ _ s1
    refine wpAny_bind (wpAny_holding ?_)
    unfold setAdd
    refine wpAny_holding (wpAny_bind (pyHash_key z.2 _ _ _ _ kz.1 (by have := kz.2; omega) ?_))
    have tk : xs.take (i + 1) = xs.take i ++ [z] := by rw [List.take_add_one, hz] <;> rfl
    refine put_it (s := { s1 with toks := s1.toks + z.2.draws }) (R0.up fun _ _ e => e) (z := z) kz (by omega) (by omega) fun c g' L' r' n' T' sb R' c1 c2 => ?_
    have mem' : (∀ k, k ∈ L'.map (·.2) ↔ k ∈ (xs.take (i + 1)).map (·.2)) ∧ (∀ y ∈ L', y ∈ xs) ∧ L'.length ≤ i + 1 := by
      by_cases q : z.2 ∈ L.map (·.2)
      · rw [c1 q]
        refine ⟨fun k => ?_, hx, by omega⟩
        rw [tk, List.map_append, List.mem_append, mem k]
        exact ⟨.inl, fun h => h.elim id fun h => by rw [List.mem_singleton.mp (show k ∈ [z.2] from h), ← mem]; exact q⟩
      · have pm := c2 q
        refine ⟨fun k => ?_, fun y hy => ?_, by rw [pm.length_eq, List.length_cons]; omega⟩
        · rw [(pm.map (·.2)).mem_iff, tk, List.map_append, List.mem_append, List.map_cons, List.mem_cons, mem k]
          exact ⟨fun h => h.elim (fun h => .inr (List.mem_singleton.mpr h)) .inl, fun h => h.elim .inr fun h => .inl (List.mem_singleton.mp (show k ∈ [z.2] from h))⟩
        · rcases List.mem_cons.mp (pm.mem_iff.mp hy) with e | e
          · rw [e]
            exact zx
          · exact hx y e
    have ot : ∀ b o, b ≠ a → s1.heap.get? b = some o → g'.get? b = some o := fun b o ne e => (sb.2 b ne).trans e
    refine wpAny_pure ⟨plainId_quiet F.plain_set_update_loop _, ih (i + 1) _ (by omega) lt (W.frame _ s1 _ _ st1 (Nat.le_add_right _ _) fun b q o e => ot b o (fun y => ha (y ▸ q)) e) (fun b o e => ot b o (fun y => by rw [y, h0n a List.mem_cons_self] at e; cases e) (bs1 b o e)) ⟨L', R'.n0, mem'.2.2, mem'.2.1, mem'.1⟩ fun s2 L2 mv2 hA2 hx2 mem2 hl2 => ?_⟩
    exact hR s2 L2 (Moved.trans W.gtrans ((mv.mono ww).then_heap (Nat.le_add_right _ _) fun b o q e => ot b o (fun y => q (y ▸ List.mem_cons_self)) e) mv2) hA2 hx2 mem2 hl2
set_option maxHeartbeats 4000000 in
theorem call_set_gen {v : Value} {Lf : Shared → Prop} {Q : Value → Shared → Prop}
    (hI : ∀ A' : Around, A'.handled = A.handled → A'.units ≤ A.units + 2 → wpAny (model P w) A' (Builtin.«set.__init__» ⟨[.ref s.heap.objs.size, v], []⟩) (fun f s2 => f = .done (.ret .none) ∧ Lf s2) E { s with heap := s.heap.push (freshSet w) })
    (h : ∀ s', Lf s' → Q (.ref s.heap.objs.size) s') :
    wpAny (model P w) A (call (.type "set") [v]) Q E s := by
  obtain ⟨c, tl, hmro⟩ := F.called_set.mro
  have hmade := F.called_set.made
  have hsub := F.called_set.sub
  refine wpAny_call (codeAny_of_tree ?_)
  show wpAny _ _ (callAny (.type "set") _) _ _ _
  refine wpAny_pure ⟨Code.quiet_builtin _ (by decide +kernel), codeAny_builtin F.entry_type_call ?_⟩
  rw [Around.under_plain (weight_type_call_type "set" [v] []) rfl]
  have h1 := F.called_set.notType
  have h2 := F.called_set.canCreate
  have hct := F.typeCall_set_1 v
  repeat (any_goals (first | assumption | wp_step))
  refine codeAny_mono (code_set_led1 v (E := E) (Q₁ := fun obj s₁ => obj = .ref s.heap.objs.size ∧ s₁ = { s with heap := s.heap.push (freshSet w) }) ⟨rfl, rfl⟩) fun r s₁ hr => ?_
  cases r with
  | error e => exact hr
  | ok fl =>
    cases fl with
    | ret obj =>
      obtain ⟨rfl, rfl⟩ := hr
      have hS : (s.heap.push (freshSet w)).get? s.heap.objs.size = some (freshSet w) := Heap.get?_push_size _ rfl
      have hT : Shared.TypeIs { s with heap := s.heap.push (freshSet w) } (.ref s.heap.objs.size) "set" := ⟨_, hS, rfl⟩
      have hli := F.called_set.init.lookup
      have hbi := F.called_set.init.bind (.ref s.heap.objs.size)
      repeat (any_goals (first | assumption | wp_step))
      refine codeAny_mono (codeAny_call_builtin (R := wants (fun r s₂ => r = .none ∧ Lf s₂) E) F.called_set.init.plain F.entry_set_init (check_set_init_1 hT ?_)) fun r₂ s₂ hr₂ => ?_
      · refine wpAny_mono (hI A.in1.in1 (by simp) (by first | exact Nat.le_refl _ | simp [Around.in1])) (fun f s2 q => ?_) fun e s2 q => q
        obtain ⟨rfl, q⟩ := q
        exact ⟨rfl, q⟩
      · cases r₂ with
        | error e => exact hr₂
        | ok fl₂ =>
          cases fl₂ with
          | ret r =>
            obtain ⟨rfl, hL⟩ := hr₂
            repeat (any_goals (first | assumption | wp_step))
            exact h _ hL
          | _ => exact hr₂.elim
    | _ => exact hr.elim
/-- what set(xs) leaves -/
def LeftN (w : World) (s : Shared) (xs : List KIt) (s' : Shared) : Prop :=
  ∃ h' tk L, s' = { s with heap := h', toks := tk } ∧ N0 w h' s.heap.objs.size L ∧ (∀ z ∈ L, z ∈ xs) ∧ (∀ k, k ∈ L.map (·.2) ↔ k ∈ xs.map (·.2)) ∧ L.length ≤ xs.length ∧ ∀ b o, s.heap.get? b = some o → h'.get? b = some o
theorem left_ofN {a : Addr} {wr : List Addr} {xs L : List KIt} {s s1 s' : Shared} (ea : a = s.heap.objs.size) (hw : ∀ b ∈ wr, s.heap.objs.size ≤ b) (k1 : ∀ b o, s.heap.get? b = some o → s1.heap.get? b = some o)
    (eg : s1.gens = s.gens) (ed : s1.drawn = s.drawn) (eo : s1.os = s.os) (mv : Moved (a :: wr) (fun x y => y = x) s1 s') (hA : N0 w s'.heap a L) (hx : ∀ z ∈ L, z ∈ xs) (mem : ∀ k, k ∈ L.map (·.2) ↔ k ∈ xs.map (·.2)) (hl : L.length ≤ xs.length) : LeftN w s xs s' := by
  obtain ⟨h', g', d', tk', os'⟩ := s'
  have e1 : g' = s.gens := mv.gens.trans eg
  have e2 : d' = s.drawn := mv.drawn.trans ed
  have e3 : os' = s.os := mv.os.trans eo
  subst e1 e2 e3 ea
  refine ⟨h', tk', L, rfl, hA, hx, mem, hl, fun b o e => ?_⟩
  have lt : b < s.heap.objs.size := Heap.lt_size e
  refine mv.heap b o (fun z => ?_) (k1 b o e)
  rcases List.mem_cons.mp z with z | z
  · exact absurd z (Nat.ne_of_lt lt)
  · exact absurd (hw b z) (Nat.not_le_of_lt lt)
theorem n0_fresh {P : Program} {h : Heap} {a : Addr} (e : h.get? a = some (freshSet w)) : N0 w h a [] := by
  have R := setO_fresh P w (fun _ => none) h a e
  exact R.1
set_option maxHeartbeats 4000000 in
theorem init_listN {l : Addr} {items : Array Value} {xs : List KIt} (hh : A.handled = none) (hl : s.heap.IsList l items) (hi : items.toList = xs.map fun z => Value.ref z.1) (hb : xs.length + 1 < 64) (hk : ∀ z ∈ xs, KeyAt s.heap z) (hu : A.units + 44 < cLine) :
    wpAny (model P w) A (Builtin.«set.__init__» ⟨[.ref s.heap.objs.size, .ref l], []⟩) (fun f s2 => f = .done (.ret .none) ∧ LeftN w s xs s2) E { s with heap := s.heap.push (freshSet w) } := by
  have hsz : xs.length = items.size := by rw [← Array.length_toList, hi, List.length_map]
  have hv : ∀ (i : Nat) (v : Value), items[i]? = some v → ∃ z, xs[i]? = some z ∧ v = .ref z.1 := fun i v q => by
    have hi' : i < xs.length := by rw [hsz]; exact (Array.getElem?_eq_some_iff.mp q).1
    rw [← Array.getElem?_toList, hi, List.getElem?_map, List.getElem?_eq_getElem hi'] at q
    exact ⟨xs[i], List.getElem?_eq_getElem hi', (Option.some.inj q).symm⟩
  have hS : (s.heap.push (freshSet w)).get? s.heap.objs.size = some (freshSet w) := Heap.get?_push_size _ rfl
  have hT : Shared.TypeIs { s with heap := s.heap.push (freshSet w) } (.ref s.heap.objs.size) "set" := ⟨_, hS, rfl⟩
  obtain ⟨ol, hol, hcl, nl, hdl⟩ := id hl
  obtain ⟨ocls, odict, odata, oslots⟩ := ol
  simp only at hcl hdl
  subst hcl; subst hdl
  have hol1 : (s.heap.push (freshSet w)).get? l = some { cls := .type "list", dict := odict, data := .seq items nl, slots := oslots } := Heap.get?_push_of_some _ hol
  have f1 := F.sub_list_set
  have f2 := F.sub_list_frozenset
  have f3 : (Value.type "list" == Value.type "dict") = false := by decide
  have hl1 : (s.heap.push (freshSet w)).IsList l items := ⟨_, hol1, rfl, nl, rfl⟩
  have lS : l < s.heap.objs.size := Heap.lt_size hol
  have nI : l ≠ (s.heap.push (freshSet w)).objs.size := by
    rw [Heap.size_push]
    exact Nat.ne_of_lt (Nat.lt_succ_of_lt lS)
  have nS : s.heap.objs.size ∉ [(s.heap.push (freshSet w)).objs.size, l] := by
    rw [Heap.size_push]
    intro q
    rcases List.mem_cons.mp q with q | q
    · exact absurd q (Nat.ne_of_lt (Nat.lt_succ_self _))
    · exact absurd (List.mem_singleton.mp q) (Nat.ne_of_gt lS)
  have z1 : (s.heap.push (freshSet w)).objs.size = s.heap.objs.size + 1 := Heap.size_push ..
  unfold Builtin.«set.__init__» noKeywords Builtin.Frozenset.updateFrom
  generalize ePI : pyIter = PI
  wp_walk
  subst ePI
  refine wpAny_pyIter_list hl1 ?_
  refine wpAny_bind (wpAny_runValue ?_)
  have hno : ∀ b, s.heap.objs.size ≤ b → s.heap.get? b = none := fun b hb => by
    cases e : s.heap.get? b with
    | none => rfl
    | some o => exact absurd (Heap.lt_size e) (Nat.not_lt.mpr hb)
  refine fillN ((Walks.list (by simp [hh]) _ l nI items).toS) s.heap.objs.size nS xs hsz.symm hb (by omega) hv (h0 := s.heap) ?hn hk (items.size - 0) 0 _ rfl (Nat.zero_le _)
    ⟨⟨_, Heap.get?_push_size _ rfl, rfl, rfl⟩, hl1.push _⟩ (fun b o e => Heap.get?_push_of_some _ (Heap.get?_push_of_some _ e)) ⟨[], n0_fresh (P := P) (Heap.get?_push_of_some _ hS), Nat.le_refl _, fun z h => (nomatch h), fun k => by simp⟩ fun s' m mv hA hx mem hm => ?_
  case hn =>
    intro b hb
    rcases List.mem_cons.mp hb with e | e
    · exact hno b (by rw [e]; exact Nat.le_refl _)
    · rw [List.mem_singleton.mp e, z1]
      exact hno _ (Nat.le_succ _)
  show wpAny _ _ _ _ _ _
  refine wpAny_pure ?_
  show wpAny _ _ (ret Value.none) _ _ _
  refine wpAny_pure ⟨rfl, left_ofN (wr := [_]) rfl ?_ ?k1 ?e1 ?e2 ?e3 mv hA hx mem (by omega)⟩
  case k1 => exact fun b o e => Heap.get?_push_of_some _ (Heap.get?_push_of_some _ e)
  case e1 => rfl
  case e2 => rfl
  case e3 => rfl
  intro b q
  rw [List.mem_singleton.mp q]
  show _ ≤ (s.heap.push (freshSet w)).objs.size
  rw [z1]
  exact Nat.le_succ _
end
section
variable {X : Cx}
/-- set(xs), xs a list of nested keys -/
def rSetN (K : PySem.W.Frag) (w : World) : List V → Hp → VK → Prop := fun xs H Q => ∃ (l : Addr) (ss : List KIt), xs = [V.ref l] ∧ SqL K H l (ss.map fun z => V.ref z.1) ∧ ss.length + 1 < 64 ∧ NKs1 K H ss ∧
  ∀ (a : Addr) (L : List KIt), H a = none → (∀ z ∈ L, z ∈ ss) → (L.map (·.2)).Nodup → (∀ k, k ∈ L.map (·.2) ↔ k ∈ ss.map (·.2)) → L.length ≤ ss.length → Q (.ref a) (upd H a (SetO w a L))
theorem vals_refs : ∀ {ss : List KIt} {its : List Value}, Vals (ss.map fun z => V.ref z.1) its → its = ss.map fun z => Value.ref z.1
  | [], _, h => by cases h; rfl
  | z :: ss, _, h => by
    cases h with
    | cons a b =>
      rw [vals_refs b, List.map_cons]
      exact congrArg (· :: _) a
theorem cr_setN (hc : X.calm = true) (hu : X.A.units + 50 < cLine) : CallR X (.type "set") (rSetN X.K X.w) := by
  intro pins s σ H xs us Q I r h
  obtain ⟨l, ss, rfl, hs, hb, oks, q⟩ := h
  obtain ⟨its, rv, hl, _⟩ := I.list hs
  rw [Vals.ref1 r]
  have hn : H s.heap.objs.size = none := I.hok.fresh (Nat.le_refl _)
  refine call_set_gen (Lf := LeftN X.w s ss) (fun A' e u => init_listN (e.trans (I.ok.hd hc)) hl.isList (vals_refs rv) hb (fun z hz => ⟨nk_is I _ _ _ (oks z hz).1 rfl, (oks z hz).2⟩) (by omega)) fun s' L => ?_
  obtain ⟨h', tk, L, rfl, hA, hx, mem, hlen, kp⟩ := L
  have nd := (show (L.map (·.2)).Nodup from by obtain ⟨_, _, _, _, _, _, nd, _⟩ := hA; exact nd)
  exact ⟨.ref s.heap.objs.size, upd H s.heap.objs.size (SetO X.w s.heap.objs.size L), I.laid (t' := tk) kp (Nat.le_refl _) (setO_new hA), rfl, q _ L hn hx nd mem hlen⟩
end
end NSet
/-! a list's extend by a tuple -/
namespace XTU
open PySem PySem.Spec PyProof.Rows L2 PySem.W
set_option autoImplicit false
theorem extend_tup (l : Addr) (items : Array Value) (n : Nat) (b : Addr) (items2 : Array Value) (n2 : Nat) (dd : Option Addr) (sl : Array (Option Value)) (hs0 : ¬(!items.isEmpty && Builtin.List.listTooLong (items.size + items2.size)) = true) (hs1 : items.size ≤ sizeLine) (hs2 : items.size + items2.size ≤ sizeLine + 1) :
    Meets (Builtin.«list.extend» ⟨[.ref l, .ref b], []⟩) (fun _ R s => s.heap.get? l = some { cls := .type "list", dict := none, data := .seq items n, slots := #[] } ∧ s.heap.get? b = some { cls := .type "tuple", dict := dd, data := .seq items2 n2, slots := sl } ∧ R (.ok (.ret Value.none)) { s with heap := s.heap.update l (Obj.mapSeq fun x => x ++ items2), toks := s.toks }) :=
  .of_wp fun prog w A R s h => by
    obtain ⟨hp, g, d, tk, os⟩ := s
    obtain ⟨hl, hb, h⟩ := h
    have f1 := AutoSeq1.idx_int
    have f2 := AutoSeq1.sub_tuple_tuple
    have f3 := AutoSeq1.sub_list_list
    have f4 := AutoSeq1.sub_tuple_list
    have f5 := AutoSeq1.sub_list_tuple
    have hz' : (items ++ items2).size ≤ sizeLine + 1 := by rw [Array.size_append]; exact hs2
    wp_walk using (wpAny_updateSeq hl rfl (hz := hs1) (_hz' := hz')), AutoSeq1.wpAny_loadPart' hl, AutoSeq1.wpAny_loadPart' hb
    exact ⟨_, rfl, h⟩
section
variable {X : Cx}
def rExtendT (K : PySem.W.Frag) : V → List V → Hp → VK → Prop := fun x vs H Q => ∃ l b xs zs, x = .ref l ∧ vs = [.ref b] ∧ H l = some (.lst xs) ∧ SqT K H b zs ∧ xs.length + zs.length ≤ sizeLine ∧ Q .non (upd H l (.lst (xs ++ zs)))
theorem mt_extendT : MtM X "list.extend" (rExtendT X.K) := by
  intro pins s σ H x vs v us Q I rx rv h
  obtain ⟨l, b, xs, zs, rfl, rfl, hH, hB, hz, q⟩ := h
  cases rx
  obtain ⟨u, rfl, ru⟩ := rv.one
  cases ru
  obtain ⟨z, its, n, r, hl, e⟩ := I.lstM hH
  obtain ⟨its2, r2, ⟨o2, e2, c2, n2, d2⟩, _⟩ := I.tuple hB
  obtain ⟨c, dd, dt, sl⟩ := o2
  simp only at c2 d2
  subst c2
  subst d2
  have hl2 := r2.length
  have hsz : its.toArray.size + its2.toArray.size ≤ sizeLine := by rw [List.size_toArray, List.size_toArray]; omega
  have hlong : ¬ (!its.toArray.isEmpty && Builtin.List.listTooLong (its.toArray.size + its2.toArray.size)) = true := by
    rw [notLongL hsz, Bool.and_false]
    exact Bool.false_ne_true
  refine call_meets F.slot_list_extend ⟨_, e, rfl⟩ F.entry_list_extend (F.args_list_extend_2 _ _)
    (extend_tup l its.toArray n b its2.toArray n2 dd sl hlong (by rw [List.size_toArray]; omega) (by omega)) ⟨e, e2, ?_⟩
  refine ⟨.non, _, I.lset (its' := its ++ its2) hH e (by simp) (r.append r2) ?_, rfl, q⟩
  rw [List.length_append]
  omega
end
end XTU
/-! for k in f(x), f(x) a dict that stays as it is from here on -/
namespace PK
open PySem PySem.Spec PyProof.Rows L2
section
variable {X : Cx} {tg e : Expr} {td : TE}
def tLocked (td : TE) : TE := fun σ H Q => td σ H fun x H1 => ∃ (d : Addr) (kvs : List (Key × V)), x = .ref d ∧ H1 d = some (.dK kvs) ∧ ∀ od, Q (.ref d) (upd H1 d (.frz od (.dK kvs)))
theorem pe_locked (he : PE X e td) : PE X e (tLocked td) := by
  refine ⟨fun pins s σ H Q I h => ?_⟩
  refine thn (he.run pins s σ H _ I h) fun u s1 ⟨x, H1, I1, r, d, kvs, ex, hd, q⟩ => ?_
  obtain ⟨od, I2⟩ := I1.lock hd True.intro
  subst ex
  exact ⟨.ref d, _, I2, r, q od⟩
theorem pi_keysL (he : PE X e td) : PI X tg e (iKeys (tLocked td)) := pi_keys (pe_locked he)
end
/-- name = {k: v for ..} on one line, the name a local -/
theorem ps_setDc {X : Cx} {i : Nat} {y : Str} {py : Pos} {kx vx tgt it : Expr} {ifs : List Expr} {scope : Scope} {own : List (Str × Nat)} {pos spos : Pos} {wi : TI} {g : TG} {tt : TT} {tk tv : TE} (calm : X.calm = true) (nd : X.N.Nodup) (atY : X.N[i]? = some y) (lcl : X.env.scope.names.lookup y = some .local)
    (sw : swapsWith (.DictComp kx vx [⟨tgt, it, ifs, 0⟩] scope pos) (some (.Name y py)) spos.line X.env = pure true) (hit : PI X tgt it wi) (blk : BlkOk X.N X.env.scope scope own)
    (h1 : ∀ (s : Shared) (H : Hp) (C : Addr) (cl : List (Str × Addr)) (fp : List Addr), PG (X.blk s H scope (compEnvC scope cl C X.env) fp) tgt g) (h2 : ∀ (s : Shared) (H : Hp) (C : Addr) (cl : List (Str × Addr)) (fp : List Addr), PTs (X.blk s H scope (compEnvC scope cl C X.env) fp) ifs tt)
    (h3 : ∀ (s : Shared) (H : Hp) (C : Addr) (cl : List (Str × Addr)) (fp : List Addr), PE (X.blk s H scope (compEnvC scope cl C X.env) fp) kx tk)
    (h4 : ∀ (s : Shared) (H : Hp) (C : Addr) (cl : List (Str × Addr)) (fp : List Addr), PE (X.blk s H scope (compEnvC scope cl C X.env) fp) vx tv) (fld : ∀ x, foldedSetIterable it X.env x = pure x := by intro _; rfl) :
    PS X (.Assign [.Name y py] (.DictComp kx vx [⟨tgt, it, ifs, 0⟩] scope pos) spos) (tAsg (tDc wi g tt tk tv (own.map (·.2))) (gName i)) := by
  refine ⟨fun pins s σ H Dn I h => ?_⟩
  rw [exec_Assign_Name_used _ _ _ _ sw]
  refine wpAny_bind (wpAny_standAt (wpAny_bind ?_))
  show wpAny _ X.A (do let _ ← comprehension (.DictComp kx vx [⟨tgt, it, ifs, 0⟩] scope pos) scope X.env (firstIterPos [⟨tgt, it, ifs, 0⟩] pos) newDict false (eval it X.env) (some (assign (.Name y py) X.env))) _ _ s
  have want : tDc wi g tt tk tv (own.map (·.2)) σ H (fun x H1 => gName i x σ H1 Dn.nx) := h
  refine wpAny_bind (thn (dc_core (Qf := fun _ t => SP X pins Dn .next t) calm nd I hit blk h1 h2 h3 h4 fld want fun M C t m H' J q ns fp => ?_) fun _ t hq => wpAny_pure (wpAny_pure hq))
  show wpAny _ _ (assign (.Name y py) X.env (.ref M)) _ _ _
  refine wpAny_assign_Name (store_ok2 (v := V.ref M) J nd atY (.inl lcl) rfl (fun t2 J2 ⟨a, sb, ha⟩ => ?_) (.inr lcl))
  obtain ⟨f0, f1, f2, f3, f4, f5⟩ := fp
  have neC : C ≠ a := ha.elim (fun z => by rw [z]; exact f1) fun z e => f4 y a z e.symm
  refine ⟨m, ns.sameBut sb neC, fun h5 sb5 => ?_⟩
  exact ⟨_, H', J2.turned (t' := t2.toks) (fun b o hb e => (sb5.2 b hb).trans e) f0 f1 f3 f4 f5, q⟩
theorem sw_trueD {kx vx : Expr} {gs : List Comprehension} {scope : Scope} {pos py : Pos} {y : Str} {l : Nat} {env : Env} (hk : env.scope.kind = .function) (hy : env.scope.names.lookup y = some .local) (hl : (py.line == pos.line) = true)
    (no : (scope.names.any fun (n, k) => n == y && (k == .local || k == .cell)) = false) : swapsWith (.DictComp kx vx gs scope pos) (some (.Name y py)) l env = pure true := by
  have k1 : env.kindOf y = some .local := hy
  have k2 : env.blockKind = .function := by unfold Env.blockKind; rw [hk]; rfl
  unfold swapsWith
  simp only [k1, k2, no, Expr.pos, hl]
  rfl
end PK
/-! zip(list, tuple) -/
namespace ZL
open PySem PySem.Spec PyProof.Rows L2
/-- the items of a list and of a tuple, side by side, in new pairs -/
def ItLT (K : PySem.W.Frag) (a b : Addr) : It :=
  ⟨fun i H => ∃ (xs ys : List V) (x y : V), SqL K H a xs ∧ SqT K H b ys ∧ xs[i]? = some x ∧ ys[i]? = some y,
    fun i H v H' => ∃ (T : Addr) (x y : V), v = .ref T ∧ H T = none ∧ H' = upd H T (.tup [x, y]) ∧ (∀ xs, SqL K H a xs → xs[i]? = some x) ∧ ∀ ys, SqT K H b ys → ys[i]? = some y,
    fun i H => ∃ xs ys : List V, SqL K H a xs ∧ SqT K H b ys ∧ i = min xs.length ys.length⟩
theorem turn_zipLT {P : Program} {w : World} {K : PySem.W.Frag} {elts : List Expr} {kk : Nat} {tpos : Pos} {z TI TO i1 i2 a b : Addr} (S : ZipSep2 z TI TO i1 i2 [i1, a] [i2, b]) (na : a ≠ i1) (nb : b ≠ i2) :
    Turn P w K (.Tuple elts kk tpos) (ItLT K a b) [z, TI, TO, i1, i2] z (fun i h => IsZip h z TI TO .none ∧ IsTupOf2 h TI (.ref i1) (.ref i2) ∧ (∃ a b, IsTupOf2 h TO a b) ∧ h.IsListIter i1 a i ∧ h.IsTupleIter i2 b i) where
  mem := by simp
  obj := fun i h st c hc => by
    obtain ⟨hz, hTI, ⟨a, b, hTO⟩, ⟨o1, e1, _, d1⟩, ⟨o2, e2, _, d2⟩⟩ := st
    have e' : c = z ∨ c = TI ∨ c = TO ∨ c = i1 ∨ c = i2 := by simpa using hc
    rcases e' with q | q | q | q | q
    · rw [q]; exact ⟨_, hz, fun v q => nomatch q⟩
    · rw [q]; exact ⟨_, hTI, fun v q => nomatch q⟩
    · rw [q]; exact ⟨_, hTO, fun v q => nomatch q⟩
    · rw [q]; exact ⟨o1, e1, fun v q => by rw [d1] at q; cases q⟩
    · rw [q]; exact ⟨o2, e2, fun v q => by rw [d2] at q; cases q⟩
  keep := fun i h h' st k => by
    obtain ⟨hz, hTI, ⟨a, b, hTO⟩, h1, h2⟩ := st
    exact ⟨k z (by simp) _ hz, k TI (by simp) _ hTI, ⟨a, b, k TO (by simp) _ hTO⟩, h1.at (fun o q => k i1 (by simp) o q), h2.at fun o q => k i2 (by simp) o q⟩
  item := by
    intro X hP hw hK hc i pins s σ H E I hf st hg
    subst hP hw hK
    obtain ⟨hz, hTI, ⟨a0, b0, hTO⟩, h1, h2⟩ := st
    obtain ⟨xs, ys, x, y, hqx, hqy, hx, hy⟩ := hg
    obtain ⟨its1, rv1, p1, _⟩ := I.list hqx
    obtain ⟨u1, hu1, ru1⟩ := rv1.get hx
    have hl1 : i < its1.toArray.size := by
      rw [List.size_toArray]
      exact (List.getElem?_eq_some_iff.mp hu1).1
    obtain ⟨its2, rv2, p2, _⟩ := I.tuple hqy
    obtain ⟨u2, hu2, ru2⟩ := rv2.get hy
    have hzl : z < s.heap.objs.size := Heap.lt_size hz
    have hl2 : i < its2.toArray.size := by
      rw [List.size_toArray]
      exact (List.getElem?_eq_some_iff.mp hu2).1
    refine wpAny_pyNext_zipD2_item S (Draws.list (A := X.A.in1) (I.ok.hd hc) i1 a na its1.toArray) (Draws.tuple (A := X.A.in1) (I.ok.hd hc) i2 b nb its2.toArray) hz hTI hTO ⟨h1, p1.isList⟩ ⟨h2, p2⟩ hl1 hl2 fun v1 v2 h' tk q1 q2 z' TO' h1' h2' hT hsz hk => ?_
    have ev1 : v1 = u1 := by
      have e : its1.toArray[i]? = some u1 := by simpa using hu1
      rw [e] at q1
      exact (Option.some.inj q1).symm
    subst ev1
    have ev : v2 = u2 := by
      have e : its2.toArray[i]? = some u2 := by simpa using hu2
      rw [e] at q2
      exact (Option.some.inj q2).symm
    subst ev
    refine ⟨_, rfl, wpAny_letOwnedTupleGo_zip (s := { s with heap := h', toks := tk }) z' fun h'' z'' sb => ?_⟩
    have hT2 : h''.get? s.heap.objs.size = some { cls := .type "tuple", data := .seq #[v1, v2] } := (sb.2 _ (Nat.ne_of_gt hzl)).trans hT
    have new : ObjOk X.prog X.w (upd H s.heap.objs.size (.tup [x, y])) h'' s.heap.objs.size (.tup [x, y]) :=
      ⟨by show 2 ≤ sizeLine; decide, [v1, v2], .cons ru1 (.cons ru2 .nil), ⟨_, hT2, rfl, _, rfl⟩⟩
    have I1 : Inv X pins σ (upd H s.heap.objs.size (.tup [x, y])) { s with heap := h'', toks := tk } :=
      I.turnedNew (t' := tk) (ch := [z, TI, TO, i1, i2]) (fun c o hb q => (sb.2 c (fun q' => hb (by simp [q']))).trans (hk c o (fun q' => hb (by simp [q'])) (fun q' => hb (by simp [q'])) (fun q' => hb (by simp [q'])) (fun q' => hb (by simp [q'])) q)) hf (Nat.le_refl _) new
    refine ⟨.ref s.heap.objs.size, _, I1, rfl, ⟨_, x, y, rfl, I.hok.fresh (Nat.le_refl _), rfl, (fun l hl => by rw [I.list_inj hl hqx]; exact hx), fun l hl => by rw [I.tuple_inj hl hqy]; exact hy⟩, ⟨z'', ?_, ⟨v1, v2, ?_⟩, h1'.1.at (fun o q => (sb.2 _ S.zi1.symm).trans q), h2'.1.at fun o q => (sb.2 _ S.zi2.symm).trans q⟩, fun b hb => ?_⟩
    · exact (sb.2 _ S.TIz).trans (hk _ _ S.TIz S.TITO S.TIi1 S.TIi2 hTI)
    · exact (sb.2 _ S.TOz).trans TO'
    · have hlt : b < s.heap.objs.size := by
        have e' : b = z ∨ b = TI ∨ b = TO ∨ b = i1 ∨ b = i2 := by simpa using hb
        rcases e' with q | q | q | q | q
        · rw [q]; exact hzl
        · rw [q]; exact Heap.lt_size hTI
        · rw [q]; exact Heap.lt_size hTO
        · rw [q]; obtain ⟨_, e1, _⟩ := h1; exact Heap.lt_size e1
        · rw [q]; obtain ⟨_, e2, _⟩ := h2; exact Heap.lt_size e2
      rw [upd_ne (Nat.ne_of_lt hlt)]
      exact (hf b hb).1
  done := by
    intro X hP hw hK hc i pins s σ H E I hf st hg
    subst hP hw hK
    obtain ⟨hz, hTI, ⟨a0, b0, hTO⟩, h1, h2⟩ := st
    obtain ⟨xs, ys, hqx, hqy, hg'⟩ := hg
    obtain ⟨its1, rv1, p1, _⟩ := I.list hqx
    have l1 : its1.toArray.size = xs.length := by rw [List.size_toArray]; exact rv1.length.symm
    obtain ⟨its2, rv2, p2, _⟩ := I.tuple hqy
    have l2 : its2.toArray.size = ys.length := by rw [List.size_toArray]; exact rv2.length.symm
    exact wpAny_pyNext_zipD2_end S (Draws.list (A := X.A.in1) (I.ok.hd hc) i1 a na its1.toArray) (Draws.tuple (A := X.A.in1) (I.ok.hd hc) i2 b nb its2.toArray) hz hTI hTO ⟨h1, p1.isList⟩ ⟨h2, p2⟩ (by omega) (by omega) (by omega) fun h' tk hk => ⟨rfl, I.turnedL (t' := tk) (ch := [z, TI, TO, i1, i2]) (fun c o hb q =>
      hk c o (fun q' => hb (by simp [q'])) (fun q' => hb (by simp [q'])) (fun q' => hb (by simp [q'])) (fun q' => hb (by simp [q'])) q) hf⟩
  self := fun A i s Q E st h => wpAny_pyIter_zip st.1 h
theorem sep_newL {n a b : Nat} (ha : a < n) (hb : b < n) : ZipSep2 (n + 4) (n + 2) (n + 3) n (n + 1) [n, a] [n + 1, b] := by
  have a0 : ¬ n = b := by omega
  have a1 : ¬ n + 1 = b := by omega
  have a2 : ¬ n + 2 = b := by omega
  have a3 : ¬ n + 3 = b := by omega
  have a4 : ¬ n + 4 = b := by omega
  have c0 : ¬ n = a := by omega
  have c1 : ¬ n + 1 = a := by omega
  have c2 : ¬ n + 2 = a := by omega
  have c3 : ¬ n + 3 = a := by omega
  have c4 : ¬ n + 4 = a := by omega
  constructor <;> simp [a0, a1, a2, a3, a4, c0, c1, c2, c3, c4] <;> omega
def iZipLT (K : PySem.W.Frag) (ta : TA) : TI := fun σ H R => ta σ H fun vs H1 => ∃ (a b : Addr) (xs ys : List V), vs = [.ref a, .ref b] ∧ SqL K H1 a xs ∧ SqT K H1 b ys ∧ R (ItLT K a b) H1
theorem pi_zipLT {X : Cx} {e e2 : Expr} {ta : TA} {p pos tpos : Pos} {elts : List Expr} {kk : Nat} (hg : Gl X "zip") (hm : X.mg "zip" = none) (ha : PA X [e, e2] ta)
    (hs : starEach [e, e2] X.env = (false, eval e X.env) :: starEach [e2] X.env := by rfl) (hpl : (backTo pos (starEach [e2] X.env)).any (·.1) = false := by rfl) :
    PI X (.Tuple elts kk tpos) (.Call (.Name "zip" p) [e, e2] [] pos) (iZipLT X.K ta) := by
  refine ⟨fun pins s σ H R I h => ?_⟩
  refine Call_ (ld_blt I hg hm PyProof.Rows.boot_zip (PyProof.Rows.callWith_type1 (thn (ha.run pos pins s σ H _ I h) fun us s1 ⟨vs, H1, I1, r1, q1⟩ => ?_) hs hpl))
  obtain ⟨a, b, xs, ys, ex, hqx, hqy, q⟩ := q1
  subst ex
  cases r1 with
  | cons r rr =>
    cases rr with
    | cons r' rr =>
      cases rr
      cases r
      cases r'
      obtain ⟨its1, rv1, p1, _⟩ := I1.list hqx
      obtain ⟨its2, rv2, p2, _⟩ := I1.tuple hqy
      have al : a < s1.heap.objs.size := by
        obtain ⟨o, ho, _⟩ := id p1.isList
        exact Heap.lt_size ho
      have bl : b < s1.heap.objs.size := by
        obtain ⟨o, ho, _⟩ := id p2
        exact Heap.lt_size ho
      refine zip_begins2 (begins_list a its1.toArray) (begins_tuple b its2.toArray) p1.isList p2 fun h' hz hTI hTO h1 h2 hsz hk => wpAny_pyIter_zip hz ?_
      have I2 : Inv X pins σ H1 { s1 with heap := h' } := I1.kept (t' := s1.toks) hk
      refine ⟨s1.heap.objs.size + 4, [s1.heap.objs.size + 4, s1.heap.objs.size + 2, s1.heap.objs.size + 3, s1.heap.objs.size, s1.heap.objs.size + 1], _, _, H1, rfl, I2, turn_zipLT (sep_newL al bl) (Nat.ne_of_lt al) (Nat.ne_of_lt (Nat.lt_succ_of_lt bl)), ⟨hz, hTI, ⟨_, _, hTO⟩, ⟨_, h1, rfl, rfl⟩, ⟨_, h2, rfl, rfl⟩⟩, fun c hcm => ?_, q⟩
      have e' : c = s1.heap.objs.size + 4 ∨ c = s1.heap.objs.size + 2 ∨ c = s1.heap.objs.size + 3 ∨ c = s1.heap.objs.size ∨ c = s1.heap.objs.size + 1 := by simpa using hcm
      have hle : s1.heap.objs.size ≤ c := by
        rcases e' with z | z | z | z | z
        · rw [z]; exact Nat.le_add_right _ _
        · rw [z]; exact Nat.le_add_right _ _
        · rw [z]; exact Nat.le_add_right _ _
        · rw [z]; exact Nat.le_refl _
        · rw [z]; exact Nat.le_add_right _ _
      exact I1.fpOk hle (I1.hok.fresh hle)
theorem walk_zipLT {K : PySem.W.Frag} {a b : Addr} {xs ys : List V} {n : Nat} (hn : n = min xs.length ys.length) : Walk (ItLT K a b) n (fun H => SqL K H a xs ∧ SqT K H b ys) (YPair (fun i => xs[i]?) (fun i => ys[i]?)) := by
  subst hn
  refine ⟨fun i _ hi q => ⟨xs, ys, xs[i]'(by omega), ys[i]'(by omega), q.1, q.2, List.getElem?_eq_getElem _, List.getElem?_eq_getElem _⟩, fun _ q => ⟨xs, ys, q.1, q.2, rfl⟩, fun i H v H' _ q y => ?_⟩
  obtain ⟨T, x, z, h1, h2, h3, h4, h5⟩ := y
  exact ⟨T, x, z, h1, h2, h3, h4 xs q.1, h5 ys q.2⟩
end ZL
/-! zip(list, list) -/
namespace ZLL
open PySem PySem.Spec PyProof.Rows L2
/-- the items of two lists, side by side, in new pairs -/
def ItLL (K : PySem.W.Frag) (a b : Addr) : It :=
  ⟨fun i H => ∃ (xs ys : List V) (x y : V), SqL K H a xs ∧ SqL K H b ys ∧ xs[i]? = some x ∧ ys[i]? = some y,
    fun i H v H' => ∃ (T : Addr) (x y : V), v = .ref T ∧ H T = none ∧ H' = upd H T (.tup [x, y]) ∧ (∀ xs, SqL K H a xs → xs[i]? = some x) ∧ ∀ ys, SqL K H b ys → ys[i]? = some y,
    fun i H => ∃ xs ys : List V, SqL K H a xs ∧ SqL K H b ys ∧ i = min xs.length ys.length⟩
theorem turn_zipLL {P : Program} {w : World} {K : PySem.W.Frag} {elts : List Expr} {kk : Nat} {tpos : Pos} {z TI TO i1 i2 a b : Addr} (S : ZipSep2 z TI TO i1 i2 [i1, a] [i2, b]) (na : a ≠ i1) (nb : b ≠ i2) :
    Turn P w K (.Tuple elts kk tpos) (ItLL K a b) [z, TI, TO, i1, i2] z (fun i h => IsZip h z TI TO .none ∧ IsTupOf2 h TI (.ref i1) (.ref i2) ∧ (∃ a b, IsTupOf2 h TO a b) ∧ h.IsListIter i1 a i ∧ h.IsListIter i2 b i) where
  mem := by simp
  obj := fun i h st c hc => by
    obtain ⟨hz, hTI, ⟨a, b, hTO⟩, ⟨o1, e1, _, d1⟩, ⟨o2, e2, _, d2⟩⟩ := st
    have e' : c = z ∨ c = TI ∨ c = TO ∨ c = i1 ∨ c = i2 := by simpa using hc
    rcases e' with q | q | q | q | q
    · rw [q]; exact ⟨_, hz, fun v q => nomatch q⟩
    · rw [q]; exact ⟨_, hTI, fun v q => nomatch q⟩
    · rw [q]; exact ⟨_, hTO, fun v q => nomatch q⟩
    · rw [q]; exact ⟨o1, e1, fun v q => by rw [d1] at q; cases q⟩
    · rw [q]; exact ⟨o2, e2, fun v q => by rw [d2] at q; cases q⟩
  keep := fun i h h' st k => by
    obtain ⟨hz, hTI, ⟨a, b, hTO⟩, h1, h2⟩ := st
    exact ⟨k z (by simp) _ hz, k TI (by simp) _ hTI, ⟨a, b, k TO (by simp) _ hTO⟩, h1.at (fun o q => k i1 (by simp) o q), h2.at fun o q => k i2 (by simp) o q⟩
  item := by
    intro X hP hw hK hc i pins s σ H E I hf st hg
    subst hP hw hK
    obtain ⟨hz, hTI, ⟨a0, b0, hTO⟩, h1, h2⟩ := st
    obtain ⟨xs, ys, x, y, hqx, hqy, hx, hy⟩ := hg
    obtain ⟨its1, rv1, p1, _⟩ := I.list hqx
    obtain ⟨u1, hu1, ru1⟩ := rv1.get hx
    have hl1 : i < its1.toArray.size := by
      rw [List.size_toArray]
      exact (List.getElem?_eq_some_iff.mp hu1).1
    obtain ⟨its2, rv2, p2, _⟩ := I.list hqy
    obtain ⟨u2, hu2, ru2⟩ := rv2.get hy
    have hzl : z < s.heap.objs.size := Heap.lt_size hz
    have hl2 : i < its2.toArray.size := by
      rw [List.size_toArray]
      exact (List.getElem?_eq_some_iff.mp hu2).1
    refine wpAny_pyNext_zipD2_item S (Draws.list (A := X.A.in1) (I.ok.hd hc) i1 a na its1.toArray) (Draws.list (A := X.A.in1) (I.ok.hd hc) i2 b nb its2.toArray) hz hTI hTO ⟨h1, p1.isList⟩ ⟨h2, p2.isList⟩ hl1 hl2 fun v1 v2 h' tk q1 q2 z' TO' h1' h2' hT hsz hk => ?_
    have ev1 : v1 = u1 := by
      have e : its1.toArray[i]? = some u1 := by simpa using hu1
      rw [e] at q1
      exact (Option.some.inj q1).symm
    subst ev1
    have ev : v2 = u2 := by
      have e : its2.toArray[i]? = some u2 := by simpa using hu2
      rw [e] at q2
      exact (Option.some.inj q2).symm
    subst ev
    refine ⟨_, rfl, wpAny_letOwnedTupleGo_zip (s := { s with heap := h', toks := tk }) z' fun h'' z'' sb => ?_⟩
    have hT2 : h''.get? s.heap.objs.size = some { cls := .type "tuple", data := .seq #[v1, v2] } := (sb.2 _ (Nat.ne_of_gt hzl)).trans hT
    have new : ObjOk X.prog X.w (upd H s.heap.objs.size (.tup [x, y])) h'' s.heap.objs.size (.tup [x, y]) :=
      ⟨by show 2 ≤ sizeLine; decide, [v1, v2], .cons ru1 (.cons ru2 .nil), ⟨_, hT2, rfl, _, rfl⟩⟩
    have I1 : Inv X pins σ (upd H s.heap.objs.size (.tup [x, y])) { s with heap := h'', toks := tk } :=
      I.turnedNew (t' := tk) (ch := [z, TI, TO, i1, i2]) (fun c o hb q => (sb.2 c (fun q' => hb (by simp [q']))).trans (hk c o (fun q' => hb (by simp [q'])) (fun q' => hb (by simp [q'])) (fun q' => hb (by simp [q'])) (fun q' => hb (by simp [q'])) q)) hf (Nat.le_refl _) new
    refine ⟨.ref s.heap.objs.size, _, I1, rfl, ⟨_, x, y, rfl, I.hok.fresh (Nat.le_refl _), rfl, (fun l hl => by rw [I.list_inj hl hqx]; exact hx), fun l hl => by rw [I.list_inj hl hqy]; exact hy⟩, ⟨z'', ?_, ⟨v1, v2, ?_⟩, h1'.1.at (fun o q => (sb.2 _ S.zi1.symm).trans q), h2'.1.at fun o q => (sb.2 _ S.zi2.symm).trans q⟩, fun b hb => ?_⟩
    · exact (sb.2 _ S.TIz).trans (hk _ _ S.TIz S.TITO S.TIi1 S.TIi2 hTI)
    · exact (sb.2 _ S.TOz).trans TO'
    · have hlt : b < s.heap.objs.size := by
        have e' : b = z ∨ b = TI ∨ b = TO ∨ b = i1 ∨ b = i2 := by simpa using hb
        rcases e' with q | q | q | q | q
        · rw [q]; exact hzl
        · rw [q]; exact Heap.lt_size hTI
        · rw [q]; exact Heap.lt_size hTO
        · rw [q]; obtain ⟨_, e1, _⟩ := h1; exact Heap.lt_size e1
        · rw [q]; obtain ⟨_, e2, _⟩ := h2; exact Heap.lt_size e2
      rw [upd_ne (Nat.ne_of_lt hlt)]
      exact (hf b hb).1
  done := by
    intro X hP hw hK hc i pins s σ H E I hf st hg
    subst hP hw hK
    obtain ⟨hz, hTI, ⟨a0, b0, hTO⟩, h1, h2⟩ := st
    obtain ⟨xs, ys, hqx, hqy, hg'⟩ := hg
    obtain ⟨its1, rv1, p1, _⟩ := I.list hqx
    have l1 : its1.toArray.size = xs.length := by rw [List.size_toArray]; exact rv1.length.symm
    obtain ⟨its2, rv2, p2, _⟩ := I.list hqy
    have l2 : its2.toArray.size = ys.length := by rw [List.size_toArray]; exact rv2.length.symm
    exact wpAny_pyNext_zipD2_end S (Draws.list (A := X.A.in1) (I.ok.hd hc) i1 a na its1.toArray) (Draws.list (A := X.A.in1) (I.ok.hd hc) i2 b nb its2.toArray) hz hTI hTO ⟨h1, p1.isList⟩ ⟨h2, p2.isList⟩ (by omega) (by omega) (by omega) fun h' tk hk => ⟨rfl, I.turnedL (t' := tk) (ch := [z, TI, TO, i1, i2]) (fun c o hb q =>
      hk c o (fun q' => hb (by simp [q'])) (fun q' => hb (by simp [q'])) (fun q' => hb (by simp [q'])) (fun q' => hb (by simp [q'])) q) hf⟩
  self := fun A i s Q E st h => wpAny_pyIter_zip st.1 h
def iZipLL (K : PySem.W.Frag) (ta : TA) : TI := fun σ H R => ta σ H fun vs H1 => ∃ (a b : Addr) (xs ys : List V), vs = [.ref a, .ref b] ∧ SqL K H1 a xs ∧ SqL K H1 b ys ∧ R (ItLL K a b) H1
theorem pi_zipLL {X : Cx} {e e2 : Expr} {ta : TA} {p pos tpos : Pos} {elts : List Expr} {kk : Nat} (hg : Gl X "zip") (hm : X.mg "zip" = none) (ha : PA X [e, e2] ta)
    (hs : starEach [e, e2] X.env = (false, eval e X.env) :: starEach [e2] X.env := by rfl) (hpl : (backTo pos (starEach [e2] X.env)).any (·.1) = false := by rfl) :
    PI X (.Tuple elts kk tpos) (.Call (.Name "zip" p) [e, e2] [] pos) (iZipLL X.K ta) := by
  refine ⟨fun pins s σ H R I h => ?_⟩
  refine Call_ (ld_blt I hg hm PyProof.Rows.boot_zip (PyProof.Rows.callWith_type1 (thn (ha.run pos pins s σ H _ I h) fun us s1 ⟨vs, H1, I1, r1, q1⟩ => ?_) hs hpl))
  obtain ⟨a, b, xs, ys, ex, hqx, hqy, q⟩ := q1
  subst ex
  cases r1 with
  | cons r rr =>
    cases rr with
    | cons r' rr =>
      cases rr
      cases r
      cases r'
      obtain ⟨its1, rv1, p1, _⟩ := I1.list hqx
      obtain ⟨its2, rv2, p2, _⟩ := I1.list hqy
      have al : a < s1.heap.objs.size := by
        obtain ⟨o, ho, _⟩ := id p1.isList
        exact Heap.lt_size ho
      have bl : b < s1.heap.objs.size := by
        obtain ⟨o, ho, _⟩ := id p2.isList
        exact Heap.lt_size ho
      refine zip_begins2 (begins_list a its1.toArray) (begins_list b its2.toArray) p1.isList p2.isList fun h' hz hTI hTO h1 h2 hsz hk => wpAny_pyIter_zip hz ?_
      have I2 : Inv X pins σ H1 { s1 with heap := h' } := I1.kept (t' := s1.toks) hk
      refine ⟨s1.heap.objs.size + 4, [s1.heap.objs.size + 4, s1.heap.objs.size + 2, s1.heap.objs.size + 3, s1.heap.objs.size, s1.heap.objs.size + 1], _, _, H1, rfl, I2, turn_zipLL (ZL.sep_newL al bl) (Nat.ne_of_lt al) (Nat.ne_of_lt (Nat.lt_succ_of_lt bl)), ⟨hz, hTI, ⟨_, _, hTO⟩, ⟨_, h1, rfl, rfl⟩, ⟨_, h2, rfl, rfl⟩⟩, fun c hcm => ?_, q⟩
      have e' : c = s1.heap.objs.size + 4 ∨ c = s1.heap.objs.size + 2 ∨ c = s1.heap.objs.size + 3 ∨ c = s1.heap.objs.size ∨ c = s1.heap.objs.size + 1 := by simpa using hcm
      have hle : s1.heap.objs.size ≤ c := by
        rcases e' with z | z | z | z | z
        · rw [z]; exact Nat.le_add_right _ _
        · rw [z]; exact Nat.le_add_right _ _
        · rw [z]; exact Nat.le_add_right _ _
        · rw [z]; exact Nat.le_refl _
        · rw [z]; exact Nat.le_add_right _ _
      exact I1.fpOk hle (I1.hok.fresh hle)
theorem walk_zipLL {K : PySem.W.Frag} {a b : Addr} {xs ys : List V} {n : Nat} (hn : n = min xs.length ys.length) : Walk (ItLL K a b) n (fun H => SqL K H a xs ∧ SqL K H b ys) (YPair (fun i => xs[i]?) (fun i => ys[i]?)) := by
  subst hn
  refine ⟨fun i _ hi q => ⟨xs, ys, xs[i]'(by omega), ys[i]'(by omega), q.1, q.2, List.getElem?_eq_getElem _, List.getElem?_eq_getElem _⟩, fun _ q => ⟨xs, ys, q.1, q.2, rfl⟩, fun i H v H' _ q y => ?_⟩
  obtain ⟨T, x, z, h1, h2, h3, h4, h5⟩ := y
  exact ⟨T, x, z, h1, h2, h3, h4 xs q.1, h5 ys q.2⟩
end ZLL
/-! an own error whose __init__ begins with super().__init__(..) -/
namespace EX
open PySem PySem.Spec PyProof.Rows L2 NdefX
set_option autoImplicit false
/-- what the written part says of the class, its __init__ and the cell of its class -/
structure SupC (P : Program) (K : PySem.W.Frag) (C fI cc : Addr) (F : NF) : Prop where
  oex : OexC K C
  cl : F.cl = [(("__class__" : Str), cc)]
  cd : PySem.W.codeIn K (.ref F.c) F.qual = true
  code : ∃ (ccl : Value) (cdd : Option Addr) (vs : Array Value) (ccs : Array (Option Value)) (file : Str) (tf : Tok), K.lookup F.c = some (⟨ccl, cdd, .fields vs, ccs⟩ : Obj) ∧ vs[2]? = some (Value.str file tf) ∧ ((P.main.file : Str) == file) = true
  cell : ∃ (cl : Value) (cld : Option Addr) (csl : Array (Option Value)), K.lookup cc = some (⟨cl, cld, .cell (some (.ref C)), csl⟩ : Obj)
  top : (P.main.scope.names.lookup ("super" : Str)).isSome = false
  opq : PySem.W.nsIn K cStatics "thirdparty.any" = some none
  ini : PySem.W.ks_superIn K C C "__init__" = some (some (.builtin "ValueError.__init__"))
  ve : PySem.W.subIn K (.ref C) (.type "ValueError") = some true
  own : PySem.W.mroIn K C (.ref C) = some true
section
variable {X : Cx} {pins : List (Addr × Obj)} {σ : L2.St} {H : Hp} {s : Shared}
/-- the bound __init__ is called -/
theorem call_mw {A : Around} {E : Value → Shared → Prop} {a C u : Addr} {us : List Value} {Q : Value → Shared → Prop} (T : OexC X.K C) (I : Inv X pins σ H s) (e : H a = some (exo a C none)) (hu : s.heap.get? u = some (PySem.W.kxs_mw "ValueError.__init__" a)) (hl : us.length ≤ sizeLine) (h : ∀ s', Inv X pins σ H s' → Q .none s') :
    wpAny (model X.prog X.w) A (call (.ref u) us) Q E s := by
  obtain ⟨nm, q, N, bs, bm, sn, sub, ab, col, dd, k0, k1, k2, k3, k5, hC, hbm⟩ := T.cls
  have hC' := I.kIn _ _ hC
  obtain ⟨t1, ho⟩ := exo_at I.hok e
  obtain ⟨hp, g, d, t, os⟩ := s
  refine wpAny_call (codeAny_of_tree ?_)
  show wpAny _ A.in1 (callAny (.ref u) ⟨us, []⟩) _ _ _
  simp only [callAny]
  refine wpAny_bind (wpAny_load hu ?_)
  simp only [PySem.W.kxs_mw, show (Value.type "method-wrapper" == Value.type "method" || Value.type "method-wrapper" == Value.type "builtin_function_or_method" || Value.type "method-wrapper" == Value.type "method-wrapper") = true by decide, if_true]
  refine PySem.W.KFB.if_so (by decide) ?_
  refine wpAny_bind (PySem.W.check_bound_init F.excBase_ValueError.toExcCallFacts hC' ho rfl ?_)
  refine wpAny_bind (wpAny_pure (wpAny_pure ?_))
  refine ⟨plainId_quiet F.excBase_ValueError.init.plain _, codeAny_builtin F.excBase_ValueError.initEntry ?_⟩
  refine PySem.W.exc_init_tree (cls := .ref C) (t0 := t1) (dv := none) (c2 := .none) (c3 := .none) (b4 := .bool false) ho hl fun h' k hx _ => ?_
  have J := I.write (t' := t) (x := a) (e := a) (o := exo a C none) (by rw [e]; exact True.intro) (.inl rfl) k ⟨_, hx⟩ (exo_ok hx)
  have eu : upd H a (exo a C none) = H := by
    funext b
    by_cases hb : b = a
    · rw [hb, upd_same, e]
    · rw [upd_ne hb]
  rw [eu] at J
  exact h _ J
/-- THE RULE: an __init__ of an own error, its first statement super().__init__(msg) -/
theorem sup_ok {CX : CXT} {P : Program} {w : World} {K : PySem.W.Frag} {mg : Str → Option Value} {base : Heap} {k : Nat} {C fI cc : Addr} {F : NF} {N : List Str} {fl : Str} {msg : Expr} {rest : List Stmt} {p0 p1 p2 p3 p4 : Pos} {oc doc pm ctv : Value} {od : Option Addr} {osl : Array (Option Value)} {ar : Arg} {sp : Sp} {pl : Addr → Sem Bool}
    (T : SupC P K C fI cc F) (lk : K.lookup fI = some ⟨oc, od, .func (F.fd doc pm ctv), osl⟩) (hm : mg "super" = none) (S : NScope N ["self", fl] ["__class__"] F.scope)
    (hbody : F.body = .Expr (.Call (.Attribute (.Call (.Name "super" p0) [] [] p1) "__init__" p2) [msg] [] p3) p4 :: rest)
    (hpar : (F.params.posonlyargs ++ F.params.args).head? = some ar) (har : ar.arg = "self") (hks : F.scope.names.lookup ("super" : Str) = some .globalImplicit)
    (len : ∀ vs H Q E, sp vs H Q E → vs.length = 2)
    (h : ∀ (A : Around) (outer : List Env) (s : Shared) (H : Hp) (vs : List V) (Q : VK) (E : XK), Room k (A.deeper (envF F fI s.heap.objs.size)) → sp vs H Q E →
      ∃ (a : Addr) (y : V) (tm : TE) (t2 : TS), vs = [.ref a, y] ∧ H a = some (exo a C none) ∧ PE (ncx CX P w K mg base N F fI A outer s H E) msg tm ∧ PSs (ncx CX P w K mg base N F fI A outer s H E) rest t2 ∧
        tm (startF N vs [none]) H fun v H1 => [v].length = 1 ∧ H1 a = some (exo a C none) ∧ t2 { nx := fun _ H' => Q .non H', rt := Q } (startF N vs [none]) H1)
    (he : ∀ L : Addr, eval (.Call (.Attribute (.Call (.Name "super" p0) [] [] p1) "__init__" p2) [msg] [] p3) (envF F fI L) = (do
      let ov ← attributeBase (.Call (.Name "super" p0) [] [] p1) "__init__" (envF F fI L) (eval (.Call (.Name "super" p0) [] [] p1) (envF F fI L))
      standAt p2.atName
      let (f, first) ← holding [ov] (getMethod ov "__init__" (pl L))
      callWith p3 f first (backTo p3 (starEach [msg] (envF F fI L))) []))
    (hst : ∀ L : Addr, starEach [msg] (envF F fI L) = (false, eval msg (envF F fI L)) :: starEach [] (envF F fI L))
    (hsw : ∀ L : Addr, swapsWith (.Call (.Attribute (.Call (.Name "super" p0) [] [] p1) "__init__" p2) [msg] [] p3) none p4.line (envF F fI L) = pure false) :
    FnOk P w K mg base CX (k + 1) fI (F.fd doc pm ctv) ["self", fl] sp := by
  refine ⟨len, fun A outer s H args us vs Q E hr e0 hb r hsp => ?_⟩
  have hl := len _ _ _ _ hsp
  have KX : K.In s.heap := e0.mod.kin.keeps fun b o e => (e0.bs b o e).1
  have lim : s.heap.NoLimit := e0.mod.nolimit.keeps fun b o e => (e0.bs b o e).1
  obtain ⟨ccl, cdd, vsC, ccs, file, tf, hcode, hvs, hfile⟩ := T.code
  obtain ⟨cl1, cld, csl, hcell⟩ := T.cell
  have hcl : F.cl.lookup ("__class__" : Str) = some cc := by rw [T.cl]; rfl
  have hclA : ∀ y c, F.cl.lookup y = some c → y = ("__class__" : Str) ∧ c = cc := fun y c e => by
    rw [T.cl] at e
    by_cases hy : y = ("__class__" : Str)
    · subst hy
      exact ⟨rfl, (Option.some.inj e).symm⟩
    · have hb : (y == ("__class__" : Str)) = false := beq_false_of_ne hy
      simp only [List.lookup, hb] at e
      cases e
  have CA : CellsAt F.cl ["__class__"] [none] s.heap H := {
    len := rfl
    all := fun y c e => by
      obtain ⟨_, rfl⟩ := hclA y c e
      have hbk := e0.mod.kin _ _ hcell
      exact ⟨(e0.bs _ _ hbk).2, _, _, (e0.bs _ _ hbk).1, rfl⟩
    inj := fun x y c e1 e2 => (hclA x c e1).1.trans (hclA y c e2).1.symm
    has := fun i y e => by
      cases i with
      | zero =>
        have ey : y = ("__class__" : Str) := (Option.some.inj e).symm
        subst ey
        exact ⟨cc, hcl, fun v ev => by cases ev⟩
      | succ i => cases e }
  refine codeAny_call_function hr.depth (KX _ _ lk) rfl S.co S.gen rfl (PySem.W.codeRec_of KX T.cd) (hb _ _ _ _ ?_)
  refine wpAny_newFunctionEnv S.nocell (fun ⟨n, _⟩ hy => S.par n (List.of_mem_zip hy).1) (fun h₁ hns hsb => ⟨lim.fresh _ hsb, ?_⟩) S.kind
  show codeAny _ _ (.func F.body (envF F fI s.heap.objs.size)) _ _
  refine ks_codeAny_funcAt ?_
  have kp : ∀ b o, s.heap.get? b = some o → h₁.get? b = some o := fun b o e => hsb.extBut b o (Nat.ne_of_lt (Heap.lt_size e)) (Heap.get?_push_of_some _ e)
  obtain ⟨a, y, tm, t2, ev, ha, hm1, h2, hq⟩ := h A outer s H vs Q E (hr.deeper _) hsp
  have I : Inv (ncx CX P w K mg base N F fI A outer s H E) [] (startF N vs [none]) H { s with heap := h₁, toks := s.toks + (([("self" : Str), fl] : List Str).zip us).length } := inv_startN S hr.hd e0 hl r CA hns kp
  generalize hs1 : ({ s with heap := h₁, toks := s.toks + (([("self" : Str), fl] : List Str).zip us).length } : Shared) = s1 at I ⊢
  have KX1 : K.In s1.heap := I.kIn
  obtain ⟨nm, q, NN, bs, bm, sn, sub, ab, col, dd, k0, k1, k2, k3, k5, hC, hbm⟩ := T.oex.cls
  have hC1 := KX1 _ _ hC
  obtain ⟨t1, ho⟩ := exo_at I.hok ha
  have hne : a ≠ C := fun e => by
    rw [e, hC1] at ho
    cases ho
  rw [show execs F.body (envF F fI s.heap.objs.size) = execs (.Expr (.Call (.Attribute (.Call (.Name "super" p0) [] [] p1) "__init__" p2) [msg] [] p3) p4 :: rest) (envF F fI s.heap.objs.size) by rw [hbody]]
  refine ks_wpAt_execs_cons (ks_wpAt_Expr_any (ks_wpAt_MethodCall (pl := pl s.heap.objs.size) (ks_wpAt_super_base (env := envF F fI s.heap.objs.size) hks (S.frk "__class__" (List.mem_singleton.mpr rfl)) (by decide) rfl (KX1 _ _ lk) rfl hpar rfl (KX1 _ _ hcode) rfl hvs hfile T.top ?_) (he _)) I.quiet (hsw _))
  obtain ⟨mb, hb1, hb2⟩ := I.mod.blt
  refine PySem.W.ks_loadName_global S.kind hks (PySem.Calls.loadGlobal_builtin (I.mod.glob.keeps I.bk) hm (hb1.keeps I.bk) ((hb2 "super" (by decide)).trans (by decide +kernel : bootBuiltins "super" = some (.type "super"))) ⟨rfl, ?_⟩)
  refine wpAny_loadName_free S.kind (S.frk "__class__" (List.mem_singleton.mpr rfl)) hcl ⟨_, KX1 _ _ hcell, rfl⟩ ?_
  rw [har]
  have hself : F.scope.names.lookup ("self" : Str) = some .local := S.par "self" (List.mem_cons_self ..)
  obtain ⟨m, hnsM, hsl⟩ := I.loc
  have hN0 : N[(0 : Nat)]? = some ("self" : Str) := by
    have e := S.pre
    cases N with
    | nil => cases e
    | cons n N =>
      have e2 : n :: N.take 2 = ("self" : Str) :: [fl, "__class__"] := e
      rw [List.cons.injEq] at e2
      rw [e2.1]
      rfl
  have hms : m ("self" : Str) = some (.ref a) := by
    obtain ⟨u, ru, lu⟩ := hsl 0 "self" (.ref a) hN0 (by rw [ev]; rfl) (.inl hself)
    obtain rfl : u = Value.ref a := ru
    rcases lu with lu | ⟨lu, _⟩
    · exact lu.2
    · rw [show (ncx CX P w K mg base N F fI A outer s H E).env.kindOf "self" = some .local from hself] at lu
      rcases lu with z | z <;> cases z
  refine wpAny_loadName_local S.kind hself hnsM hms ?_
  obtain ⟨hp1, g1, d1, tk1, os1⟩ := s1
  refine ks_wpAny_isType_cls hC1 rfl ⟨rfl, ?_⟩
  refine ks_wpAny_call_super hC1 rfl ho rfl (fun c e => by cases e) (PySem.W.looks_mroIn KX1 T.own) (fun h' e kk => ?_)
  have I2 := I.kept (t' := tk1) kk
  have KX2 : K.In h' := I2.kIn
  have hC2 := KX2 _ _ hC
  have ho2 := kk _ _ ho
  have hcls : PySem.W.clsIn K C = some { name := nm, bases := bs, mro := .ref C :: bm, ns := NN, qualname := q, hasDict := true, slotNames := sn, subclasses := sub, abstract := ab, collection := col, hasDel := false } := by
    unfold PySem.W.clsIn
    rw [hC] <;> rfl
  have hini := T.ini
  unfold PySem.W.ks_superIn at hini
  rw [hcls, Option.bind_some] at hini
  have Ia : PySem.W.InstAt h' a _ C none := ⟨ho2, rfl, rfl, trivial⟩
  refine PySem.W.kxs_getMethod PySem.W.kxs_ValueError e (PySem.W.looks_opaque KX2 T.opq) (l₀ := .ref C :: bm) (fun A Q E s k q => wpAny_bind ((PySem.W.looks_clsIn KX2 hcls) A _ E s k (wpAny_pure q))) rfl KX2 hini (Ia.type.andThen (PySem.W.looks_subIn KX2 T.ve)) hne (by decide) ?_
  have kp3 : ∀ b o, h'.get? b = some o → (h'.push (PySem.W.kxs_mw "ValueError.__init__" a)).get? b = some o := fun b o e => Heap.get?_push_of_some _ e
  have I3 := I2.kept (h' := h'.push (PySem.W.kxs_mw "ValueError.__init__" a)) (t' := tk1 + 1) kp3
  have hu3 : (h'.push (PySem.W.kxs_mw "ValueError.__init__" a)).get? h'.objs.size = some (PySem.W.kxs_mw "ValueError.__init__" a) := Heap.get?_push_at rfl rfl
  have I4 : Inv (ncx CX P w K mg base N F fI A outer s H E) [(h'.objs.size, PySem.W.kxs_mw "ValueError.__init__" a)] (startF N vs [none]) H _ := I3.pins_of fun p hp => by
    rw [List.mem_singleton.mp hp]
    exact ⟨hu3, I2.hok.fresh (Nat.le_refl _), Nat.ne_of_gt I2.lt, I2.nofs (Nat.le_refl _), fun v z => by cases z⟩
  have ha1 : PA (ncx CX P w K mg base N F fI A outer s H E) [msg] _ := pa_cons hm1 pa_nil (hst _)
  have hst' := hst s.heap.objs.size
  refine PySem.W.kxs_callWith (i := "ValueError.__init__") (x := a) (by rw [hst']; rfl) ?_
  rw [hst']
  refine PySem.Calls.evalArgs_plain ?_
  have hrun := ha1.run p3 _ _ (startF N vs [none]) H (fun vs' H1 => vs'.length = 1 ∧ H1 a = some (exo a C none) ∧ t2 { nx := fun _ H' => Q .non H', rt := Q } (startF N vs [none]) H1) I4 ?_
  · have hst2 : backTo p3 (starEach [msg] (ncx CX P w K mg base N F fI A outer s H E).env) = backTo p3 ((false, eval msg (envF F fI s.heap.objs.size)) :: starEach [] (envF F fI s.heap.objs.size)) := congrArg (backTo p3) hst'
    rw [hst2] at hrun
    refine wpAny_mono hrun (fun ws s2 hw => ?_) fun e s' he => he
    obtain ⟨vs', H1, J, rv, hlen, ha2, hq2⟩ := hw
    have hu := (J.pin _ (List.mem_append_right _ (List.mem_singleton.mpr rfl))).1
    refine ⟨hu, ?_⟩
    have J0 : Inv (ncx CX P w K mg base N F fI A outer s H E) [] (startF N vs [none]) H1 s2 := J.pins_of fun p hp => by cases hp
    refine call_mw T.oex J0 ha2 hu (by
      show ws.length ≤ _
      rw [← rv.length, hlen, sizeLine_eq]; decide) fun s3 J3 => ?_
    refine wpAt_of_wpAny ?_
    refine wpAny_mono (h2.run [] s3 _ H1 _ J3 hq2) (fun fl s' hs => ?_) fun e s' hs => hs
    have fin : ∀ {σ' : L2.St} {H' : Hp} {v : V} {u : Value}, Inv (ncx CX P w K mg base N F fI A outer s H E) [] σ' H' s' → L2.RelV v u → Q v H' → CE outer P w H s Q u s' :=
      fun {σ' H' v u} J rv q => ⟨v, H', J.os, J.bare, J.base, J.hok, rv, q⟩
    cases fl with
    | ret u =>
      obtain ⟨v, σ', H', J, rv, q⟩ := hs
      exact fin J rv q
    | next =>
      obtain ⟨σ', H', J, q⟩ := hs
      exact fin (v := V.non) (u := Value.none) J rfl q
    | brk =>
      obtain ⟨_, _, _, q⟩ := hs
      exact False.elim q
    | cont =>
      obtain ⟨_, _, _, q⟩ := hs
      exact False.elim q
  · exact hq
end
end EX
/-! own errors: made, their fields, isinstance of them -/
namespace EX
open PySem PySem.Spec PyProof.Rows L2 NdefX
set_option autoImplicit false
section
variable {X : Cx}
/-- {x}: a text, an int or None, as a text that is not told -/
def MsgOk (x : V) : Prop := (∃ y : Str, x = .str y ∧ y.length ≤ 1000) ∨ (∃ i : Int, x = .int i ∧ i.natAbs.log2 < 1920) ∨ x = .non
def tFmtN (te : TE) : TE := fun σ H Q => te σ H fun x H1 => MsgOk x ∧ ∀ y : Str, y.length ≤ 10000 → Q (.str y) H1
theorem int_text {i : Int} (h : i.natAbs.log2 < 1920) : (Str.ofString (toString i)).length ≤ 10000 := by
  have e := int_text_length_le (k := 1920) (by decide) h
  rw [PySem.ofString_length]
  omega
theorem pe_fmtN {e : Expr} {te : TE} {pos : Pos} (he : PE X e te) : PE X (.FormattedValue e (-1) none pos) (tFmtN te) := by
  refine ⟨fun pins s σ H Q I h => ?_⟩
  refine wpAny_FormattedValue_plain (thn (he.run pins s σ H _ I h) fun v s1 hv => ?_)
  obtain ⟨x, H1, I1, r1, q, k⟩ := hv
  rcases q with ⟨y, rfl, hz⟩ | ⟨i, rfl, hz⟩ | rfl
  · obtain ⟨t, rfl⟩ := r1
    have q := k y (by omega)
    exact wpAny_formatField_str ⟨.str y, H1, I1, ⟨t, rfl⟩, q⟩ ⟨.str y, H1, I1.tok _, ⟨_, rfl⟩, q⟩ (by rw [sizeLine_eq]; omega)
  · obtain ⟨t, rfl⟩ := r1
    exact wpAny_formatField_int hz ⟨.str (toString i), H1, I1.tok _, ⟨_, rfl⟩, k _ (int_text hz)⟩
  · obtain rfl : v = Value.none := r1
    exact wpAny_formatField_none ⟨.str "None", H1, I1.tok _, ⟨_, rfl⟩, k "None" (by decide)⟩
/-- one argument, its end weakened -/
theorem pa_one {e : Expr} {te : TE} (he : PE X e te) (hs : starEach [e] X.env = (false, eval e X.env) :: starEach [] X.env := by rfl) : PA X [e] (fun σ H Q => ∃ Q0 : VK, te σ H Q0 ∧ ∀ y H1, Q0 y H1 → Q [y] H1) := by
  have h1 : PA X [e] _ := pa_cons he pa_nil hs
  refine ⟨fun pos pins s σ H Q I h => ?_⟩
  obtain ⟨Q0, h0, k⟩ := h
  have h2 := h1.run pos pins s σ H (fun vs H1 => ∃ y, vs = [y] ∧ Q0 y H1) I ?_
  · refine thn h2 fun us s1 hh => ?_
    obtain ⟨vs, H1, J, rv, y, rfl, q⟩ := hh
    exact ⟨[y], H1, J, rv, k y H1 q⟩
  · have e2 : (fun (x : V) (H1 : Hp) => ∃ y, [x] = [y] ∧ Q0 y H1) = Q0 := by
      funext x H1
      exact propext ⟨fun ⟨y, e, q⟩ => by cases e; exact q, fun q => ⟨x, rfl, q⟩⟩
    show te σ H (fun (x : V) (H1 : Hp) => ∃ y, [x] = [y] ∧ Q0 y H1)
    rw [e2]
    exact h0
end
/-! ### the class -/
def oexB (K : PySem.W.Frag) (C : Addr) : Bool := match K.lookup C with
  | some ⟨.type "type", _, .cls cd, sl⟩ => (match cd.mro, sl.toList with
    | .ref C' :: bm, [_, _, _, _, some (.builtin n), _] => C' == C && n == "ValueError.__new__" && !cd.hasDel && cd.hasDict && PySem.HandSPX.refsVE bm
    | _, _ => false)
  | _ => false
theorem oexB_ok {K : PySem.W.Frag} {C : Addr} (q : oexB K C = true) : ∃ nm q N bs bm sn sub ab col dd k0 k1 k2 k3 k5, K.lookup C = some (excClassObj nm q C N bs bm true sn sub ab col dd k0 k1 k2 k3 k5 "ValueError.__new__") ∧ PySem.HandSPX.refsVE bm = true := by
  unfold oexB at q
  split at q
  · rename_i dd cd sl ho
    split at q
    · rename_i C' bm k0 k1 k2 k3 n k5 hm hs
      simp only [Bool.and_eq_true, beq_iff_eq, Bool.not_eq_true'] at q
      obtain ⟨⟨⟨⟨rfl, rfl⟩, hdel⟩, hh⟩, ht⟩ := q
      obtain ⟨nm, bs, mro, ns, qn, hd, sn, sub, ab, col, del⟩ := cd
      dsimp only at hm hdel hh
      subst hm hdel hh
      have hsl : sl = #[k0, k1, k2, k3, some (.builtin "ValueError.__new__"), k5] := by
        obtain ⟨l⟩ := sl
        simp only at hs
        rw [hs]
      subst hsl
      exact ⟨nm, qn, ns, bs, bm, sn, sub, ab, col, dd, k0, k1, k2, k3, k5, ho, ht⟩
    · cases q
  · cases q
/-- an own error's class -/
structure ErrC (K : PySem.W.Frag) (C : Addr) : Prop where
  oex : OexC K C
  xf : XfC K C
  ha : PySem.W.findIn K (.ref C) "__class__" = some (some (.builtin "object.__class__"))
  hn : PySem.W.specialIn K (.builtin "object.__class__") "__get__" = some (some (.builtin "getset_descriptor.__get__"))
  ht : PySem.W.takesIn K (.builtin "object.__class__") = some true
  hm : PySem.W.mroIn K C (.type "object") = some true
def errB (K : PySem.W.Frag) (C : Addr) : Bool := oexB K C && (decide (PySem.W.findIn K (.ref C) "__setattr__" = some (some (.builtin "object.__setattr__"))) && (decide (PySem.W.subIn K (.ref C) (.type "BaseException") = some true) && (decide (PySem.W.typeIn K (.ref C) = some (.type "type")) && (PySem.W.keepIn K (.ref C) && (xfB K C &&
  (decide (PySem.W.findIn K (.ref C) "__class__" = some (some (.builtin "object.__class__"))) && (decide (PySem.W.specialIn K (.builtin "object.__class__") "__get__" = some (some (.builtin "getset_descriptor.__get__"))) && (decide (PySem.W.takesIn K (.builtin "object.__class__") = some true) && decide (PySem.W.mroIn K C (.type "object") = some true)))))))))
theorem errB_ok {K : PySem.W.Frag} {C : Addr} (h : errB K C = true) : ErrC K C := by
  unfold errB at h
  simp only [Bool.and_eq_true, decide_eq_true_eq] at h
  obtain ⟨h1, h2, h3, h4, h5, h6, h7, h8, h9, h10⟩ := h
  exact ⟨⟨oexB_ok h1, h2, h3, h4, h5⟩, xfB_ok h6, h7, h8, h9, h10⟩
/-! ### a caught error: its fields, isinstance -/
def tXfE (K : PySem.W.Frag) (a : Addr) (cls : Value) (d : Option Addr) (f : Str) (te : TE) : TE := fun σ H Q => te σ H fun x H1 => ∃ C : Addr, x = .ref a ∧ cls = .ref C ∧ ErrC K C ∧ PySem.W.findIn K (.ref C) f = some none ∧ ∃ (dd : Addr) (fs : List (Str × V)) (v : V), d = some dd ∧ H1 dd = some (.xd fs) ∧ fs.lookup f = some v ∧ Q v H1
theorem pe_xfE {X : Cx} {a : Addr} {oe : Obj} {cls : Value} {d : Option Addr} {pn : List (Addr × Obj)} {e : Expr} {te : TE} {pos : Pos} {n : Str}
    (hz : Zc cls d oe) (hf : ∃ vs, oe.data = .fields vs) (he : PE (X.suite a ((a, oe) :: pn)) e te) (hb : attributeBase e n X.env (eval e X.env) = eval e X.env := by rfl) :
    PE (X.suite a ((a, oe) :: pn)) (.Attribute e n pos) (tXfE X.K a cls d n te) := by
  refine ⟨fun pins s σ H Q I h => ?_⟩
  refine attr_of hb (thn (he.run pins s σ H _ I h) fun u s1 hh => ?_)
  obtain ⟨x, H1, I1, rx, C, ex, ec, T, hno, dd, fs, v, ed, ea, l, q⟩ := hh
  subst ex
  obtain rfl : u = Value.ref a := rx
  subst ec
  subst ed
  obtain ⟨ha, _⟩ := I1.pin (a, oe) (List.mem_append_left _ List.mem_cons_self)
  obtain ⟨vs, hd⟩ := hf
  have hx : ObjOk X.prog X.w H1 s1.heap dd (.xd fs) := I1.hok dd _ ea
  obtain ⟨mA, hns, hr⟩ := hx
  obtain ⟨od, ho, hl⟩ := lookIn_ns hns
  obtain ⟨u, hu, ru⟩ := RelO.some_of (v := v) (o := mA n) (by rw [← l]; exact hr n)
  have J : PySem.W.InstAt s1.heap a oe C (some od) := ⟨ha, hz.1, by unfold PySem.W.notCls; rw [hd] <;> rfl, by rw [hz.2]; exact ho⟩
  exact HandSPX.exc_get I1.kIn J T.xf.ga T.xf.gg T.xf.exC (PySem.W.findObj_own T.xf.hdC hno rfl (by rw [hl, hu])) (handed_of ru) ⟨v, H1, I1.tok _, ru, q⟩
theorem kit_err {K : PySem.W.Frag} {C x : Addr} {ox : Obj} {od : Option Obj} (T : ErrC K C) : PySem.W.KitX K (.ref x) (.ref C) (fun h => PySem.W.InstAt h x ox C od) := by
  have hf : PySem.W.findObj K C od "__class__" = some (.bind (.builtin "getset_descriptor.__get__") (.builtin "object.__class__")) := PySem.W.findObj_dataE (by obtain ⟨cd, hc, _⟩ := PySem.W.any_some T.xf.hdC; rw [hc]; rfl) T.ha T.hn T.ht
  exact {
    ty := fun _ _ _ I => I.type
    it := fun _ _ X _ => by
      obtain ⟨cdD, hcD, _⟩ := PySem.W.any_some T.xf.hdC
      unfold PySem.W.clsIn at hcD
      split at hcD
      · rename_i c' d' cd' sl' ho
        intro A' Q' E' s' k q
        unfold isType loadHead
        exact wpAny_bind (wpAny_loadPart (k _ _ (X _ _ ho)) (wpAny_pure q))
      · cases hcD
    ne := fun h tp dd its n sl X htp => by
      obtain ⟨cdD, hcD, _⟩ := PySem.W.any_some T.xf.hdC
      refine Bool.eq_false_iff.mpr fun q => ?_
      have e : C = tp := Value.ref.inj (beq_iff_eq.mp q)
      subst e
      unfold PySem.W.clsIn at hcD
      split at hcD
      · rename_i c' d' cd' sl' ho
        have z := (X _ _ ho).symm.trans htp
        cases z
      · cases hcD
    ca := fun X I k => PySem.W.kx_classE X I T.xf.ga T.xf.gg T.xf.exC hf T.hm k }
/-- isinstance(e, c), e the exception that the suite holds -/
def rIsX (K : PySem.W.Frag) (a : Addr) (cls : Value) (d : Option Addr) : List V → Hp → VK → Prop := fun xs H Q => ∃ (C : Addr) (c : V) (cv : Value) (b : Bool), xs = [.ref a, c] ∧ cls = .ref C ∧ ErrC K C ∧ (∀ dd, d = some dd → ∃ fs, H dd = some (.xd fs)) ∧ (∀ u, RelV c u → u = cv) ∧ PySem.W.kitOne K (.ref C) cv = some b ∧ Q (.bl b) H
theorem inst_err {X : Cx} {pins pn : List (Addr × Obj)} {σ : L2.St} {H : Hp} {s : Shared} {a C : Addr} {oe : Obj} {d : Option Addr} (I : Inv (X.suite a ((a, oe) :: pn)) pins σ H s) (hz : Zc (.ref C) d oe) (hf : ∃ vs, oe.data = .fields vs) (hd : ∀ dd, d = some dd → ∃ fs, H dd = some (.xd fs)) : ∃ od, PySem.W.InstAt s.heap a oe C od := by
  obtain ⟨hget, _⟩ := I.pin (a, oe) (List.mem_append.mpr (.inl List.mem_cons_self))
  obtain ⟨vs, hv⟩ := hf
  cases d with
  | none => exact ⟨none, hget, hz.1, by unfold PySem.W.notCls; rw [hv] <;> rfl, by rw [hz.2]; trivial⟩
  | some dd =>
    obtain ⟨fs, e⟩ := hd dd rfl
    have hx : ObjOk X.prog X.w H s.heap dd (.xd fs) := I.hok dd _ e
    obtain ⟨mA, hns, hr⟩ := hx
    obtain ⟨od, ho, hl⟩ := lookIn_ns hns
    exact ⟨some od, hget, hz.1, by unfold PySem.W.notCls; rw [hv] <;> rfl, by rw [hz.2]; exact ho⟩
theorem call_isX {X : Cx} {a : Addr} {oe : Obj} {cls : Value} {d : Option Addr} {pn : List (Addr × Obj)} (hz : Zc cls d oe) (hf : ∃ vs, oe.data = .fields vs) : CallR (X.suite a ((a, oe) :: pn)) (.builtin "isinstance") (rIsX X.K a cls d) := by
  intro pins s σ H xs us Q I r h
  obtain ⟨C, c, cv, b, rfl, rfl, T, hd, hcv, e, q⟩ := h
  cases r with
  | cons rx rr =>
    cases rr with
    | cons rt rr =>
      cases rr
      cases rx
      have ec := hcv _ rt
      subst ec
      obtain ⟨od, J⟩ := inst_err I hz hf hd
      exact PySem.W.kia_one (kit_err T) I.kIn J e (fun z => nomatch z) fun tk => ⟨.bl b, H, I.kept (t' := tk) fun _ _ z => z, rfl, q⟩
/-- isinstance(e, (c, ..)) -/
def rIsXT (K : PySem.W.Frag) (a : Addr) (cls : Value) (d : Option Addr) : List V → Hp → VK → Prop := fun xs H Q => ∃ (C t : Addr) (cs : List V) (cvs : List Value) (b : Bool), xs = [.ref a, .ref t] ∧ cls = .ref C ∧ ErrC K C ∧ (∀ dd, d = some dd → ∃ fs, H dd = some (.xd fs)) ∧ H t = some (.tup cs) ∧ (∀ us, Vals cs us → us = cvs) ∧ PySem.W.kitAny K (.ref C) cvs = some b ∧ Q (.bl b) H
theorem call_isXT {X : Cx} {a : Addr} {oe : Obj} {cls : Value} {d : Option Addr} {pn : List (Addr × Obj)} (hz : Zc cls d oe) (hf : ∃ vs, oe.data = .fields vs) : CallR (X.suite a ((a, oe) :: pn)) (.builtin "isinstance") (rIsXT X.K a cls d) := by
  intro pins s σ H xs us Q I r h
  obtain ⟨C, t, cs, cvs, b, rfl, rfl, T, hd, ht, hcv, e, q⟩ := h
  cases r with
  | cons rx rr =>
    cases rr with
    | cons rt rr =>
      cases rr
      cases rx
      cases rt
      obtain ⟨od, J⟩ := inst_err I hz hf hd
      have hx : ObjOk X.prog X.w H s.heap t (.tup cs) := I.hok t _ ht
      obtain ⟨hl, its, hv, ⟨oc, od', dt, sl⟩, ho, hc, n, hd2⟩ := hx
      dsimp only at hc hd2
      subst hc hd2
      have eI := hcv _ hv
      subst eI
      exact PySem.W.kia_tup (kit_err T) I.kIn J ho e (fun z => nomatch z) fun tk => ⟨.bl b, H, I.kept (t' := tk) fun _ _ z => z, rfl, q⟩
/-! ### an error is made -/
/-- what __init__ promises -/
def spErr (C : Addr) (fl : Str) (ok : V → Prop) : Sp := fun vs H Q _ => ∃ (a : Addr) (y : V), vs = [.ref a, y] ∧ H a = some (exo a C none) ∧ ok y ∧ ∀ dx, H dx = none → dx ≠ a → Q .non (upd (upd H dx (exd dx [(fl, y)])) a (exo a C (some dx)))
/-- C(e): the class, its dict with the one field -/
def tMkE (C : Addr) (fl : Str) (ok : V → Prop) (te : TE) : L2.St → Hp → XK → Prop := fun σ H Q => te σ H fun y H1 => ok y ∧ ∀ d, H1 d = none → Q (.ref C) (some d) (upd H1 d (.xd [(fl, y)]))
theorem pmk_err {X : Cx} {x fl : Str} {ok : V → Prop} {C fI : Addr} {fd : FuncData} {k : Nat} {e : Expr} {te : TE} {p pos : Pos} (T : ErrC X.K C) (iC : PySem.W.findIn X.K (.ref C) "__init__" = some (some (.ref fI))) (tI : PySem.W.typeIn X.K (.ref fI) = some (.type "function"))
    (F1 : FnOk X.prog X.w X.K X.mg X.base CX0 k fI fd ["self", fl] (spErr C fl ok)) (hr : Room (k + 1) X.A) (hb : Binds X.K fd ["self", fl] []) (hg : Gl X x) (hm : X.mg x = some (.ref C)) (he : PE X e te)
    (hdb : (x == ("__debug__" : Str)) = false := by decide) (hs : starEach [e] X.env = (false, eval e X.env) :: starEach [] X.env := by rfl) : PMk X (.Call (.Name x p) [e] [] pos) (tMkE C fl ok te) := by
  intro pins s σ H Q I h
  have h0 := pmk_oex (p := p) (pos := pos) T.oex iC tI F1 hr hb .nil pass0 hg hm (pa_one he hs) hdb hs (by rfl)
  refine h0 pins s σ H Q I ⟨_, h, fun y H1 ⟨oky, k⟩ => ⟨by show 1 ≤ 1000; decide, fun a na => ⟨a, y, rfl, upd_same, oky, fun dx ndx ne => ?_⟩⟩⟩
  have n1 : H1 dx = none := by
    rw [upd_ne ne] at ndx
    exact ndx
  refine ⟨rfl, dx, [(fl, y)], upd_same, (upd_ne ne).trans upd_same, n1, ?_⟩
  have eh : upd (del (upd (upd (upd H1 a (exo a C none)) dx (exd dx [(fl, y)])) a (exo a C (some dx))) a) dx (.xd [(fl, y)]) = upd H1 dx (.xd [(fl, y)]) := by
    funext b
    by_cases h1 : b = dx
    · rw [h1, upd_same, upd_same]
    · rw [upd_ne h1, upd_ne h1]
      by_cases h2 : b = a
      · rw [h2, del_same, na]
      · rw [del_ne h2, upd_ne h2, upd_ne h1, upd_ne h2]
  rw [eh]
  exact k dx n1
/-- C(), no own __init__ -/
theorem pmk_err0 {X : Cx} {x : Str} {C : Addr} {p pos : Pos} (q : PySem.W.excIn X.K C He.veBase "ValueError.__new__" = true) (T : ErrC X.K C) (hg : Gl X x) (hm : X.mg x = some (.ref C))
    (hdb : (x == ("__debug__" : Str)) = false := by decide) : PMk X (.Call (.Name x p) [] [] pos) (fun _ H Q => Q (.ref C) none H) := by
  intro pins s σ H Q I h
  refine wpAny_Call_Name_kw (ld_glob I hg hm ?_ hdb)
  refine PySem.W.callWith_K0 I.kIn T.oex.kC ?_
  obtain ⟨bm, N, nm, qn, bs, hdct, sn, sub, ab, col, dd, k0, k1, k2, k3, k5, mN, hC, hN, hni, Tl⟩ := exc_obj I.kIn q
  refine wpAny_call_exc_subT F.excBase_ValueError Tl hC hN hni (fun h' e hm => ?_) (by show 0 ≤ sizeLine; rw [sizeLine_eq]; omega)
  exact mk_of I hm (raises_own T.oex.exC T.oex.tyC) h (I.hok.gone hm.new)
end EX
/-! own errors as the top leaves them -/
namespace EX
open PySem PySem.Spec PyProof.Rows L2 NdefX
set_option autoImplicit false
/-- an error class with its __init__(self, fl) -/
structure DfE (P : Program) (K : PySem.W.Frag) (mg : Str → Option Value) (x fl : Str) (ok : V → Prop) where
  C : Addr
  fI : Addr
  fd : FuncData
  g : mg x = some (.ref C)
  T : ErrC K C
  iC : PySem.W.findIn K (.ref C) "__init__" = some (some (.ref fI))
  tI : PySem.W.typeIn K (.ref fI) = some (.type "function")
  no : PySem.W.findIn K (.ref C) fl = some none
  b : Binds K fd ["self", fl] []
  F : ∀ (w : World) (base : Heap), FnOk P w K mg base CX0 1 fI fd ["self", fl] (spErr C fl ok)
/-- an error class without an __init__ -/
structure DfE0 (K : PySem.W.Frag) (mg : Str → Option Value) (x : Str) where
  C : Addr
  g : mg x = some (.ref C)
  T : ErrC K C
  q : PySem.W.excIn K C He.veBase "ValueError.__new__" = true
/-! ### the two bodies -/
theorem app_len (a b : Str) : (a ++ b).length = a.length + b.length := by
  show (a.cps ++ b.cps).size = a.cps.size + b.cps.size
  rw [Array.size_append]
section
variable {P : Program} {w : World} {K : PySem.W.Frag} {mg : Str → Option Value} {base : Heap} {C fI cc : Addr} {F : NF} {fl : Str} {oc doc pm ctv : Value} {od : Option Addr} {osl : Array (Option Value)} {ar : Arg}
/-- f'.. {fl}' -/
theorem init_f {p0 p1 p2 p3 p4 q1 q2 q3 q4 q5 q6 q7 q8 : Pos} {m : Str} {j : Nat} {pl : Addr → Sem Bool} (T : SupC P K C fI cc F) (lk : K.lookup fI = some ⟨oc, od, .func (F.fd doc pm ctv), osl⟩) (hm : mg "super" = none) (S : NScope ["self", fl, "__class__"] ["self", fl] ["__class__"] F.scope) (no : PySem.W.findIn K (.ref C) fl = some none)
    (hbody : F.body = [.Expr (.Call (.Attribute (.Call (.Name "super" p0) [] [] p1) "__init__" p2) [.JoinedStr [.Constant (.str m) j q1, .FormattedValue (.Name fl q2) (-1) none q3] q4] [] p3) p4, .Assign [.Attribute (.Name "self" q5) fl q6] (.Name fl q7) q8]) (hml : m.length ≤ 1000)
    (hpar : (F.params.posonlyargs ++ F.params.args).head? = some ar) (har : ar.arg = "self") (hks : F.scope.names.lookup ("super" : Str) = some .globalImplicit) (hdb : (fl == ("__debug__" : Str)) = false) (hdc : (fl == ("__classdict__" : Str)) = false)
    (he : ∀ L : Addr, eval (.Call (.Attribute (.Call (.Name "super" p0) [] [] p1) "__init__" p2) [.JoinedStr [.Constant (.str m) j q1, .FormattedValue (.Name fl q2) (-1) none q3] q4] [] p3) (envF F fI L) = (do
      let ov ← attributeBase (.Call (.Name "super" p0) [] [] p1) "__init__" (envF F fI L) (eval (.Call (.Name "super" p0) [] [] p1) (envF F fI L))
      standAt p2.atName
      let (f, first) ← holding [ov] (getMethod ov "__init__" (pl L))
      callWith p3 f first (backTo p3 (starEach [.JoinedStr [.Constant (.str m) j q1, .FormattedValue (.Name fl q2) (-1) none q3] q4] (envF F fI L))) [])) :
    FnOk P w K mg base CX0 1 fI (F.fd doc pm ctv) ["self", fl] (spErr C fl MsgOk) := by
  have vs : F.scope.names.lookup ("self" : Str) = some .local := S.par "self" (List.mem_cons_self ..)
  have vf : F.scope.names.lookup fl = some .local := S.par fl (List.mem_cons_of_mem _ (List.mem_cons_self ..))
  refine sup_ok (k := 0) T lk hm S hbody hpar har hks (fun vs H Q E h => ?_) (fun A outer s H vs Q E hr h => ?_) he (fun L => rfl) (fun L => rfl)
  · obtain ⟨a, y, rfl, _⟩ := h
    rfl
  · obtain ⟨a, y, rfl, ha, ok, k⟩ := h
    refine ⟨a, y, _, _, rfl, ha, pe_joined (.cons pe_str (.cons (pe_fmtN (pe_var (i := 1) rfl (.inl vf) (hd := hdb) (hcd := hdc))) .nil)), pss_one (ps_ost (pe_var (i := 0) rfl (.inl vs)) (pe_var (i := 1) rfl (.inl vf) (hd := hdb) (hcd := hdc)) (by rfl)), ?_⟩
    refine ⟨m, rfl, by rw [app_len, sizeLine_eq]; show 0 + _ ≤ _; omega, y, rfl, ok, fun z hz => ⟨z, rfl, by rw [app_len, app_len, sizeLine_eq]; show 0 + _ + _ ≤ _; omega, rfl, ha, y, rfl, .ref a, rfl, a, C, rfl, T.oex, no, .inl ⟨ha, fun dx n1 n2 => k dx n1 n2⟩⟩⟩
/-- a written text -/
theorem init_c {p0 p1 p2 p3 p4 q1 q5 q6 q7 q8 : Pos} {m : Str} {j : Nat} {pl : Addr → Sem Bool} (T : SupC P K C fI cc F) (lk : K.lookup fI = some ⟨oc, od, .func (F.fd doc pm ctv), osl⟩) (hm : mg "super" = none) (S : NScope ["self", fl, "__class__"] ["self", fl] ["__class__"] F.scope) (no : PySem.W.findIn K (.ref C) fl = some none)
    (hbody : F.body = [.Expr (.Call (.Attribute (.Call (.Name "super" p0) [] [] p1) "__init__" p2) [.Constant (.str m) j q1] [] p3) p4, .Assign [.Attribute (.Name "self" q5) fl q6] (.Name fl q7) q8])
    (hpar : (F.params.posonlyargs ++ F.params.args).head? = some ar) (har : ar.arg = "self") (hks : F.scope.names.lookup ("super" : Str) = some .globalImplicit) (hdb : (fl == ("__debug__" : Str)) = false) (hdc : (fl == ("__classdict__" : Str)) = false)
    (he : ∀ L : Addr, eval (.Call (.Attribute (.Call (.Name "super" p0) [] [] p1) "__init__" p2) [.Constant (.str m) j q1] [] p3) (envF F fI L) = (do
      let ov ← attributeBase (.Call (.Name "super" p0) [] [] p1) "__init__" (envF F fI L) (eval (.Call (.Name "super" p0) [] [] p1) (envF F fI L))
      standAt p2.atName
      let (f, first) ← holding [ov] (getMethod ov "__init__" (pl L))
      callWith p3 f first (backTo p3 (starEach [.Constant (.str m) j q1] (envF F fI L))) [])) :
    FnOk P w K mg base CX0 1 fI (F.fd doc pm ctv) ["self", fl] (spErr C fl fun _ => True) := by
  have vs : F.scope.names.lookup ("self" : Str) = some .local := S.par "self" (List.mem_cons_self ..)
  have vf : F.scope.names.lookup fl = some .local := S.par fl (List.mem_cons_of_mem _ (List.mem_cons_self ..))
  refine sup_ok (k := 0) T lk hm S hbody hpar har hks (fun vs H Q E h => ?_) (fun A outer s H vs Q E hr h => ?_) he (fun L => rfl) (fun L => rfl)
  · obtain ⟨a, y, rfl, _⟩ := h
    rfl
  · obtain ⟨a, y, rfl, ha, ok, k⟩ := h
    refine ⟨a, y, _, _, rfl, ha, pe_str, pss_one (ps_ost (pe_var (i := 0) rfl (.inl vs)) (pe_var (i := 1) rfl (.inl vf) (hd := hdb) (hcd := hdc)) (by rfl)), ?_⟩
    exact ⟨rfl, ha, y, rfl, .ref a, rfl, a, C, rfl, T.oex, no, .inl ⟨ha, fun dx n1 n2 => k dx n1 n2⟩⟩
end
/-! ### the top's facts -/
/-- an __init__: its class, its field, its def -/
structure InD where
  cls : Str
  qual : Str
  fld : Str
  params : Arguments
  body : List Stmt
  scope : Scope
abbrev FnY : Type := Option (Str × Str × Arguments × FuncBody × Scope × Addr × Value × Value × Option Addr × Addr)
def fnY (K : PySem.W.Frag) (x : Str) : FnY := match K.lookup (He.ma K (He.ga K x) "__init__") with
  | some ⟨_, _, .func fd, _⟩ => some (fd.name, fd.qualname, fd.params, fd.body, fd.scope, fd.globals, fd.defaults, fd.kwdefaults, fd.annotations, fd.builtins)
  | _ => none
def InD.val (d : InD) : FnY := some ("__init__", d.qual, d.params, .stmts d.body, d.scope, mainGlobals, .none, .none, none, builtinsNs)
/-- the code object of the program's own text -/
def codeB (P : Program) (K : PySem.W.Frag) (c : Addr) (q : Str) : Bool := PySem.W.codeIn K (.ref c) q && (match K.lookup c with
  | some ⟨_, _, .fields vs, _⟩ => (match (vs[2]? : Option Value) with
    | some (Value.str file _) => (P.main.file : Str) == file
    | _ => false)
  | _ => false)
def codeV (P : Program) (K : PySem.W.Frag) (v : Value) (q : Str) : Bool := match v with
  | .ref c => codeB P K c q
  | _ => false
def cellB (K : PySem.W.Frag) (C c : Addr) : Bool := match K.lookup c with
  | some ⟨_, _, .cell (some (.ref D)), _⟩ => D == C
  | _ => false
def clB (K : PySem.W.Frag) (C : Addr) (l : List (Str × Addr)) : Bool := match l with
  | [(y, c)] => decide (y = "__class__") && cellB K C c
  | _ => false
def fdB (P : Program) (K : PySem.W.Frag) (C fI : Addr) : Bool := match K.lookup fI with
  | some ⟨_, _, .func fd, _⟩ => clB K C fd.closure && codeV P K fd.code fd.qualname
  | _ => false
def supB (P : Program) (K : PySem.W.Frag) (d : InD) : Bool := errB K (He.ga K d.cls) && (fdB P K (He.ga K d.cls) (He.ma K (He.ga K d.cls) "__init__") && (decide (PySem.W.nsIn K cStatics "thirdparty.any" = some none) && (decide (PySem.W.ks_superIn K (He.ga K d.cls) (He.ga K d.cls) "__init__" = some (some (.builtin "ValueError.__init__"))) &&
  (decide (PySem.W.subIn K (.ref (He.ga K d.cls)) (.type "ValueError") = some true) && (decide (PySem.W.mroIn K (He.ga K d.cls) (.ref (He.ga K d.cls)) = some true) && (decide (PySem.W.findIn K (.ref (He.ga K d.cls)) "__init__" = some (some (.ref (He.ma K (He.ga K d.cls) "__init__")))) &&
  (decide (PySem.W.typeIn K (.ref (He.ma K (He.ga K d.cls) "__init__")) = some (.type "function")) && (decide (PySem.W.findIn K (.ref (He.ga K d.cls)) d.fld = some none) && He.eqO (PySem.W.nsIn K mainGlobals d.cls) (some (some (.ref (He.ga K d.cls))))))))))))
theorem cellB_ok {K : PySem.W.Frag} {C c : Addr} (h : cellB K C c = true) : ∃ (cl : Value) (cld : Option Addr) (csl : Array (Option Value)), K.lookup c = some (⟨cl, cld, .cell (some (.ref C)), csl⟩ : Obj) := by
  unfold cellB at h
  split at h
  · rename_i a b D s e
    have : D = C := eq_of_beq h
    subst this
    exact ⟨a, b, s, e⟩
  · cases h
theorem codeB_ok {P : Program} {K : PySem.W.Frag} {c : Addr} {q : Str} (h : codeB P K c q = true) : PySem.W.codeIn K (.ref c) q = true ∧ ∃ (ccl : Value) (cdd : Option Addr) (vs : Array Value) (ccs : Array (Option Value)) (file : Str) (tf : Tok), K.lookup c = some (⟨ccl, cdd, .fields vs, ccs⟩ : Obj) ∧ vs[2]? = some (Value.str file tf) ∧ ((P.main.file : Str) == file) = true := by
  unfold codeB at h
  obtain ⟨h1, h⟩ := Bool.and_eq_true_iff.mp h
  refine ⟨h1, ?_⟩
  split at h
  · rename_i a b vs s e
    split at h
    · rename_i file t e2
      exact ⟨a, b, vs, s, file, t, e, e2, h⟩
    · cases h
  · cases h
/-- what is known of the class behind the top -/
theorem init_at {P : Program} {K : PySem.W.Frag} {d : InD} (e : fnY K d.cls = d.val) (c : supB P K d = true) (top : (P.main.scope.names.lookup ("super" : Str)).isSome = false) :
    ∃ (F : NF) (cc : Addr) (oc doc pm ctv : Value) (od : Option Addr) (osl : Array (Option Value)), F.name = "__init__" ∧ F.qual = d.qual ∧ F.params = d.params ∧ F.body = d.body ∧ F.scope = d.scope ∧ SupC P K (He.ga K d.cls) (He.ma K (He.ga K d.cls) "__init__") cc F ∧ K.lookup (He.ma K (He.ga K d.cls) "__init__") = some ⟨oc, od, .func (F.fd doc pm ctv), osl⟩ := by
  unfold supB at c
  simp only [Bool.and_eq_true, decide_eq_true_eq] at c
  obtain ⟨c1, c2, c3, c4, c5, c6, c7, c8, c9, c10⟩ := c
  have E := errB_ok c1
  unfold fdB at c2
  unfold fnY at e
  cases q : K.lookup (He.ma K (He.ga K d.cls) "__init__") with
  | none =>
    rw [q] at c2
    cases c2
  | some o =>
    obtain ⟨oc, od, dt, osl⟩ := o
    rw [q] at c2 e
    cases dt with
    | func fd =>
      obtain ⟨n1, n2, n3, n4, n5, n6, n7, n8, n9, n10, n11, n12, n13, n14, n15⟩ := fd
      have e2 : (some (n1, n2, n3, n4, n5, n6, n8, n9, n12, n15) : FnY) = some (("__init__" : Str), d.qual, d.params, FuncBody.stmts d.body, d.scope, mainGlobals, Value.none, Value.none, (none : Option Addr), builtinsNs) := e
      simp only [Option.some.injEq, Prod.mk.injEq] at e2
      obtain ⟨h1, h2, h3, h4, h5, h6, h7, h8, h9, h10⟩ := e2
      subst h1 h2 h3 h4 h5 h6 h7 h8 h9 h10
      have c3' : (clB K (He.ga K d.cls) n7 && codeV P K n13 d.qual) = true := c2
      obtain ⟨k1, k2⟩ := Bool.and_eq_true_iff.mp c3'
      unfold clB at k1
      split at k1
      · rename_i y cc
        obtain ⟨k3, k4⟩ := Bool.and_eq_true_iff.mp k1
        have ey : y = "__class__" := of_decide_eq_true k3
        subst ey
        cases n13 with
        | ref cd =>
          obtain ⟨k5, k6⟩ := codeB_ok k2
          exact ⟨⟨"__init__", d.qual, d.params, d.body, d.scope, [("__class__", cc)], cd⟩, cc, oc, n10, n11, n14, od, osl, rfl, rfl, rfl, rfl, rfl, ⟨E.oex, rfl, k5, k6, cellB_ok k4, top, c3, c4, c5, c6⟩, rfl⟩
        | _ => cases k2
      · cases k1
    | _ => cases c2
theorem mkE {P : Program} {K : PySem.W.Frag} {h : Heap} {mg : Str → Option Value} {d : InD} {ok : V → Prop} (X : K.In h) (G : h.Ns mainGlobals mg) (e : fnY K d.cls = d.val) (c : supB P K d = true) (top : (P.main.scope.names.lookup ("super" : Str)).isSome = false)
    (hb : ∀ (F : NF) (doc pm ctv : Value) (us : List Value), F.name = "__init__" → F.qual = d.qual → F.params = d.params → F.body = d.body → F.scope = d.scope → us.length = 2 → bindArgs (F.fd doc pm ctv) ⟨us, []⟩ = pure ((([("self" : Str), d.fld] : List Str)).zip us))
    (hF : ∀ (F : NF) (cc : Addr) (oc doc pm ctv : Value) (od : Option Addr) (osl : Array (Option Value)) (w : World) (base : Heap), F.params = d.params → F.body = d.body → F.scope = d.scope → SupC P K (He.ga K d.cls) (He.ma K (He.ga K d.cls) "__init__") cc F →
      K.lookup (He.ma K (He.ga K d.cls) "__init__") = some ⟨oc, od, .func (F.fd doc pm ctv), osl⟩ → PySem.W.findIn K (.ref (He.ga K d.cls)) d.fld = some none → FnOk P w K mg base CX0 1 (He.ma K (He.ga K d.cls) "__init__") (F.fd doc pm ctv) ["self", d.fld] (spErr (He.ga K d.cls) d.fld ok)) :
    ∃ D : DfE P K mg d.cls d.fld ok, D.C = He.ga K d.cls := by
  obtain ⟨F, cc, oc, doc, pm, ctv, od, osl, f1, f2, f3, f4, f5, S, lk⟩ := init_at e c top
  unfold supB at c
  simp only [Bool.and_eq_true, decide_eq_true_eq] at c
  obtain ⟨c1, c2, c3, c4, c5, c6, c7, c8, c9, c10⟩ := c
  exact ⟨⟨He.ga K d.cls, He.ma K (He.ga K d.cls) "__init__", F.fd doc pm ctv, PySem.W.mg_of X G (He.eqO_ok c10), errB_ok c1, c7, c8, c9, .all fun us hl => hb F doc pm ctv us f1 f2 f3 f4 f5 hl, fun w base => hF F cc oc doc pm ctv od osl w base f3 f4 f5 S lk c9⟩, rfl⟩
/-! ### the Hook -/
def ex0B (K : PySem.W.Frag) (x : Str) : Bool := errB K (He.ga K x) && (PySem.W.excIn K (He.ga K x) He.veBase "ValueError.__new__" && He.eqO (PySem.W.nsIn K mainGlobals x) (some (some (.ref (He.ga K x)))))
/-- isinstance of an instance of x, y: b -/
def kitB (K : PySem.W.Frag) (p : Str × Str × Bool) : Bool := decide (PySem.W.kitOne K (.ref (He.ga K p.1)) (.ref (He.ga K p.2.1)) = some p.2.2)
abbrev AlX : Type := He.AlD × Bool × List FnY
/-- an own class that isinstance, == and != ask -/
structure OwnC (K : PySem.W.Frag) (C : Addr) : Prop where
  ha : PySem.W.findIn K (.ref C) "__class__" = some (some (.builtin "object.__class__"))
  hn : PySem.W.specialIn K (.builtin "object.__class__") "__get__" = some (some (.builtin "getset_descriptor.__get__"))
  ht : PySem.W.takesIn K (.builtin "object.__class__") = some true
  hm : PySem.W.mroIn K C (.type "object") = some true
  me : PySem.W.kitOne K (.ref C) (.ref C) = some true
  ne : PySem.W.findIn K (.ref C) "__ne__" = some (some (.builtin "object.__ne__"))
def ownB (K : PySem.W.Frag) (x : Str) : Bool := decide (PySem.W.findIn K (.ref (He.ga K x)) "__class__" = some (some (.builtin "object.__class__"))) && (decide (PySem.W.specialIn K (.builtin "object.__class__") "__get__" = some (some (.builtin "getset_descriptor.__get__"))) && (decide (PySem.W.takesIn K (.builtin "object.__class__") = some true) &&
  (decide (PySem.W.mroIn K (He.ga K x) (.type "object") = some true) && (decide (PySem.W.kitOne K (.ref (He.ga K x)) (.ref (He.ga K x)) = some true) && decide (PySem.W.findIn K (.ref (He.ga K x)) "__ne__" = some (some (.builtin "object.__ne__")))))))
theorem ownB_ok {K : PySem.W.Frag} {x : Str} (h : ownB K x = true) : OwnC K (He.ga K x) := by
  unfold ownB at h
  simp only [Bool.and_eq_true, decide_eq_true_eq] at h
  obtain ⟨h1, h2, h3, h4, h5, h6⟩ := h
  exact ⟨h1, h2, h3, h4, h5, h6⟩
/-- isinstance of a value of the built-in class T, y: false; y is no such class's own -/
structure KtyF (K : PySem.W.Frag) (T : String) (C : Addr) : Prop where
  no : PySem.W.kitOne K (.type T) (.ref C) = some false
  nf : PySem.W.notFirst K C (.type T) = true
def ktyB (K : PySem.W.Frag) (p : String × Str) : Bool := decide (PySem.W.kitOne K (.type p.1) (.ref (He.ga K p.2)) = some false) && PySem.W.notFirst K (He.ga K p.2) (.type p.1)
theorem ktyB_ok {K : PySem.W.Frag} {p : String × Str} (h : ktyB K p = true) : KtyF K p.1 (He.ga K p.2) := by
  unfold ktyB at h
  simp only [Bool.and_eq_true, decide_eq_true_eq] at h
  exact ⟨h.1, h.2⟩
/-- isinstance of an object of the class y, the built-in class T: false -/
def ktnB (K : PySem.W.Frag) (p : Str × String) : Bool := decide (PySem.W.kitOne K (.ref (He.ga K p.1)) (.type p.2) = some false)
/-- an object of the class y beside one of the class x: no instance, and not asked first -/
structure NfC (K : PySem.W.Frag) (C C' : Addr) : Prop where
  no : PySem.W.kitOne K (.ref C') (.ref C) = some false
  nf : PySem.W.notFirst K C (.ref C') = true
def nfcB (K : PySem.W.Frag) (p : Str × Str) : Bool := decide (PySem.W.kitOne K (.ref (He.ga K p.2)) (.ref (He.ga K p.1)) = some false) && PySem.W.notFirst K (He.ga K p.1) (.ref (He.ga K p.2))
structure Xs where
  ini : List InD := []
  ex : List Str := []
  kit : List (Str × Str × Bool) := []
  exm : List (Str × Str × Bool) := []
  own : List Str := []
  kty : List (String × Str) := []
  ktn : List (Str × String) := []
  nfc : List (Str × Str) := []
def Xs.ok (P : Program) (x : Xs) (K : PySem.W.Frag) : Bool := x.ini.all (supB P K) && (x.ex.all (ex0B K) && (x.kit.all (kitB K) && ((x.exm.all fun p => (He.Fa.exm p.1 p.2.1 p.2.2).ok K) && (x.own.all (ownB K) && (x.kty.all (ktyB K) && (x.ktn.all (ktnB K) && x.nfc.all (nfcB K)))))))
def obsX (P : Program) (fa : List He.Fa) (fn : List He.DefD) (x : Xs) (K : PySem.W.Frag) : AlX := (He.obsD fa fn K, x.ok P K, x.ini.map fun d => fnY K d.cls)
def valX (fn : List He.DefD) (x : Xs) : AlX := (He.valD fn, true, x.ini.map InD.val)
def obsXG (P : Program) (n : Nat) (fa : List He.Fa) (fn : List He.DefD) (x : Xs) (g : Addr → Option Obj) : AlX := obsX P fa fn x (He.frG g (cStatics :: He.asD g n))
def SaysX (P : Program) (fa : List He.Fa) (fn : List He.DefD) (x : Xs) (K : PySem.W.Frag) : Prop := obsX P fa fn x K = valX fn x
def hookX (P : Program) (n : Nat) (fa : List He.Fa) (fn : List He.DefD) (x : Xs) : PySem.W.Hook where
  α := AlX
  obs := fun s => obsXG P n fa fn x s.heap.get?
  val := fun _ => valX fn x
  says := fun _ h => ∃ K : PySem.W.Frag, K.In h ∧ SaysX P fa fn x K
  of := fun _ _ e => ⟨_, He.frG_in, e⟩
  keeps := fun _ _ _ ⟨K, hK, c⟩ k => ⟨K, PySem.W.Frag.In.keeps hK k, c⟩
theorem obsXG_eq {P : Program} {n : Nat} {fa : List He.Fa} {fn : List He.DefD} {x : Xs} {g : Addr → Option Obj} {s : Shared} (h : ∀ a, g a = s.heap.get? a) : obsXG P n fa fn x g = (hookX P n fa fn x).obs s := by
  have e : g = s.heap.get? := funext h
  rw [e] <;> rfl
section
variable {P : Program} {fa : List He.Fa} {fn : List He.DefD} {x : Xs} {K : PySem.W.Frag}
theorem SaysX.d (c : SaysX P fa fn x K) : He.SaysD fa fn K := congrArg (fun z : AlX => z.1) c
theorem SaysX.b (c : SaysX P fa fn x K) : x.ok P K = true := congrArg (fun z : AlX => z.2.1) c
theorem SaysX.ini (c : SaysX P fa fn x K) (i : Nat) {d : InD} (h : x.ini[i]? = some d := by rfl) : supB P K d = true ∧ fnY K d.cls = d.val := by
  obtain ⟨b, _⟩ := Bool.and_eq_true_iff.mp c.b
  refine ⟨List.all_eq_true.mp b d (List.mem_of_getElem? h), ?_⟩
  have e : x.ini.map (fun d => fnY K d.cls) = x.ini.map InD.val := congrArg (fun z : AlX => z.2.2) c
  have e2 : (x.ini.map fun d => fnY K d.cls)[i]? = (x.ini.map InD.val)[i]? := by rw [e]
  rw [List.getElem?_map, List.getElem?_map, h] at e2
  exact Option.some.inj e2
theorem SaysX.ex {h : Heap} {mg : Str → Option Value} (c : SaysX P fa fn x K) (X : K.In h) (G : h.Ns mainGlobals mg) (i : Nat) {y : Str} (hy : x.ex[i]? = some y := by rfl) : ∃ D : DfE0 K mg y, D.C = He.ga K y := by
  obtain ⟨_, b⟩ := Bool.and_eq_true_iff.mp c.b
  obtain ⟨b, _⟩ := Bool.and_eq_true_iff.mp b
  have z := List.all_eq_true.mp b y (List.mem_of_getElem? hy)
  unfold ex0B at z
  simp only [Bool.and_eq_true] at z
  exact ⟨⟨He.ga K y, PySem.W.mg_of X G (He.eqO_ok z.2.2), errB_ok z.1, z.2.1⟩, rfl⟩
theorem SaysX.kit (c : SaysX P fa fn x K) (i : Nat) {p : Str × Str × Bool} (hy : x.kit[i]? = some p := by rfl) : PySem.W.kitOne K (.ref (He.ga K p.1)) (.ref (He.ga K p.2.1)) = some p.2.2 := by
  obtain ⟨_, b⟩ := Bool.and_eq_true_iff.mp c.b
  obtain ⟨_, b⟩ := Bool.and_eq_true_iff.mp b
  obtain ⟨b, _⟩ := Bool.and_eq_true_iff.mp b
  exact of_decide_eq_true (List.all_eq_true.mp b p (List.mem_of_getElem? hy))
theorem SaysX.exm (c : SaysX P fa fn x K) (i : Nat) {p : Str × Str × Bool} (hy : x.exm[i]? = some p := by rfl) : PySem.W.exmOne K (.ref (He.ga K p.1)) (.ref (He.ga K p.2.1)) = some p.2.2 := by
  obtain ⟨_, b⟩ := Bool.and_eq_true_iff.mp c.b
  obtain ⟨_, b⟩ := Bool.and_eq_true_iff.mp b
  obtain ⟨_, b⟩ := Bool.and_eq_true_iff.mp b
  obtain ⟨b, _⟩ := Bool.and_eq_true_iff.mp b
  exact He.exm_ok (List.all_eq_true.mp b p (List.mem_of_getElem? hy))
theorem SaysX.own (c : SaysX P fa fn x K) (i : Nat) {y : Str} (hy : x.own[i]? = some y := by rfl) : OwnC K (He.ga K y) := by
  obtain ⟨_, b⟩ := Bool.and_eq_true_iff.mp c.b
  obtain ⟨_, b⟩ := Bool.and_eq_true_iff.mp b
  obtain ⟨_, b⟩ := Bool.and_eq_true_iff.mp b
  obtain ⟨_, b⟩ := Bool.and_eq_true_iff.mp b
  obtain ⟨b, _⟩ := Bool.and_eq_true_iff.mp b
  exact ownB_ok (List.all_eq_true.mp b y (List.mem_of_getElem? hy))
theorem SaysX.kty (c : SaysX P fa fn x K) (i : Nat) {p : String × Str} (hy : x.kty[i]? = some p := by rfl) : KtyF K p.1 (He.ga K p.2) := by
  obtain ⟨_, b⟩ := Bool.and_eq_true_iff.mp c.b
  obtain ⟨_, b⟩ := Bool.and_eq_true_iff.mp b
  obtain ⟨_, b⟩ := Bool.and_eq_true_iff.mp b
  obtain ⟨_, b⟩ := Bool.and_eq_true_iff.mp b
  obtain ⟨_, b⟩ := Bool.and_eq_true_iff.mp b
  obtain ⟨b, _⟩ := Bool.and_eq_true_iff.mp b
  exact ktyB_ok (List.all_eq_true.mp b p (List.mem_of_getElem? hy))
theorem SaysX.ktn (c : SaysX P fa fn x K) (i : Nat) {p : Str × String} (hy : x.ktn[i]? = some p := by rfl) : PySem.W.kitOne K (.ref (He.ga K p.1)) (.type p.2) = some false := by
  obtain ⟨_, b⟩ := Bool.and_eq_true_iff.mp c.b
  obtain ⟨_, b⟩ := Bool.and_eq_true_iff.mp b
  obtain ⟨_, b⟩ := Bool.and_eq_true_iff.mp b
  obtain ⟨_, b⟩ := Bool.and_eq_true_iff.mp b
  obtain ⟨_, b⟩ := Bool.and_eq_true_iff.mp b
  obtain ⟨_, b⟩ := Bool.and_eq_true_iff.mp b
  obtain ⟨b, _⟩ := Bool.and_eq_true_iff.mp b
  exact of_decide_eq_true (List.all_eq_true.mp b p (List.mem_of_getElem? hy))
theorem SaysX.nfc (c : SaysX P fa fn x K) (i : Nat) {p : Str × Str} (hy : x.nfc[i]? = some p := by rfl) : NfC K (He.ga K p.1) (He.ga K p.2) := by
  obtain ⟨_, b⟩ := Bool.and_eq_true_iff.mp c.b
  obtain ⟨_, b⟩ := Bool.and_eq_true_iff.mp b
  obtain ⟨_, b⟩ := Bool.and_eq_true_iff.mp b
  obtain ⟨_, b⟩ := Bool.and_eq_true_iff.mp b
  obtain ⟨_, b⟩ := Bool.and_eq_true_iff.mp b
  obtain ⟨_, b⟩ := Bool.and_eq_true_iff.mp b
  obtain ⟨_, b⟩ := Bool.and_eq_true_iff.mp b
  have q := List.all_eq_true.mp b p (List.mem_of_getElem? hy)
  unfold nfcB at q
  simp only [Bool.and_eq_true, decide_eq_true_eq] at q
  exact ⟨q.1, q.2⟩
end
end EX
/-! an error of the program that is kept behind its handler: except (A, B) as e: x = e -/
namespace EK
open PySem PySem.Spec PyProof.Rows L2
/-- the kept error: its class, its dict -/
def Kep (a : Addr) (cls : Value) (d : Option Addr) : HO := .ext fun h => ∃ (ob : Obj) (fs : Array Value), h.get? a = some ob ∧ Zc cls d ob ∧ ob.data = .fields fs
theorem kep_new {P : Program} {w : World} {H : Hp} {h : Heap} {a : Addr} {cls : Value} {d : Option Addr} {ob : Obj} {fs : Array Value} (e : h.get? a = some ob) (z : Zc cls d ob) (q : ob.data = .fields fs) : ObjOk P w H h a (Kep a cls d) :=
  ⟨⟨ob, fs, e, z, q⟩, ⟨ob, e⟩, fun _ _ ⟨o, v, e1, r⟩ st => ⟨o, v, st o e1, r⟩⟩
section
variable {X : Cx} {pins pins' : List (Addr × Obj)} {σ : L2.St} {H : Hp} {s : Shared}
/-- an object that is new since the entry comes to be tracked -/
theorem track {a : Addr} {cls : Value} {d : Option Addr} {ob : Obj} {fs : Array Value} (I : Inv X pins' σ H s) (ha : s.heap.get? a = some ob) (hz : Zc cls d ob) (hd : ob.data = .fields fs) (na : H a = none) (n0 : X.s_0.heap.get? a = none)
    (sub : ∀ p ∈ X.pn ++ pins, p ∈ X.pn ++ pins' ∧ p.1 ≠ a) (nL : a ≠ X.env.locals) : Inv X pins σ (upd H a (Kep a cls d)) s := by
  have old : ∀ b o, X.s_0.heap.get? b = some o → b ≠ a := fun b o e q => by
    rw [q, n0] at e
    cases e
  refine ⟨I.ok, I.os, I.bare, ⟨I.base.keep, I.base.slot, fun b o e n hx => ?_, I.base.there, fun b xs e => ?_, fun b o u e => ?_, fun b ps e => ?_⟩, I.loc, I.cell, ?_, fun y c e => ?_, fun p hp => ?_, fun b u e => ?_, I.len⟩
  · rw [upd_ne (old b o e)]
    exact I.base.free b o e n hx
  · have q := I.base.tups b xs e
    rw [upd_ne (ne_of_none q na)]
    exact q
  · have q := I.base.frzs b o u e
    rw [upd_ne (ne_of_none q na)]
    exact q
  · obtain ⟨more, q⟩ := I.base.tbls b ps e
    exact ⟨more, by rw [upd_ne (ne_of_none q na)]; exact q⟩
  · rw [upd_ne (Ne.symm nL)]
    exact I.free
  · have ne : c ≠ a := fun q => by
      obtain ⟨v, o, ho, hc⟩ := I.cell y c e
      rw [q, ha] at ho
      cases ho
      rw [hd] at hc
      cases hc
    rw [upd_ne ne]
    exact I.freeC y c e
  · obtain ⟨m, ne⟩ := sub p hp
    obtain ⟨e, n, q⟩ := I.pin p m
    exact ⟨e, by rw [upd_ne ne]; exact n, q⟩
  · by_cases hb : b = a
    · subst hb
      rw [upd_same] at e
      cases e
      exact kep_new ha hz hd
    · rw [upd_ne hb] at e
      refine (I.hok b u e).stay (fun _ _ _ q => q) (fun c q => ?_) fun c xs q => ?_
      · rw [upd_ne (ne_of_none q na)]
        exact q
      · rw [upd_ne (ne_of_none q na)]
        exact q
/-- the air over a heap that has grown -/
theorem fly_grow {B h h' : Heap} {l : List Env} {a : Addr} {Z : Obj → Prop} (gr : ∀ b o, h.get? b = some o → h'.get? b = some o) (x : HandSPX.FlyingZ B l a Z h) : HandSPX.FlyingZ B l a Z h' := by
  obtain ⟨x1, x2, x3, oe, vs, T, oT, ts, y1, y2, y3, y4, y5, y6, y7, y8⟩ := x
  exact ⟨fun b o e => gr b o (x1 b o e), x2, Heap.FunFrames.of_keeps (fun b o e _ => ⟨o, gr b o e, rfl⟩) x3, oe, vs, T, oT, ts, gr _ _ y1, y2, y3, y4, y5, y6, gr _ _ y7, y8⟩
end
/-- what 'except (c1, c2) as n: suite' wishes; slot i is n's -/
def wKeep (K : PySem.W.Frag) (c1 c2 : Value) (i : Nat) (ts : Addr → TS) (D : Ends) : WX := fun cls d σ H =>
  PySem.W.exmAny K cls [c1, c2] = some true ∧ ∀ a, H a = none → ts a { nx := fun σ' H' => D.nx (σ'.set i none) (upd H' a (Kep a cls d)), rt := fun _ _ => False, bk := fun _ _ => False, ct := fun _ _ => False } (σ.set i (some (.ref a))) H
section
variable {X : Cx} {x1 x2 n : Str} {c1 c2 : Value} {i kk : Nat} {body suite : List Stmt} {b₀ : Stmt} {p1 p2 p3 p4 pos : Pos} {tb : WX → TS} {ts : Addr → TS}
theorem ps_try_keep (hex : X.ex = []) (hst : X.stack = X.env :: X.outer) (hfm : X.env.frame = some X.env.locals) (hN : X.N.Nodup) (hi : X.N[i]? = some n) (hln : X.env.kindOf n = some .local) (m1 : Names X x1 c1) (m2 : Names X x2 c2)
    (hbody : ∀ (W : WX) (pn : List (Addr × Obj)) (xe : Value → Shared → Prop), Takes (X.tr pn xe) W → PassesOwn (model X.prog X.w) X.A X.env xe → PSs (X.tr pn xe) body (tb W))
    (hsuite : ∀ (a : Addr) (oe : Obj) (pn : List (Addr × Obj)), PSs (X.suite a ((a, oe) :: pn)) (b₀ :: suite) (ts a)) :
    PS X (.Try body [.ExceptHandler (some (.Tuple [.Name x1 p1, .Name x2 p2] kk p3)) (some n) (b₀ :: suite) p4] [] [] pos) (fun D σ H => tb (wKeep X.K c1 c2 i ts D) D σ H) := by
  refine ⟨fun pins s σ H D I h => ?_⟩
  have okX := I.ok
  have frA : X.A.frames = some (X.env :: X.outer) := by rw [okX.frames, hst]
  refine wpAny_Try_except ?_
  refine wpAny_mono ((hbody (wKeep X.K c1 c2 i ts D) (X.pn ++ pins) (fun e t1 => wpAny (model X.prog X.w) X.A (noteFrame e X.env) (fun _ t2 => wpAny (model X.prog X.w) X.A (setFlight e none) (fun _ t3 =>
    wpAny (model X.prog X.w) X.A (handleBy e X.env [.ExceptHandler (some (.Tuple [.Name x1 p1, .Name x2 p2] kk p3)) (some n) (b₀ :: suite) p4]) (SP X pins D) X.xe t3) X.xe t2) X.xe t1) (fun u s' xx => ?_) PassesOwn.looking).run [] s σ H D (I.toTry _) h) (fun f s1 hsp => ?_) (fun e s1 he => he)
  · obtain ⟨a, B, sI, pinsW, σ1, H1, cls, d, rfl, JW, gnd, up, sky, na, os, ag, wm, wk⟩ := xx
    have J : Inv X pins σ1 H1 sI := JW.ofTry okX
    have skyX : Sky B (X.env :: X.outer) a (Zc cls d) X.env.locals s'.heap := by rw [← hst]; exact sky
    show wpAny (model X.prog X.w) X.A (noteFrame (.ref a) X.env) _ _ _
    refine Sky.land Zc.steady frA hfm skyX fun h3 fl3 up3 => ?_
    have noB : B.get? a = none := fl3.2.1
    have J3 : Inv X pins σ1 H1 { s' with heap := h3 } := J.landed gnd fl3.1 (up.trans up3) os ag
    obtain ⟨ob3, fs3, ea3, za3, da3⟩ := fl3.there
    have nfr : a ∉ frs (X.env :: X.outer) := fun hm => by
      obtain ⟨_, o', e', nf⟩ := fl3.2.2.1.mem hm
      rw [ea3] at e'
      cases e'
      exact nf _ da3
    have nL : a ≠ X.env.locals := fun q => nfr (List.mem_filterMap.mpr ⟨X.env, List.mem_cons_self, by rw [hfm, q]⟩)
    have nF : a ∉ X.fs := fun hm => by
      obtain ⟨e, he, q⟩ := List.mem_filterMap.mp hm
      exact nfr (List.mem_filterMap.mpr ⟨e, List.mem_cons_of_mem _ he, q⟩)
    have nst : a ∉ frs X.stack := by rw [hst]; exact nfr
    have nI : sI.heap.get? a = none := by
      cases q : sI.heap.get? a with
      | none => rfl
      | some o =>
        rw [gnd a o q nst] at noB
        cases noB
    have n0 : a ∉ X.ex → X.s_0.heap.get? a = none := fun hx => by
      cases q : X.s_0.heap.get? a with
      | none => rfl
      | some o =>
        obtain ⟨o', q'⟩ := J.base.there a o q hx
        rw [nI] at q'
        cases q'
    have nx : a ∉ X.ex := fun hx => by
      rw [hex] at hx
      cases hx
    have np : ∀ p ∈ X.pn ++ pins, p.1 ≠ a := fun p hp q => by
      have h1 := (J.pin p hp).1
      rw [q, nI] at h1
      cases h1
    have S3 := J3.suite ea3 da3 na nL nF
    refine wpAny_handleBy_cons (codeAny_handlers_test ?_) (by intro q; cases q)
    have name : ∀ {x : Str} {c : Value} {p : Pos} {Q : Value → Shared → Prop} {E : Value → Shared → Prop}, Names X x c → Q c { s' with heap := h3 } → wpAny (model X.prog X.w) (X.A.mark (some (.ref a))) (eval (.Name x p) X.env) Q E { s' with heap := h3 } := fun {x c p Q E} m q => by
      obtain ⟨hg, hdb, hm | ⟨hm, hv, hn⟩⟩ := m
      · exact ld_glob (X := X.suite a ((a, ob3) :: (X.pn ++ pins))) S3 hg hm q hdb
      · exact ld_blt (X := X.suite a ((a, ob3) :: (X.pn ++ pins))) S3 hg hm hv q hn hdb
    refine wpAny_Tuple ?_
    refine wpAny_items_cons (name m1 ?_)
    refine wpAny_items_cons (name m2 ?_)
    refine wpAny_items_nil ⟨by size_fits, ?_⟩
    generalize eg : (h3.push { cls := .type "tuple", data := .seq [c1, c2].toArray }) = g3
    have gr : ∀ b o, h3.get? b = some o → g3.get? b = some o := fun b o e => by
      rw [← eg]
      exact Heap.get?_push_of_some _ e
    have LT : PySem.W.Looks (model X.prog X.w) g3 (typeOf (.ref a)) cls := fun A Q E t k q => wpAny_typeOf_ref (k _ _ (gr _ _ ea3)) (by rw [za3.1]; exact q)
    have LM := PySem.W.exm_tup2 (M := model X.prog X.w) (J3.kIn.keeps gr) LT (by rw [← eg]; exact Heap.get?_push_size h3 rfl) wm
    refine LM.here ?_
    refine codeAny_handlers_suite_as ?_
    have flg := fly_grow gr fl3
    refine HandSPX.lands_againZ flg fun h4 fl4 up4 => ?_
    have J4 : Inv X pins σ1 H1 { s' with heap := h4 } := J.landed gnd fl4.1 ((up.trans (up3.trans (Heap.UpToSlots.of_keeps gr))).trans up4) os ag
    obtain ⟨ob4, fs4, ea4, za4, da4⟩ := fl4.there
    have S4 := J4.suite ea4 da4 na nL nF
    refine store_ok (X := X.suite a ((a, ob4) :: (X.pn ++ pins))) (v := .ref a) S4 hN hi (.inl hln) rfl (fun s5 S5 => ?_) (.inr hln)
    refine wpAny_mono ((hsuite a ob4 (X.pn ++ pins)).run [] s5 _ H1 _ S5 (wk a na)) (fun f s6 hsp => ?_) (fun _ _ q => False.elim q)
    cases f with
    | next =>
      obtain ⟨σ6, H6, S6, q6⟩ := hsp
      have mem6 : ∀ p ∈ X.pn ++ (a, ob4) :: pins, p ∈ (X.suite a ((a, ob4) :: (X.pn ++ pins))).pn ++ [] := fun p hp => by
        show p ∈ ((a, ob4) :: (X.pn ++ pins)) ++ []
        simp only [List.mem_append, List.mem_cons, List.append_nil] at hp ⊢
        rcases hp with h | h | h
        · exact .inr (.inl h)
        · exact .inl h
        · exact .inr (.inr h)
      have T6 : Inv X ((a, ob4) :: pins) σ6 H6 s6 := ⟨okX, S6.os, S6.bare, S6.base, S6.loc, S6.cell, S6.free, S6.freeC, fun p hp => S6.pin p (mem6 p hp), S6.hok, S6.len⟩
      refine gone_ok T6 hN hi hln fun s7 J7 => ?_
      obtain ⟨e7, n7, _⟩ := J7.pin (a, ob4) (List.mem_append_right _ List.mem_cons_self)
      exact ⟨_, _, track J7 e7 za4 da4 n7 (n0 nx) (fun p hp => ⟨by rcases List.mem_append.mp hp with h | h; exact List.mem_append_left _ h; exact List.mem_append_right _ (List.mem_cons_of_mem _ h), np p hp⟩) nL, q6⟩
    | brk =>
      obtain ⟨_, _, _, q6⟩ := hsp
      exact False.elim q6
    | cont =>
      obtain ⟨_, _, _, q6⟩ := hsp
      exact False.elim q6
    | ret u =>
      obtain ⟨_, _, _, _, _, q6⟩ := hsp
      exact False.elim q6
  · cases f with
    | next =>
      obtain ⟨σ', H', JW, q⟩ := hsp
      exact wpAny_execs_nil ⟨σ', H', JW.ofTry okX, q⟩
    | brk =>
      obtain ⟨σ', H', JW, q⟩ := hsp
      exact ⟨σ', H', JW.ofTry okX, q⟩
    | cont =>
      obtain ⟨σ', H', JW, q⟩ := hsp
      exact ⟨σ', H', JW.ofTry okX, q⟩
    | ret u =>
      obtain ⟨v, σ', H', JW, r, q⟩ := hsp
      exact ⟨v, σ', H', JW.ofTry okX, r, q⟩
end
end EK
namespace EK
open PySem PySem.Spec PyProof.Rows L2
/-! ### what is asked of a kept error -/
/-- isinstance(x, c), x a kept error -/
def rIsK (K : PySem.W.Frag) : List V → Hp → VK → Prop := fun xs H Q => ∃ (a C : Addr) (d : Option Addr) (c : V) (cv : Value) (b : Bool), xs = [.ref a, c] ∧ H a = some (Kep a (.ref C) d) ∧ EX.ErrC K C ∧ (∀ dd, d = some dd → ∃ fs, H dd = some (.xd fs)) ∧ (∀ u, RelV c u → u = cv) ∧ PySem.W.kitOne K (.ref C) cv = some b ∧ Q (.bl b) H
theorem kep_inst {X : Cx} {pins : List (Addr × Obj)} {σ : L2.St} {H : Hp} {s : Shared} {a C : Addr} {d : Option Addr} (I : L2.Inv X pins σ H s) (ha : H a = some (Kep a (.ref C) d)) (hd : ∀ dd, d = some dd → ∃ fs, H dd = some (.xd fs)) : ∃ ob od, PySem.W.InstAt s.heap a ob C od := by
  obtain ⟨⟨ob, fs, e, z, q⟩, _, _⟩ := I.hok a _ ha
  cases d with
  | none => exact ⟨ob, none, e, z.1, by unfold PySem.W.notCls; rw [q] <;> rfl, by rw [z.2]; trivial⟩
  | some dd =>
    obtain ⟨gs, ed⟩ := hd dd rfl
    have hx : ObjOk X.prog X.w H s.heap dd (.xd gs) := I.hok dd _ ed
    obtain ⟨mA, hns, _⟩ := hx
    obtain ⟨od, ho, _⟩ := lookIn_ns hns
    exact ⟨ob, some od, e, z.1, by unfold PySem.W.notCls; rw [q] <;> rfl, by rw [z.2]; exact ho⟩
theorem call_isK {X : Cx} : CallR X (.builtin "isinstance") (rIsK X.K) := by
  intro pins s σ H xs us Q I r h
  obtain ⟨a, C, d, c, cv, b, rfl, ha, T, hd, hcv, e, q⟩ := h
  obtain ⟨ob, od, J⟩ := kep_inst I ha hd
  cases r with
  | cons rx rr =>
    cases rr with
    | cons rt rr =>
      cases rr
      cases rx
      cases hcv _ rt
      exact PySem.W.kia_one (EX.kit_err T) I.kIn J e (fun z => nomatch z) fun tk => ⟨.bl b, H, I.kept (t' := tk) fun _ _ z => z, rfl, q⟩
/-- x.f, x a kept error -/
def tXfK (K : PySem.W.Frag) (f : Str) (te : TE) : TE := fun σ H Q => te σ H fun x H1 => ∃ (a C dd : Addr) (fs : List (Str × V)) (v : V), x = .ref a ∧ H1 a = some (Kep a (.ref C) (some dd)) ∧ EX.ErrC K C ∧ PySem.W.findIn K (.ref C) f = some none ∧ H1 dd = some (.xd fs) ∧ fs.lookup f = some v ∧ Q v H1
theorem pe_xfK {X : Cx} {e : Expr} {te : TE} {pos : Pos} {n : Str} (he : PE X e te) (hb : attributeBase e n X.env (eval e X.env) = eval e X.env := by rfl) : PE X (.Attribute e n pos) (tXfK X.K n te) := by
  refine ⟨fun pins s σ H Q I h => ?_⟩
  refine attr_of hb (thn (he.run pins s σ H _ I h) fun u s1 hh => ?_)
  obtain ⟨x, H1, I1, rx, a, C, dd, fs, v, ex, ha, T, hno, ea, l, q⟩ := hh
  subst ex
  obtain rfl : u = Value.ref a := rx
  obtain ⟨⟨ob, gs, e1, z, dq⟩, _, _⟩ := I1.hok a _ ha
  have hx : ObjOk X.prog X.w H1 s1.heap dd (.xd fs) := I1.hok dd _ ea
  obtain ⟨mA, hns, hr⟩ := hx
  obtain ⟨od, ho, hl⟩ := lookIn_ns hns
  obtain ⟨u, hu, ru⟩ := RelO.some_of (v := v) (o := mA n) (by rw [← l]; exact hr n)
  have J : PySem.W.InstAt s1.heap a ob C (some od) := ⟨e1, z.1, by unfold PySem.W.notCls; rw [dq] <;> rfl, by rw [z.2]; exact ho⟩
  exact HandSPX.exc_get I1.kIn J T.xf.ga T.xf.gg T.xf.exC (PySem.W.findObj_own T.xf.hdC hno rfl (by rw [hl, hu])) (handed_of ru) ⟨v, H1, I1.tok _, ru, q⟩
/-! ### the wish behind a state of known length -/
theorem takes_len {X : Cx} {W : WX} (t : Takes X W) : Takes X (fun c d σ H => σ.length = X.N.length → W c d σ H) := fun u s' ⟨a, B, sI, pins, σ, H, cls, d, e, I, gnd, up, sky, na, os, ag, w⟩ =>
  t u s' ⟨a, B, sI, pins, σ, H, cls, d, e, I, gnd, up, sky, na, os, ag, w I.len⟩
/-- a reading from a stronger one -/
theorem pe_more {X : Cx} {e : Expr} {te : TE} (he : PE X e te) : PE X e (fun σ H Q => ∃ Q' : VK, te σ H Q' ∧ ∀ v H', Q' v H' → Q v H') :=
  ⟨fun pins s σ H Q I ⟨Q', h, m⟩ => wpAny_mono (he.run pins s σ H Q' I h) (fun u s1 ⟨v, H1, I1, r, q⟩ => ⟨v, H1, I1, r, m _ _ q⟩) (fun _ _ x => x)⟩
/-- a def whose code object is known -/
theorem funD_okC {P : Program} {w : World} {K : PySem.W.Frag} {mg : Str → Option Value} {base : Heap} {x qual : Str} {params : Arguments} {body : List Stmt} {scope : Scope} {dvs : List V} {kws : List (Str × V)} {f c : Addr} {fd : FuncData} {CX : CXT} {N ps : List Str} {k : Nat} {sp : Sp}
    (F : FunD K x qual params body scope dvs kws f fd) (hc : ∀ oc od gd osl, K.lookup f = some ⟨oc, od, .func gd, osl⟩ → gd.code = .ref c) (S : FnScope N ps scope) (len : ∀ vs H Q E, sp vs H Q E → vs.length = ps.length)
    (bd : ∀ (A : Around) (outer : List Env) (s : Shared) (H : Hp) (vs : List V) (Q : VK) (E : XK), Room k (A.deeper (envOfC qual scope s.heap.objs.size f (.ref c))) → sp vs H Q E →
      ∃ t, PSs (cxOf CX P w K mg base N qual scope f (.ref c) A outer s H E) body t ∧ t { nx := fun _ H' => Q .non H', rt := Q } (start N vs) H) : FnOk P w K mg base CX (k + 1) f fd ps sp := by
  obtain ⟨oc, od, dV, kV, doc, pm, an, cdv, ct, osl, rfl, lk, hcd, _, _⟩ := F.ex
  have e : cdv = .ref c := hc _ _ _ _ lk
  subst e
  exact fn_of lk hcd S len fun A outer s H vs Q E hr hsp => bd A outer s H vs Q E hr hsp
end EK
/-! a try whose clauses 'except A as e', 'except B as e' all name the error; a class made that may raise -/
namespace EK
open PySem PySem.Spec PyProof.Rows L2
abbrev Cl1 := Value × (Addr → Value → Option Addr → TS)
/-- the ends of a clause's suite: slot i is empty behind it -/
def EndsI (i : Nat) (D : Ends) : Ends := { nx := fun σ H => D.nx (σ.set i none) H, rt := D.rt, bk := fun σ H => D.bk (σ.set i none) H, ct := fun σ H => D.ct (σ.set i none) H }
/-- one of the clauses takes the error, those before it do not -/
def wEach (K : PySem.W.Frag) (i : Nat) (D : Ends) : List Cl1 → WX
  | [] => fun _ _ _ _ => False
  | (c, ts) :: l => fun cls d σ H => (PySem.W.exmOne K cls c = some true ∧ ∀ a, H a = none → ts a cls d (EndsI i D) (σ.set i (some (.ref a))) H) ∨ (PySem.W.exmOne K cls c = some false ∧ wEach K i D l cls d σ H)
inductive Each (X : Cx) (n : Str) : List ExceptHandler → List Cl1 → Prop
  | nil : Each X n [] []
  | cons {x : Str} {c : Value} {ts : Addr → Value → Option Addr → TS} {b₀ : Stmt} {suite : List Stmt} {np pos : Pos} {hds : List ExceptHandler} {l : List Cl1} (hc : Names X x c)
      (hsu : ∀ (a : Addr) (oe : Obj) (cls : Value) (d : Option Addr) (pn : List (Addr × Obj)), Zc cls d oe → (∃ vs, oe.data = .fields vs) → PSs (X.suite a ((a, oe) :: pn)) (b₀ :: suite) (ts a cls d)) (r : Each X n hds l) :
      Each X n (.ExceptHandler (some (.Name x np)) (some n) (b₀ :: suite) pos :: hds) ((c, ts) :: l)
section
variable {X : Cx} {n : Str} {i : Nat} {body : List Stmt} {h₀ : ExceptHandler} {hds : List ExceptHandler} {l : List Cl1} {pos : Pos} {tb : WX → TS}
theorem ps_try_each (hst : X.stack = X.env :: X.outer) (hfm : X.env.frame = some X.env.locals) (hN : X.N.Nodup) (hi : X.N[i]? = some n) (hln : X.env.kindOf n = some .local)
    (hbody : ∀ (W : WX) (pn : List (Addr × Obj)) (xe : Value → Shared → Prop), Takes (X.tr pn xe) W → PassesOwn (model X.prog X.w) X.A X.env xe → PSs (X.tr pn xe) body (tb W))
    (hh : Each X n (h₀ :: hds) l) : PS X (.Try body (h₀ :: hds) [] [] pos) (fun D σ H => tb (wEach X.K i D l) D σ H) := by
  refine ⟨fun pins s σ H D I h => ?_⟩
  have okX := I.ok
  have frA : X.A.frames = some (X.env :: X.outer) := by rw [okX.frames, hst]
  refine wpAny_Try_except ?_
  refine wpAny_mono ((hbody (wEach X.K i D l) (X.pn ++ pins) (fun e t1 => wpAny (model X.prog X.w) X.A (noteFrame e X.env) (fun _ t2 => wpAny (model X.prog X.w) X.A (setFlight e none) (fun _ t3 =>
    wpAny (model X.prog X.w) X.A (handleBy e X.env (h₀ :: hds)) (SP X pins D) X.xe t3) X.xe t2) X.xe t1) (fun u s' xx => ?_) PassesOwn.looking).run [] s σ H D (I.toTry _) h) (fun f s1 hsp => ?_) (fun e s1 he => he)
  · obtain ⟨a, B, sI, pinsW, σ1, H1, cls, d, rfl, JW, gnd, up, sky, na, os, ag, wish⟩ := xx
    have J : Inv X pins σ1 H1 sI := JW.ofTry okX
    have skyX : Sky B (X.env :: X.outer) a (Zc cls d) X.env.locals s'.heap := by rw [← hst]; exact sky
    show wpAny (model X.prog X.w) X.A (noteFrame (.ref a) X.env) _ _ _
    refine Sky.land Zc.steady frA hfm skyX fun h3 fl3 up3 => ?_
    have J3 : Inv X pins σ1 H1 { s' with heap := h3 } := J.landed gnd fl3.1 (up.trans up3) os ag
    obtain ⟨ob3, fs3, ea3, za3, da3⟩ := fl3.there
    have nfr : a ∉ frs (X.env :: X.outer) := fun hm => by
      obtain ⟨_, o', e', nf⟩ := fl3.2.2.1.mem hm
      rw [ea3] at e'
      cases e'
      exact nf _ da3
    have nL : a ≠ X.env.locals := fun q => nfr (List.mem_filterMap.mpr ⟨X.env, List.mem_cons_self, by rw [hfm, q]⟩)
    have nF : a ∉ X.fs := fun hm => by
      obtain ⟨e, he, q⟩ := List.mem_filterMap.mp hm
      exact nfr (List.mem_filterMap.mpr ⟨e, List.mem_cons_of_mem _ he, q⟩)
    have S3 := J3.suite ea3 da3 na nL nF
    have LT : PySem.W.Looks (model X.prog X.w) h3 (typeOf (.ref a)) cls := fun A Q E t k q => wpAny_typeOf_ref (k _ _ ea3) (by rw [za3.1]; exact q)
    have name : ∀ {x : Str} {c : Value} {p : Pos} {Q : Value → Shared → Prop} {E : Value → Shared → Prop}, Names X x c → Q c { s' with heap := h3 } → wpAny (model X.prog X.w) (X.A.mark (some (.ref a))) (eval (.Name x p) X.env) Q E { s' with heap := h3 } := fun {x c p Q E} m q => by
      obtain ⟨hg, hdb, hm | ⟨hm, hv, hn⟩⟩ := m
      · exact ld_glob (X := X.suite a ((a, ob3) :: (X.pn ++ pins))) S3 hg hm q hdb
      · exact ld_blt (X := X.suite a ((a, ob3) :: (X.pn ++ pins))) S3 hg hm hv q hn hdb
    have each : ∀ {hs : List ExceptHandler} {m : List Cl1}, Each X n hs m → wEach X.K i D m cls d σ1 H1 → wpAny (model X.prog X.w) X.A (handleBy (.ref a) X.env hs) (SP X pins D) X.xe { s' with heap := h3 } := by
      intro hs m hk
      induction hk with
      | nil => exact fun q => False.elim q
      | @cons x c ts b₀ suite np pos2 hs2 m2 hc hsu r ih =>
        intro q
        refine wpAny_handleBy_cons (codeAny_handlers_test (name hc ?_)) (by intro q; cases q)
        rcases q with ⟨yes, go⟩ | ⟨no, go⟩
        · refine (PySem.W.exm_one (M := model X.prog X.w) J3.kIn LT yes).here ?_
          refine codeAny_handlers_suite_as ?_
          refine HandSPX.lands_againZ fl3 fun h4 fl4 up4 => ?_
          have J4 : Inv X pins σ1 H1 { s' with heap := h4 } := J.landed gnd fl4.1 ((up.trans up3).trans up4) os ag
          obtain ⟨ob4, fs4, ea4, za4, da4⟩ := fl4.there
          have S4 := J4.suite ea4 da4 na nL nF
          refine store_ok (X := X.suite a ((a, ob4) :: (X.pn ++ pins))) (v := .ref a) S4 hN hi (.inl hln) rfl (fun s5 S5 => ?_) (.inr hln)
          refine wpAny_mono ((hsu a ob4 cls d (X.pn ++ pins) za4 ⟨_, da4⟩).run [] s5 _ H1 _ S5 (go a na)) (fun f s6 hsp => ?_) (fun _ _ q => False.elim q)
          have tail : ∀ {σ6 : L2.St} {H6 : Hp} {Q : Shared → Prop}, Inv (X.suite a ((a, ob4) :: (X.pn ++ pins))) [] σ6 H6 s6 → (∀ s7, Inv X pins (σ6.set i none) H6 s7 → Q s7) →
              wpAny (model X.prog X.w) X.A (do bindName X.env n .none; unbindBehindTheSuite X.env n pos2) (fun _ s7 => Q s7) X.xe s6 := fun {σ6 H6 Q} S6 hq => gone_ok (S6.unsuite okX) hN hi hln hq
          cases f with
          | ret u =>
            obtain ⟨v6, σ6, H6, S6, r6, q6⟩ := hsp
            exact tail S6 fun s7 J7 => ⟨_, _, _, J7, r6, q6⟩
          | next =>
            obtain ⟨σ6, H6, S6, q6⟩ := hsp
            exact tail S6 fun s7 J7 => ⟨_, _, J7, q6⟩
          | brk =>
            obtain ⟨σ6, H6, S6, q6⟩ := hsp
            exact tail S6 fun s7 J7 => ⟨_, _, J7, q6⟩
          | cont =>
            obtain ⟨σ6, H6, S6, q6⟩ := hsp
            exact tail S6 fun s7 J7 => ⟨_, _, J7, q6⟩
        · exact (PySem.W.exm_one (M := model X.prog X.w) J3.kIn LT no).here (ih go)
    exact each hh wish
  · cases f with
    | ret u =>
      obtain ⟨v, σ', H', JW, r, q⟩ := hsp
      exact ⟨v, σ', H', JW.ofTry okX, r, q⟩
    | next =>
      obtain ⟨σ', H', JW, q⟩ := hsp
      exact wpAny_execs_nil ⟨σ', H', JW.ofTry okX, q⟩
    | brk =>
      obtain ⟨σ', H', JW, q⟩ := hsp
      exact ⟨σ', H', JW.ofTry okX, q⟩
    | cont =>
      obtain ⟨σ', H', JW, q⟩ := hsp
      exact ⟨σ', H', JW.ofTry okX, q⟩
end
section
variable {X : Cx} {CX : CXT} {k : Nat} {f C : Addr} {fd : FuncData} {ps : List Str} {sp : Sp} {E : L2.St → XK} {x : Str} {p pos : Pos} {e : Expr} {es : List Expr} {t : TA}
/-- C(e, ..): a new object, or what __init__ raises, told by the names' state -/
def tMakeS (C : Addr) (sp : Sp) (E : L2.St → XK) (t : TA) : TE := fun σ H Q => t σ H fun vs H1 => ∀ x dx, H1 x = none → H1 dx = none → dx ≠ x → sp (.ref x :: vs) (upd (upd H1 dx (.own x)) x (.ins C dx [])) (fun v H2 => v = .non ∧ Q (.ref x) H2) (E σ)
theorem pe_makeS (M : Mk X.K C f) (F : FnOk X.prog X.w X.K X.mg X.base CX k f fd ps sp) (hr : Room (k + 1) X.A) (hg : Gl X x) (hm : X.mg x = some (.ref C)) (hb : Binds X.K fd ps []) (hx : ∀ σ, PassesAt CX X σ (E σ))
    (ha : PA X (e :: es) t) (hdb : (x == ("__debug__" : Str)) = false := by decide) (he : starEach (e :: es) X.env = (false, eval e X.env) :: starEach es X.env := by rfl) (hpl : (backTo pos (starEach es X.env)).any (·.1) = false := by rfl) :
    PE X (.Call (.Name x p) (e :: es) [] pos) (tMakeS C sp E t) := by
  refine ⟨fun pins s σ H Q I h => ?_⟩
  refine wpAny_Call_Name_kw (ld_glob I hg hm ?_ hdb)
  refine PySem.W.callWith_K (h₀ := X.base) I.ok.mod.kin M.kp (thn (ha.run pos pins s σ H _ I h) fun us s1 ⟨vs, H1, I1, r, q⟩ => ⟨I1.kIn, ?_⟩) he hpl
  have a0 := I1.hok.fresh (Nat.le_refl s1.heap.objs.size)
  have a1 := I1.hok.fresh (Nat.le_succ s1.heap.objs.size)
  have hq := q (s1.heap.objs.size + 1) s1.heap.objs.size a1 a0 (Nat.ne_of_lt (Nat.lt_succ_self _))
  have J := Inv.made (C := C) I1
  have rv : Vals (V.ref (s1.heap.objs.size + 1) :: vs) (Value.ref (s1.heap.objs.size + 1) :: us) := .cons rfl r
  have hl : ((Value.ref (s1.heap.objs.size + 1) :: us) ++ ([] : List Value)).length = ps.length := by
    rw [List.append_nil, ← F.len _ _ _ _ hq]
    exact rv.length.symm
  refine wpAny_call (make_map (f := f) I1.kIn M.makes M.init (beq_iff_eq.mp M.fn) (codeAny_mono (F.run _ X.stack _ _ ⟨Value.ref (s1.heap.objs.size + 1) :: us, []⟩ (Value.ref (s1.heap.objs.size + 1) :: us) _ _ (E σ) (hr.make C us [])
    (J.env0.make C us []) (by have b := hb _ (Value.ref (s1.heap.objs.size + 1) :: us) J.kIn hl; rw [List.append_nil] at b; exact b) rv hq) fun r s' hq' => ?_))
  match r, hq' with
  | .error er, hq' => exact hx σ pins _ _ er s' J hq'
  | .ok (.ret u), hq' =>
    obtain ⟨v, H', I3, r3, ev, q3⟩ := J.after hq'
    subst ev
    exact ⟨r3, ⟨V.ref (s1.heap.objs.size + 1), H', I3, rfl, q3⟩⟩
end
end EK
/-! The law's own def, run where nothing is being shown (no guard stands): repr of lists and tuples there. -/
namespace GA
open PySem PySem.Spec PyProof.Rows L2
/-- the def keeps its promise when the law's caller calls it -/
structure FnAt (P : Program) (w : World) (K : PySem.W.Frag) (mg : Str → Option Value) (base : Heap) (f : Addr) (fd : FuncData) (ps : List Str) (sp : Sp) : Prop where
  run : ∀ (s : Shared) (H : Hp) (args : Args) (us : List Value) (vs : List V) (Q : VK) (E : XK), Env0 P w K mg base callerA [] s H → BindsTo s fd args (ps.zip us) → Vals vs us → sp vs H Q E →
    codeAny (model P w) callerA (.call (.ref f) args) (CR CX0 [] P w H s Q E) s
section
variable {P : Program} {w : World} {K : PySem.W.Frag} {mg : Str → Option Value} {base : Heap} {x qual : Str} {params : Arguments} {body : List Stmt} {scope : Scope} {dvs : List V} {kws : List (Str × V)} {f : Addr} {fd : FuncData}
theorem okAt {N ps : List Str} {k : Nat} {sp : Sp} (F : FunD K x qual params body scope dvs kws f fd) (S : FnScope N ps scope) (hR : Room (k + 1) callerA) (len : ∀ vs H Q E, sp vs H Q E → vs.length = ps.length)
    (bd : ∀ (cdv : Value) (s : Shared) (H : Hp) (vs : List V) (Q : VK) (E : XK), Room k (callerA.deeper (envOfC qual scope s.heap.objs.size f cdv)) → sp vs H Q E →
      ∃ t, PSs (cxOf CX0 P w K mg base N qual scope f cdv callerA [] s H E) body t ∧ t { nx := fun _ H' => Q .non H', rt := Q } (start N vs) H) : FnAt P w K mg base f fd ps sp := by
  obtain ⟨oc, od, dV, kV, doc, pm, an, cdv, ct, osl, rfl, lk, hcd, _, _⟩ := F.ex
  refine ⟨fun s H args us vs Q E e0 hb r hsp => ?_⟩
  have vl := len _ _ _ _ hsp
  have kx : K.In s.heap := e0.mod.kin.keeps fun b o e => (e0.bs b o e).1
  have nl : s.heap.NoLimit := e0.mod.nolimit.keeps fun b o e => (e0.bs b o e).1
  have kinds : ∀ y ∈ ps.zip us, scope.names.lookup y.1 = some .local ∨ (scope.names.lookup y.1 = some .cell ∧ ((cellsFrom (s.heap.objs.size + 1) scope.names []).lookup y.1).isSome = true) := by
    rintro ⟨y1, y2⟩ hy
    rcases S.par y1 (List.of_mem_zip hy).1 with q | q
    · left; exact q
    · right; exact ⟨q, PySem.W.cellsFrom_some _ _ _ (.inl q)⟩
  refine codeAny_call_function hR.depth (kx _ _ lk) rfl S.co S.gen rfl (PySem.W.codeRec_of kx hcd) (hb _ _ _ _ ?_)
  refine wpAny_newFunctionEnv_cells S.kind kinds fun env ee s1 ic => ?_
  subst ee
  refine ⟨nl.keeps ic.toInCall.keep, codeAny_func ?_⟩
  obtain ⟨t, pt, rd⟩ := bd cdv s H vs Q E (hR.deeper _) hsp
  have iv : L2.Inv (cxOf CX0 P w K mg base N qual scope f cdv callerA [] s H E) [] (start N vs) H s1 := inv_start S hR.hd e0 vl r ic
  refine wpAny_mono (pt.run [] s1 (start N vs) H _ iv rd) (fun fl s2 q => ?_) fun e s2 q => q
  have out : ∀ {σ2 : L2.St} {H2 : Hp} {a : V} {u : Value}, L2.Inv (cxOf CX0 P w K mg base N qual scope f cdv callerA [] s H E) [] σ2 H2 s2 → RelV a u → Q a H2 → CE [] P w H s Q u s2 := by
    intro σ2 H2 a u J ra qa
    exact ⟨a, H2, J.os, J.bare, J.base, J.hok, ra, qa⟩
  cases fl with
  | ret u =>
    obtain ⟨a, σ2, H2, J, ra, qa⟩ := q
    exact out J ra qa
  | next =>
    obtain ⟨σ2, H2, J, qa⟩ := q
    exact out (a := V.non) (u := Value.none) J rfl qa
  | brk =>
    obtain ⟨_, _, _, z⟩ := q
    exact z.elim
  | cont =>
    obtain ⟨_, _, _, z⟩ := q
    exact z.elim
end
/-- the law's call -/
theorem lawAt {P : Program} {w : World} {K : PySem.W.Frag} {mg mb : Str → Option Value} {fa a : Addr} {fd : FuncData} {x : Str} {sp : Sp} {s₁ : Shared} {vs : List Value} {ns : List Int}
    (kx : K.In s₁.heap) (hn : s₁.heap.Ns mainGlobals mg) (hb : s₁.heap.Ns builtinsNs mb) (hbb : ∀ y : Str, y ≠ "__name__" → mb y = bootBuiltins y) (lim : s₁.heap.NoLimit) (hg : s₁.gens = #[])
    (ha : s₁.heap.get? a = some { cls := .type "list", data := .seq vs.toArray }) (hi : IntsAre vs ns) (hl : ns.length ≤ sizeLine)
    (F : ∀ base : Heap, K.In base → base.Ns mainGlobals mg → FnAt P w K mg base fa fd [x] sp) (bd : ∀ (s : Shared) (u : Value), BindsTo s fd ⟨[u], []⟩ [(x, u)])
    (hsp : ∀ H : Hp, Only H → SqL K H a (ns.map V.int) → sp [.ref a] H (fun v _ => v = .bl true) fun _ _ _ => False) :
    codeAny (model P w) callerA (.call (.ref fa) ⟨[.ref a], []⟩) (fun r s' => r = .ok (.ret (.bool true)) ∧ OldK s₁.heap s'.heap ∧ s'.os = s₁.os ∧ AllBare s'.gens) s₁ := by
  have rel := vals_ints hi
  have lenV := hi.length
  have main : ∀ H : Hp, Only H → SqL K H a (ns.map V.int) → HOk P w H s₁.heap → (∀ b, H b ≠ none → b = a) → (H a ≠ none → K.lookup a = none) →
      codeAny (model P w) callerA (.call (.ref fa) ⟨[.ref a], []⟩) (fun r s' => r = .ok (.ret (.bool true)) ∧ OldK s₁.heap s'.heap ∧ s'.os = s₁.os ∧ AllBare s'.gens) s₁ := by
    intro H only sq ok onlyA notK
    have low : ∀ {b : Addr} {o : Obj}, s₁.heap.get? b = some o → H b = none → (hidT s₁.heap H).get? b = some o := fun e z => hidT_get e z
    have noD : ∀ {b : Addr} {o : Obj} {es : Array DictEntry} {ep : Nat}, s₁.heap.get? b = some o → o.data = .dict es ep → H b = none := by
      intro b o es ep e d
      cases q : H b with
      | none => rfl
      | some u =>
        have eb := onlyA b (by rw [q]; simp)
        subst eb
        rw [ha] at e
        cases e
        cases (show Data.seq vs.toArray _ = Data.dict es ep from d)
    have nsL : ∀ {b : Addr} {m : Str → Option Value}, s₁.heap.Ns b m → (hidT s₁.heap H).Ns b m := by
      rintro b m ⟨o, es, ep, e, d, r⟩
      exact ⟨o, es, ep, low e (noD e d), d, r⟩
    have kb : K.In (hidT s₁.heap H) := fun b o e => low (kx b o e) (by
      cases q : H b with
      | none => rfl
      | some u =>
        have eb := onlyA b (by rw [q]; simp)
        subst eb
        have z := notK (by rw [q]; simp)
        rw [z] at e
        cases e)
    have hM : Mod K mg (hidT s₁.heap H) := ⟨kb, nsL hn, ⟨mb, nsL hb, hbb⟩, by
      obtain ⟨mc, z1, z2⟩ := lim
      exact ⟨mc, nsL z1, z2⟩⟩
    have e0 : Env0 P w K mg (hidT s₁.heap H) callerA [] s₁ H := ⟨rfl, hM, fun b o e => of_hidT e, Nat.le_of_eq (hidT_size _ _), trivial, fun b q => absurd (show b ∈ ([] : List Addr) from q) (by simp), ok, .of_eq hg⟩
    refine codeAny_mono ((F _ kb (nsL hn)).run s₁ H ⟨[.ref a], []⟩ [.ref a] [.ref a] _ _ e0 (bd s₁ (.ref a)) (.cons rfl .nil) (hsp H only sq)) fun r s2 h => ?_
    cases r with
    | error e => exact (show False from h).elim
    | ok fl =>
      cases fl with
      | next => exact (show False from h).elim
      | brk => exact (show False from h).elim
      | cont => exact (show False from h).elim
      | ret u =>
        obtain ⟨v, H2, os, bare, un, ok2, rv, qv⟩ := h
        obtain rfl : v = .bl true := qv
        obtain rfl : u = Value.bool true := rv
        refine ⟨rfl, OldK.of_keep fun b o e => ?_, os, bare⟩
        cases q : H b with
        | none => exact un.keep b o e q (fun z => absurd (show b ∈ ([] : List Addr) from z) (by simp)) (by simp)
        | some u =>
          rcases only b with z | ⟨ob, xs, z⟩
          · rw [q] at z
            cases z
          · have z2 := un.frzs b ob _ z
            obtain ⟨e1, _⟩ := ok b _ z
            obtain ⟨e2, _⟩ := ok2 b _ z2
            rw [e] at e1
            cases e1
            exact e2
  cases hk : K.lookup a with
  | some o =>
    have e := kx a o hk
    rw [ha] at e
    cases e
    exact main (fun _ => none) (fun _ => .inl rfl) (.inr ⟨_, vs.toArray, _, hk, rfl, rfl, rfl, by rw [List.size_toArray, lenV]; exact hl, by simpa using rel⟩) (fun b u z => by cases (show (none : Option HO) = some u from z)) (fun b z => absurd rfl z) fun z => absurd rfl z
  | none =>
    refine main (fun b => if b = a then some (.frz { cls := .type "list", data := .seq vs.toArray } (.lst (ns.map V.int))) else none) (fun b => ?_) (.inl (.inr ⟨{ cls := .type "list", data := .seq vs.toArray }, if_pos rfl⟩)) (fun b u z => ?_) (fun b z => ?_) fun _ => hk
    · by_cases c : b = a
      · exact .inr ⟨_, _, if_pos c⟩
      · exact .inl (if_neg c)
    · by_cases c : b = a
      · have y := (if_pos c).symm.trans z
        cases y
        subst c
        exact ⟨ha, by rw [List.length_map]; exact hl, vs, _, rel, ha⟩
      · have y := (if_neg c).symm.trans z
        cases y
    · by_cases c : b = a
      · exact c
      · exact absurd (if_neg c) z
/-- the end of a law by such a promise -/
theorem walkAt {l : PySem.W.OpenLaw} {n : Nat} {q : Program} {loose : List Str} {XP : (Str → Option Value) → Heap → Prop} {YP : World → Heap → Prop} {d : DefRec} {x : Str}
    (hn : l.most = some n) (hn2 : n ≤ sizeLine) (hdf : d.params.defaults = [])
    (F : ∀ (w : World) (mg : Str → Option Value) (fa : Addr) (h : Heap), YP w h → h.Ns mainGlobals mg → mg d.name = some (.ref fa) →
      ∃ (K : PySem.W.Frag) (fd : FuncData) (sp : Sp), K.In h ∧ (∀ (s : Shared) (u : Value), BindsTo s fd ⟨[u], []⟩ [(x, u)]) ∧
        (∀ (H : Hp) (a : Addr) (ns : List Int), ns.length ≤ n → Only H → SqL K H a (ns.map V.int) → sp [.ref a] H (fun v _ => v = .bl true) fun _ _ _ => False) ∧
        ∀ base : Heap, K.In base → base.Ns mainGlobals mg → FnAt l.prog w K mg base fa fd [x] sp) :
    PySem.W.WalkO q loose XP YP l.row.toRowW d [] (fun f vs => PySem.call f vs) := by
  refine Att.attach_call hn hdf fun w s₀ s₁ mg mb fa o pm cd doc a vs ns G Y ho hd hcd hmg hobj hints hlen hg => ?_
  obtain ⟨K, fd, sp, kx, hb, hsp, hF⟩ := F w mg fa _ Y G.T.g hmg
  exact lawAt kx G.T.g G.T.b G.T.builtins G.T.nolimit hg hobj hints (Nat.le_trans hlen hn2) hF hb fun H only sq => hsp H a ns hlen only sq
/-! ### repr of what is read as data -/
section
variable {X : Cx}
theorem cr_reprD (hg : X.A.guards = some []) (hu : X.A.units + 66 < cLine) : CallR X (.builtin "repr") (fun xs H Q => ∃ (a : Addr) (d : PyData), xs = [.ref a] ∧ Dp X.K H (.ref a) d ∧ d.showable = true ∧ d.hasDict = false ∧ d.depth ≤ 64 ∧ d.shown.length ≤ sizeLine ∧ Q (.str d.shown) H) := by
  intro pins s σ H xs us Q I r h
  obtain ⟨a, d, rfl, hd, sh, nd, dp, sz, q⟩ := h
  rw [Vals.ref1 r]
  obtain ⟨as, rd⟩ := Dp.reads I d _ _ hd rfl
  refine repr_of_reads' rd sh (fun z => by rw [nd] at z; cases z) hg (by omega) (fun b o e => e) (fun h' u tk kp => ?_) sz
  exact ⟨.str d.shown, H, I.kept (t' := tk) kp, ⟨_, rfl⟩, q⟩
theorem cr_reprN : CallR X (.builtin "repr") (fun xs H Q => xs = [.non] ∧ Q (.str "None") H) := by
  intro pins s σ H xs us Q I r h
  obtain ⟨rfl, q⟩ := h
  obtain ⟨u, rfl, ru⟩ := vals1 r
  cases ru
  exact PySem.P.repr_of_none ⟨.str _, H, I.tok _, ⟨_, rfl⟩, q⟩
end
end GA
/-! repr of a dict from texts to ints -/
namespace GA
open PySem PySem.Spec PyProof.Rows L2
def kvT (l : List (Str × Int)) : List (Key × V) := l.map fun p => (Sum.inr p.1, V.int p.2)
def dkD (l : List (Str × Int)) : PyData := .dict (l.map fun p => (PyData.str p.1, PyData.int p.2))
section
variable {X : Cx}
theorem reads_kv {P : Program} {w : World} {h : Heap} : ∀ {l : List (Str × Int)} {vs : List (Key × Value)} {es : List DictEntry}, KV (kvT l) vs → Pairs (mixKind P w) es vs → ReadsAll h (es.map (·.key)) (l.map fun p => PyData.str p.1) [] ∧ ReadsAll h (es.map (·.val)) (l.map fun p => PyData.int p.2) []
  | [], vs, es, kv, pr => by
    cases kv
    cases pr
    exact ⟨.nil, .nil⟩
  | p :: l, vs, es, kv, pr => by
    cases kv with
    | cons h1 h2 =>
      cases pr with
      | cons a b r =>
        obtain ⟨r1, r2⟩ := reads_kv (h := h) h2 r
        obtain ⟨e1, v1⟩ := h1
        rename_i q qs e es
        obtain ⟨k, v⟩ := q
        dsimp only at e1 v1 a b
        subst e1
        obtain ⟨t, rfl⟩ := v1
        have ks : ∃ u, e.key = .str p.1 u := by
          rcases keyIs_shape (show keyIs (Sum.inr p.1) e.key = true from a) with ⟨i, t, h1, h2⟩ | ⟨x, t, h1, h2⟩
          · cases h1
          · cases h1
            exact ⟨t, h2⟩
        obtain ⟨u, ek⟩ := ks
        refine ⟨?_, ?_⟩
        · rw [List.map_cons, List.map_cons, ek]
          exact ReadsAll.cons (as := []) (bs := []) (.str _ _) r1
        · rw [List.map_cons, List.map_cons, b]
          exact ReadsAll.cons (as := []) (bs := []) (.int _ _) r2
/-- repr of such a dict -/
theorem cr_reprK (hg : X.A.guards = some []) (hu : X.A.units + 66 < cLine) : CallR X (.builtin "repr") (fun xs H Q => ∃ (a : Addr) (l : List (Str × Int)), xs = [.ref a] ∧ H a = some (.dK (kvT l)) ∧ (dkD l).showable = true ∧ (dkD l).depth ≤ 64 ∧ (dkD l).shown.length ≤ sizeLine ∧ Q (.str (dkD l).shown) H) := by
  intro pins s σ H xs us Q I r h
  obtain ⟨a, l, rfl, hd, sh, dp, sz, q⟩ := h
  rw [Vals.ref1 r]
  have hx : ObjOk X.prog X.w H s.heap a (.dK (kvT l)) := I.hok a _ hd
  obtain ⟨_, nsm, vs, kv, o, es, ep, ho, hx, hdat, _, pr, _⟩ := hx
  obtain ⟨r1, r2⟩ := reads_kv (h := s.heap) kv pr
  have rd : Reads s.heap (.ref a) (dkD l) (a :: [] ++ []) := Reads.dict ho hx.1 hdat (by rw [List.map_map]; exact r1) (by rw [List.map_map]; exact r2)
  refine repr_of_reads' rd sh (fun _ m => ?_) hg (by omega) (fun b o e => e) (fun h' u tk kp => ?_) sz
  · rw [List.append_nil, List.mem_singleton] at m
    rw [m] at nsm
    simp at nsm
  exact ⟨.str (dkD l).shown, H, I.kept (t' := tk) kp, ⟨_, rfl⟩, q⟩
end
end GA
namespace DW
open PySem PySem.Spec PyProof.Rows L2
/-! ### a def that stands in the module -/
structure Df (K : PySem.W.Frag) (mg : Str → Option Value) (x : Str) (st : Stmt) (ps : List Str) where
  f : Addr
  fd : FuncData
  F : FunD K x x (defArgs st) (defBody st) (defScope st) [] [] f fd
  g : mg x = some (.ref f)
  b : Binds K fd ps []
/-! ### heaps: all but the tape stays -/
structure Kp (t : Addr) (H H' : Hp) : Prop where
  old : ∃ kvs, H t = some (.dK kvs)
  new : ∃ kvs, H' t = some (.dK kvs)
  oth : ∀ b o, b ≠ t → H b = some o → H' b = some o
theorem Kp.trans {t : Addr} {H H1 H2 : Hp} (a : Kp t H H1) (b : Kp t H1 H2) : Kp t H H2 := ⟨a.old, b.new, fun c o n e => b.oth c o n (a.oth c o n e)⟩
theorem Kp.of {t : Addr} {H H' : Hp} {kvs : List (Key × V)} (e : H t = some (.dK kvs)) (s : Same H H') : Kp t H H' := ⟨⟨_, e⟩, ⟨_, s _ _ e⟩, fun b o _ h => s b o h⟩
theorem Kp.at {t b : Addr} {H H' : Hp} {o : HO} (k : Kp t H H') (h : H b = some o) (n : ∀ kvs, o ≠ .dK kvs) : H' b = some o := by
  obtain ⟨kvs, e⟩ := k.old
  exact k.oth b o (fun z => by
    subst z
    rw [e] at h
    exact n kvs (Option.some.inj h).symm) h
theorem Kp.lst {t b : Addr} {H H' : Hp} {xs : List V} {K : PySem.W.Frag} (k : Kp t H H') (h : SqL K H b xs) : SqL K H' b xs := by
  rcases h with (h | ⟨o, h⟩) | h
  · exact .inl (.inl (k.at h fun _ z => by cases z))
  · exact .inl (.inr ⟨o, k.at h fun _ z => by cases z⟩)
  · exact .inr h
theorem Kp.tup {t b : Addr} {H H' : Hp} {xs : List V} {K : PySem.W.Frag} (k : Kp t H H') (h : SqT K H b xs) : SqT K H' b xs := by
  rcases h with (h | ⟨o, h⟩) | h
  · exact .inl (.inl (k.at h fun _ z => by cases z))
  · exact .inl (.inr ⟨o, k.at h fun _ z => by cases z⟩)
  · exact .inr h
theorem same_upd {H : Hp} {p : Addr} {o : HO} (h : H p = none) : Same H (upd H p o) := fun b x e => by
  rw [upd_ne (ne_of_none e h)]
  exact e
theorem Kp.gone {t b : Addr} {H H' : Hp} (k : Kp t H H') (h : H' b = none) : H b = none := by
  cases q : H b with
  | none => rfl
  | some o =>
    by_cases e : b = t
    · obtain ⟨kvs, z⟩ := k.new
      rw [e, z] at h
      cases h
    · rw [k.oth b o e q] at h
      cases h
/-! ### the tape -/
def tpd (c : Addr) (p l : Int) : List (Key × V) := [(.inr "cells", .ref c), (.inr "place", .int p), (.inr "left", .int l)]
structure Tape (H : Hp) (t c : Addr) (n : Nat) : Prop where
  ex : ∃ (cells : List Int) (p : Nat) (l : Int), H t = some (.dK (tpd c p l)) ∧ H c = some (.lst (cells.map V.int)) ∧ 0 < cells.length ∧ cells.length ≤ 63 ∧ p ≤ n ∧ 0 ≤ l
section
variable {H H' : Hp} {t c : Addr} {n m : Nat}
theorem Tape.dk (T : Tape H t c n) : ∃ kvs, H t = some (.dK kvs) := by
  obtain ⟨cells, p, l, h, _⟩ := T.ex
  exact ⟨_, h⟩
theorem Tape.same (T : Tape H t c n) (s : Same H H') : Tape H' t c n := by
  obtain ⟨cells, p, l, h, hc, r⟩ := T.ex
  exact ⟨cells, p, l, s _ _ h, s _ _ hc, r⟩
theorem Tape.kp (T : Tape H t c n) (s : Same H H') : Kp t H H' := by
  obtain ⟨kvs, h⟩ := T.dk
  exact Kp.of h s
theorem Tape.mono (T : Tape H t c n) (h : n ≤ m) : Tape H t c m := by
  obtain ⟨cells, p, l, h1, h2, h3, h4, h5, h6⟩ := T.ex
  exact ⟨cells, p, l, h1, h2, h3, h4, Nat.le_trans h5 h, h6⟩
theorem Kp.refl (T : Tape H t c n) : Kp t H H := T.kp (Same.refl H)
/-- a store at an object that is not the tape's -/
theorem Tape.upd {D : Addr} {o : HO} (T : Tape H t c n) (h1 : D ≠ t) (h2 : D ≠ c) : Tape (upd H D o) t c n := by
  obtain ⟨cells, p, l, h, hc, r⟩ := T.ex
  exact ⟨cells, p, l, (upd_ne h1.symm).trans h, (upd_ne h2.symm).trans hc, r⟩
theorem Tape.ne1 {D : Addr} (T : Tape H t c n) (h : H D = none) : D ≠ t := fun z => by
  obtain ⟨cells, p, l, e, hc, r⟩ := T.ex
  rw [z, e] at h
  cases h
theorem Tape.ne2 {D : Addr} (T : Tape H t c n) (h : H D = none) : D ≠ c := fun z => by
  obtain ⟨cells, p, l, e, hc, r⟩ := T.ex
  rw [z, hc] at h
  cases h
theorem Kp.put {D : Addr} {o : HO} (k : Kp t H H') (h : H D = Option.none) (h1 : D ≠ t) : Kp t H (L2.upd H' D o) := by
  obtain ⟨kvs, e⟩ := k.new
  refine ⟨k.old, ⟨kvs, (upd_ne h1.symm).trans e⟩, fun b u n q => ?_⟩
  rw [upd_ne (ne_of_none q h)]
  exact k.oth b u n q
end
theorem ks1 : ¬ (("cells" : Str) = "place") := by decide +kernel
theorem ks2 : ¬ (("cells" : Str) = "left") := by decide +kernel
theorem ks3 : ¬ (("place" : Str) = "left") := by decide +kernel
theorem ks1' : ¬ (("place" : Str) = "cells") := by decide +kernel
theorem ks2' : ¬ (("left" : Str) = "cells") := by decide +kernel
theorem ks3' : ¬ (("left" : Str) = "place") := by decide +kernel
theorem tp_cells (c : Addr) (p l : Int) : valV (tpd c p l) (Sum.inr ("cells" : Str)) = some (.ref c) := by simp [tpd, valV]
theorem tp_place (c : Addr) (p l : Int) : valV (tpd c p l) (Sum.inr ("place" : Str)) = some (.int p) := by simp [tpd, valV, ks1]
theorem tp_left (c : Addr) (p l : Int) : valV (tpd c p l) (Sum.inr ("left" : Str)) = some (.int l) := by simp [tpd, valV, ks2, ks3]
theorem tp_put_place (c : Addr) (p q l : Int) : putK (tpd c p l) (Sum.inr ("place" : Str)) (.int q) = tpd c q l := by simp [putK, tpd, ks1, ks3']
theorem tp_put_left (c : Addr) (p l m : Int) : putK (tpd c p l) (Sum.inr ("left" : Str)) (.int m) = tpd c p m := by simp [putK, tpd, ks2, ks3]
theorem tp_merge (c : Addr) (p l : Int) : mergeK [] (tpd c p l) = tpd c p l := by simp [mergeK, putK, tpd, ks1, ks2, ks3]
theorem g_cells {H : Hp} {t c : Addr} {p l : Int} (h : H t = some (.dK (tpd c p l))) : DGet H t (.str "cells") (some (.ref c)) := by
  have q := DGet.k (k := Sum.inr ("cells" : Str)) h
  rw [tp_cells] at q
  exact q
theorem g_place {H : Hp} {t c : Addr} {p l : Int} (h : H t = some (.dK (tpd c p l))) : DGet H t (.str "place") (some (.int p)) := by
  have q := DGet.k (k := Sum.inr ("place" : Str)) h
  rw [tp_place] at q
  exact q
theorem g_left {H : Hp} {t c : Addr} {p l : Int} (h : H t = some (.dK (tpd c p l))) : DGet H t (.str "left") (some (.int l)) := by
  have q := DGet.k (k := Sum.inr ("left" : Str)) h
  rw [tp_left] at q
  exact q
theorem p_place {H : Hp} {t c : Addr} {p l : Int} (q : Int) (h : H t = some (.dK (tpd c p l))) : DPut H t (.str "place") (.int q) (upd H t (.dK (tpd c q l))) := by
  have z := DPut.k (k := Sum.inr ("place" : Str)) (v := V.int q) h (by show 3 < sizeLine; decide)
  rw [tp_put_place] at z
  exact z
theorem p_left {H : Hp} {t c : Addr} {p l : Int} (q : Int) (h : H t = some (.dK (tpd c p l))) : DPut H t (.str "left") (.int q) (upd H t (.dK (tpd c p q))) := by
  have z := DPut.k (k := Sum.inr ("left" : Str)) (v := V.int q) h (by show 3 < sizeLine; decide)
  rw [tp_put_left] at z
  exact z
def spBegin (K : PySem.W.Frag) : Sp := fun vs H Q _ => ∃ (a : Addr) (ns : List Int), vs = [.ref a] ∧ SqL K H a (ns.map V.int) ∧ ∀ H' t c, Same H H' → H t = none → H c = none → Tape H' t c 0 → Q (.ref t) H'
def spDraw : Sp := fun vs H Q _ => ∃ (t c : Addr) (m : Int) (n : Nat), vs = [.ref t, .int m] ∧ Tape H t c n ∧ n < 2 ^ 40 ∧ 0 < m ∧ m < 2 ^ 30 ∧ ∀ H' r, Kp t H H' → Tape H' t c (n + 1) → 0 ≤ r → r < m → Q (.int r) H'
/-- pick: from a list, from a text -/
def spPick (K : PySem.W.Frag) : Sp := fun vs H Q _ => ∃ (t c : Addr) (n : Nat) (x : V), vs = [.ref t, x] ∧ Tape H t c n ∧ n < 2 ^ 40 ∧
  ((∃ a xs, x = .ref a ∧ SqL K H a xs ∧ xs ≠ [] ∧ xs.length < 2 ^ 30 ∧ ∀ H' y, Kp t H H' → Tape H' t c (n + 1) → y ∈ xs → Q y H') ∨
   (∃ z : Str, x = .str z ∧ z.length ≠ 0 ∧ z.length < 2 ^ 20 ∧ ∀ H' d, Kp t H H' → Tape H' t c (n + 1) → d ∈ z.cps.toList → Q (.str ⟨#[d]⟩) H'))
section
variable {P : Program} {w : World} {K : PySem.W.Frag} {mg : Str → Option Value} {base : Heap}
theorem scBegin : FnScope ["_law_script"] ["_law_script"] (defScope sBegin) := ⟨rfl, rfl, rfl, by decide +kernel, rfl, by decide +kernel, by decide +kernel⟩
theorem cut63 (ns : List Int) : ∃ ms : List Int, cutV (ns.map V.int) none (some 63) = ms.map V.int ∧ ms.length ≤ 63 := by
  refine ⟨ns.take 63, ?_, ?_⟩
  · unfold cutV
    rw [HT.sIx_none, show HT.sIx (ns.map V.int).length (ns.map V.int).length (some 63) = min 63 (ns.map V.int).length from HT.sIx_nat _ _ 63, List.map_take]
    show List.take _ (List.drop 0 _) = _
    rw [List.drop_zero, Nat.sub_zero]
    by_cases c : 63 ≤ (ns.map V.int).length
    · rw [Nat.min_eq_left c]
    · rw [Nat.min_eq_right (by omega), List.take_length, List.take_of_length_le (by omega)]
  · rw [List.length_take]
    omega
theorem ok_begin (D : Df K mg "_law_begin" sBegin ["_law_script"]) : FnOk P w K mg base CX0 1 D.f D.fd ["_law_script"] (spBegin K) := by
  refine D.F.ok scBegin (fun vs H Q E h => ?_) (fun cdv A outer s H vs Q E hr h => ?_)
  · obtain ⟨a, ns, rfl, _⟩ := h
    rfl
  · obtain ⟨a, ns, rfl, hS, k⟩ := h
    refine ⟨_, pss_one (ps_ret (pe_disp (pps_cons pe_str (pe_orT (pe_slice sl_list (pv 0) po_none (po_some pe_int)) (pe_one (pe_lst (pa_cons pe_int pa_nil)))) (pps_cons pe_str pe_int (pps_cons pe_str pe_int pps_nil))) (by rfl) (by rfl) (fun z => by cases z) (by decide))), ?_⟩
    intro t ht
    have s1 : Same H (upd H t (.dK [])) := same_upd ht
    obtain ⟨ms, em, hm⟩ := cut63 ns
    refine ⟨_, rfl, 63, rfl, a, ns.map V.int, rfl, s1.seq hS, fun c hc => ?_⟩
    have nct : c ≠ t := fun z => by
      rw [z, upd_same] at hc
      cases hc
    rw [em]
    refine ⟨!(ms.map V.int).isEmpty, .inl ⟨_, SqL.of upd_same, rfl⟩, ite2 (fun e => ?_) (fun e => ?_)⟩
    · refine ⟨Eq.trans (upd_ne nct.symm) upd_same, tpd c 0 0, rfl, by show 3 ≤ 15; decide, ?_⟩
      rw [tp_merge]
      refine k _ t c (fun b o eb => ?_) ht (s1.free hc) ⟨ms, 0, 0, upd_same, Eq.trans (upd_ne nct) upd_same, ?_, hm, Nat.le_refl _, Int.le_refl _⟩
      · have nb : b ≠ t := ne_of_none eb ht
        rw [upd_ne nb]
        exact same_upd hc _ _ (s1 _ _ eb)
      · cases ms with
        | nil => cases e
        | cons x r => exact Nat.succ_pos _
    · refine ⟨by show 1 ≤ sizeLine; decide, fun d hd => ?_⟩
      have ndt : d ≠ t := fun z => by
        rw [z, upd_ne nct.symm, upd_same] at hd
        cases hd
      refine ⟨Eq.trans (upd_ne ndt.symm) (Eq.trans (upd_ne nct.symm) upd_same), tpd d 0 0, rfl, by show 3 ≤ 15; decide, ?_⟩
      rw [tp_merge]
      refine k _ t d (fun b o eb => ?_) ht (s1.free ((same_upd hc).free hd)) ⟨[0], 0, 0, upd_same, Eq.trans (upd_ne ndt) upd_same, Nat.succ_pos _, by decide, Nat.le_refl _, Int.le_refl _⟩
      have nb : b ≠ t := ne_of_none eb ht
      rw [upd_ne nb]
      exact same_upd hd _ _ (same_upd hc _ _ (s1 _ _ eb))
theorem scDraw : FnScope ["_law_tape", "_law_many", "_law_place", "_law_count", "_law_cell", "_law_found"] ["_law_tape", "_law_many"] (defScope sDraw) := ⟨rfl, rfl, rfl, by decide +kernel, rfl, by decide +kernel, by decide +kernel⟩
theorem tape_put {H : Hp} {t c : Addr} {cells : List Int} {n p : Nat} {l : Int} {kvs : List (Key × V)} (e : H t = some (.dK kvs)) (hc : H c = some (.lst (cells.map V.int))) (h1 : 0 < cells.length) (h2 : cells.length ≤ 63) (hp : p ≤ n) (hl : 0 ≤ l) :
    Tape (upd H t (.dK (tpd c p l))) t c n := by
  have nct : c ≠ t := ne_of hc e (by intro z; cases z)
  exact ⟨cells, p, l, upd_same, Eq.trans (upd_ne nct) hc, h1, h2, hp, hl⟩
theorem kp_put {H : Hp} {t : Addr} {kvs kvs' : List (Key × V)} (e : H t = some (.dK kvs)) : Kp t H (upd H t (.dK kvs')) := ⟨⟨_, e⟩, ⟨_, upd_same⟩, fun b o n h => (upd_ne n).trans h⟩
theorem ok_draw (D : Df K mg "_law_draw" sDraw ["_law_tape", "_law_many"]) (ml : mg "len" = none) : FnOk P w K mg base CX0 1 D.f D.fd ["_law_tape", "_law_many"] spDraw := by
  refine D.F.ok scDraw (fun vs H Q E h => ?_) (fun cdv A outer s H vs Q E hr h => ?_)
  · obtain ⟨t, c, m, n, rfl, _⟩ := h
    rfl
  · obtain ⟨t, c, m, n, rfl, T, hn, m0, m1, k⟩ := h
    have hu := hu_of hr
    refine ⟨_, C8.pss_cut (ps_if (pt_cmpR op_lt (pe_dget hu (pv 0) pe_str (fun _ _ => rfl)) (pv 1) (nomark _))
        (pss_cons (ps_par (i := 2) (j := 3) rfl scDraw.nd rfl rfl (by decide) rfl rfl (pa_cons (pe_dget hu (pv 0) pe_str (fun _ _ => rfl)) (pa_cons (pe_callB call_len_seq (by rfl) ml PySem.boot_len (pa_cons (pe_dget hu (pv 0) pe_str (fun _ _ => rfl)) pa_nil)) pa_nil)) (by rfl))
        (pss_cons (ps_asg (pe_tup (pa_cons (pe_ix ix_list (pe_dget hu (pv 0) pe_str (fun _ _ => rfl)) (pe_op op_mod (pv 2) (pv 3)) (fun _ _ => rfl)) (pa_cons (pe_op op_add (pv 2) pe_int) pa_nil)))
            (pg_tup rfl (pgs_cons (pg_name (i := 4) scDraw.nd rfl (.inl rfl)) (pgs_cons (pg_sub (pv 0) pe_str (set_dict hu)) pgs_nil))))
        (pss_cons (ps_dput hu (pv 0) pe_str (pe_op op_mod (pe_op op_pow (pe_op op_add (pe_op op_add (pe_op op_mod (pv 4) pe_int) (pe_op op_mul pe_int (pv 2))) pe_int) pe_int) (pe_op op_add (pe_op op_pow pe_int pe_int) pe_int)) rfl)
        (pss_one (ps_if (pw_and (pt_cmpR op_ge (pv 4) (pe_op op_pow pe_int pe_int) (nomark _)) (pw_and1 (pt_cmpR op_lt (pv 2) (pv 3) (nomark _)))).pt
          (pss_one (ps_dput hu (pv 0) pe_str (pe_op op_sub (pv 4) (pe_op op_pow pe_int pe_int)) rfl)) pss_nil))))) pss_nil)
      (pss_cons (ps_asg (pe_tup (pa_cons (pe_op op_mod (pe_dget hu (pv 0) pe_str (fun _ _ => rfl)) (pv 1)) (pa_cons (pe_op op_fdiv (pe_dget hu (pv 0) pe_str (fun _ _ => rfl)) (pv 1)) pa_nil)))
            (pg_tup rfl (pgs_cons (pg_name (i := 5) scDraw.nd rfl (.inl rfl)) (pgs_cons (pg_sub (pv 0) pe_str (set_dict hu)) pgs_nil))))
      (pss_one (ps_ret (pv 5)))), ?_⟩
    have m1' : m < 1073741824 := m1
    obtain ⟨cells, p, l, ht, hc, c0, c63, hp, l0⟩ := T.ex
    refine ⟨fun σ' H' => ∃ y2 y3 y4, σ' = [some (.ref t), some (.int m), y2, y3, y4, none] ∧ Kp t H H' ∧ Tape H' t c (n + 1), ?_, ?_⟩
    · refine ⟨.ref t, rfl, t, .int l, rfl, g_left ht, .int m, rfl, l, m, rfl, rfl, _, rfl, ite2 (fun e => ?_) (fun e => ?_)⟩
      · refine ⟨.ref t, rfl, t, .int p, rfl, g_place ht, .ref t, rfl, t, .ref c, rfl, g_cells ht, c, _, rfl, .inl (SqL.of hc), _, _, rfl, ?_⟩
        have lp : 0 < (cells.map V.int).length := by
          rw [List.length_map]
          exact c0
        have jl : p % (cells.map V.int).length < cells.length := by
          have := Nat.mod_lt p lp
          rw [List.length_map] at this ⊢
          exact this
        have ga : (cells.map V.int)[p % (cells.map V.int).length]? = some (.int cells[p % (cells.map V.int).length]) := by
          rw [List.getElem?_map, List.getElem?_eq_getElem jl]
          rfl
        generalize cells[p % (cells.map V.int).length] = z at ga
        refine ⟨.ref t, rfl, t, .ref c, rfl, g_cells ht, _, rfl, _, rfl, (p : Int), ((cells.map V.int).length : Int), rfl, rfl, by omega, c, _, _, .int z, rfl, rfl, SqL.of hc, at_of (j := p % (cells.map V.int).length) (by rw [Int.natCast_emod]) ga, .int p, rfl, (p : Int), 1, rfl, rfl, by show 2 ≤ sizeLine; decide, fun q hq => ?_⟩
        have s1 : Same H (upd H q (.tup [.int z, .int ((p : Int) + 1)])) := same_upd hq
        have ht1 := s1 _ _ ht
        have hc1 := s1 _ _ hc
        have nct : c ≠ t := ne_of hc ht (by intro z; cases z)
        refine ⟨q, _, rfl, SqT.of upd_same, rfl, _, _, rfl, _, _, rfl, .ref t, rfl, t, _, rfl, p_place ((p : Int) + 1) ht1, rfl, ?_⟩
        have hn' : n < 1099511627776 := hn
        have zm0 : 0 ≤ z % 2147483647 := Int.emod_nonneg _ (by decide)
        have zm1 : z % 2147483647 < 2147483647 := Int.emod_lt_of_pos _ (by decide)
        have b0 : (z % 2147483647 + 69621 * (p : Int) + 48271).natAbs < 2 ^ 64 := by omega
        refine ⟨.int z, rfl, z, 2147483647, rfl, rfl, (by show (0 : Int) < 2147483647; decide), .int p, rfl, 69621, (p : Int), rfl, rfl, .inl ⟨by decide, by decide⟩, _, _, rfl, rfl, _, 48271, rfl, rfl, _, 17, rfl, rfl, ⟨by decide, by decide, b0⟩, 10, 50, rfl, rfl, ⟨by decide, by decide, by decide⟩, _, 151, rfl, rfl, _, _, rfl, rfl, ?_, ?_⟩
        · exact (by decide +kernel : (0 : Int) < 10 ^ (50 : Int).toNat + 151)
        have ht2 : (upd (upd H q (.tup [.int z, .int ((p : Int) + 1)])) t (.dK (tpd c ((p : Int) + 1) l))) t = some (.dK (tpd c ((p : Int) + 1) l)) := upd_same
        refine ⟨.ref t, rfl, t, _, rfl, p_left ((z % 2147483647 + 69621 * (p : Int) + 48271) ^ (17 : Int).toNat % (10 ^ (50 : Int).toNat + 151)) ht2, ?_⟩
        have x0 : 0 ≤ (z % 2147483647 + 69621 * (p : Int) + 48271) ^ (17 : Int).toNat % (10 ^ (50 : Int).toNat + 151) := Int.emod_nonneg _ (by decide +kernel)
        generalize (z % 2147483647 + 69621 * (p : Int) + 48271) ^ (17 : Int).toNat % (10 ^ (50 : Int).toNat + 151) = x17 at x0 ⊢
        have k3 : Kp t H (upd (upd (upd H q (.tup [.int z, .int ((p : Int) + 1)])) t (.dK (tpd c ((p : Int) + 1) l))) t (.dK (tpd c ((p : Int) + 1) x17))) := ((Kp.of ht s1).trans (kp_put ht1)).trans (kp_put ht2)
        have hc3 := k3.at hc (fun _ z => by cases z)
        refine ⟨.int z, rfl, 10, 18, rfl, rfl, ⟨by decide, by decide, by decide⟩, z, _, rfl, rfl, _, rfl, ite2 (fun e2 => ?_) (fun e2 => ?_)⟩
        · refine ⟨.int p, rfl, _, rfl, _, _, rfl, rfl, _, rfl, ite2 (fun e3 => ?_) (fun e3 => ?_)⟩
          · have hz : (0 : Int) ≤ z - 10 ^ (18 : Int).toNat := by
              have e4 : (10 : Int) ^ (18 : Int).toNat ≤ z := of_decide_eq_true e2
              omega
            refine ⟨.int z, rfl, 10, 18, rfl, rfl, ⟨by decide, by decide, by decide⟩, z, _, rfl, rfl, .ref t, rfl, t, _, rfl, p_left (z - 10 ^ (18 : Int).toNat) upd_same, ?_⟩
            exact ⟨_, _, _, rfl, k3.trans (kp_put upd_same), tape_put (p := p + 1) upd_same hc3 c0 c63 (by omega) hz⟩
          · exact ⟨_, _, _, rfl, k3, ⟨cells, p + 1, x17, upd_same, hc3, c0, c63, by omega, x0⟩⟩
        · exact ⟨_, _, _, rfl, k3, ⟨cells, p + 1, x17, upd_same, hc3, c0, c63, by omega, x0⟩⟩
      · exact ⟨none, none, none, rfl, Kp.refl T, T.mono (Nat.le_succ n)⟩
    · rintro σ' H' ⟨y2, y3, y4, rfl, k1, T1⟩
      obtain ⟨cells, p, l, ht, hc, c0, c63, hp, l0⟩ := T1.ex
      refine ⟨.ref t, rfl, t, .int l, rfl, g_left ht, .int m, rfl, l, m, rfl, rfl, m0, .ref t, rfl, t, .int l, rfl, g_left ht, .int m, rfl, l, m, rfl, rfl, ⟨m0, m1⟩, by show 2 ≤ sizeLine; decide, fun q hq => ?_⟩
      have s1 : Same H' (upd H' q (.tup [.int (l % m), .int (l / m)])) := same_upd hq
      have ht1 := s1 _ _ ht
      refine ⟨q, _, rfl, SqT.of upd_same, rfl, _, _, rfl, _, _, rfl, .ref t, rfl, t, _, rfl, p_left (l / m) ht1, rfl, ?_⟩
      refine ⟨_, rfl, k _ _ ((k1.trans (T1.kp s1)).trans (kp_put ht1)) (tape_put ht1 (s1 _ _ hc) c0 c63 hp (Int.ediv_nonneg l0 (by omega))) (Int.emod_nonneg _ (by omega)) (Int.emod_lt_of_pos _ m0)⟩
theorem at_cp {α : Type} {xs : List α} {z : Int} {j : Nat} {v : α} (e : z = (j : Int)) (h : xs[j]? = some v) : atI xs z = some v := by
  rw [e]
  exact atI_nat h
theorem scPick : FnScope ["_law_tape", "_law_items"] ["_law_tape", "_law_items"] (defScope sPick) := ⟨rfl, rfl, rfl, by decide +kernel, rfl, by decide +kernel, by decide +kernel⟩
theorem ok_pick (D : Df K mg "_law_pick" sPick ["_law_tape", "_law_items"]) (Dd : Df K mg "_law_draw" sDraw ["_law_tape", "_law_many"]) (ml : mg "len" = none) : FnOk P w K mg base CX0 2 D.f D.fd ["_law_tape", "_law_items"] (spPick K) := by
  have Gd : FnOk P w K mg base CX0 1 Dd.f Dd.fd ["_law_tape", "_law_many"] spDraw := ok_draw Dd ml
  refine D.F.ok scPick (fun vs H Q E h => ?_) (fun cdv A outer s H vs Q E hr h => ?_)
  · obtain ⟨t, c, n, x, rfl, _⟩ := h
    rfl
  · obtain ⟨t, c, n, x, rfl, T, hn, h⟩ := h
    rcases h with ⟨a, xs, rfl, hx, ne, hl, k⟩ | ⟨z, rfl, ne, hl, k⟩
    · refine ⟨_, pss_one (ps_ret (pe_ix ix_list (pv 1) (pe_call Gd hr (by rfl) Dd.g Dd.F.kp Dd.b .nil pass0 (pa_cons (pv 0) (pa_cons (pe_callB call_len_seq (by rfl) ml PySem.boot_len (pa_cons (pv 1) pa_nil)) pa_nil))) (fun _ _ => rfl))), ?_⟩
      have l0 : 0 < xs.length := List.length_pos_iff.mpr ne
      refine ⟨.ref a, rfl, .ref t, rfl, .ref a, rfl, a, xs, rfl, .inl hx, t, c, _, n, rfl, T, hn, by omega, by omega, fun H' r k1 T1 r0 r1 => ?_⟩
      have rl : r.toNat < xs.length := by omega
      refine ⟨a, xs, r, xs[r.toNat], rfl, rfl, k1.lst hx, at_of (j := r.toNat) (by omega) (List.getElem?_eq_getElem rl), k H' _ k1 T1 (List.getElem_mem rl)⟩
    · refine ⟨_, pss_one (ps_ret (pe_ix ix_str (pv 1) (pe_call Gd hr (by rfl) Dd.g Dd.F.kp Dd.b .nil pass0 (pa_cons (pv 0) (pa_cons (pe_callB call_len_str (by rfl) ml PySem.boot_len (pa_cons (pv 1) pa_nil)) pa_nil))) (fun _ _ => rfl))), ?_⟩
      have zl : z.cps.toList.length = z.length := Array.length_toList
      refine ⟨.str z, rfl, .ref t, rfl, .str z, rfl, z, rfl, ?_, t, c, _, n, rfl, T, hn, by omega, by omega, fun H' r k1 T1 r0 r1 => ?_⟩
      · rw [sizeLine_eq]; omega
      have rl : r.toNat < z.cps.toList.length := by omega
      refine ⟨z, r, z.cps.toList[r.toNat], rfl, rfl, ?_, at_cp (by omega) (List.getElem?_eq_getElem rl), k H' _ k1 T1 (List.getElem_mem rl)⟩
      rw [sizeLine_eq]
      omega
end
end DW
namespace DW
open PySem PySem.Spec PyProof.Rows L2 TL
set_option autoImplicit false
/-! ### texts as lists of codes -/
def one (c : Nat) : Str := ⟨#[c]⟩
theorem tl_one (c : Nat) : tl (one c) = [c] := rfl
theorem tl_inj {x y : Str} (h : tl x = tl y) : x = y := by
  obtain ⟨⟨a⟩⟩ := x
  obtain ⟨⟨b⟩⟩ := y
  have e : a = b := h
  rw [e]
theorem joinL_nil : ∀ l : List (List Nat), joinL [] l = l.flatten
  | [] => rfl
  | [p] => by simp [joinL]
  | p :: q :: r => by
    show p ++ ([] ++ joinL [] (q :: r)) = (p :: q :: r).flatten
    rw [joinL_nil (q :: r)]
    simp
theorem tl_cat (ys : List Str) : tl (Txt.join "" ys) = (ys.map tl).flatten := by
  have e : tl (Str.join "" ys) = joinL (tl "") (ys.map tl) := tl_join "" ys
  rw [join_eq, e, show tl "" = [] from rfl, joinL_nil]
theorem flat_ones (cs : List Nat) : ((cs.map one).map tl).flatten = cs := by
  induction cs with
  | nil => rfl
  | cons c r ih =>
    show [c] ++ ((r.map one).map tl).flatten = c :: r
    rw [ih]
    rfl
theorem lt_ones (x p : Nat) : ltCps (tl (one x)) (tl (one p)) = decide (x < p) := by
  simp [one, ltCps]
theorem sorted_ones : ∀ ys : List Str, (∀ y ∈ ys, ∃ c, y = one c) → ys.Nodup → sortedS ys = true → ∃ cs : List Nat, ys = cs.map one ∧ cs.Pairwise (· < ·)
  | [], _, _, _ => ⟨[], rfl, List.Pairwise.nil⟩
  | [y], h, _, _ => by
    obtain ⟨c, rfl⟩ := h y List.mem_cons_self
    exact ⟨[c], rfl, List.pairwise_singleton _ _⟩
  | y :: z :: r, h, nd, so => by
    obtain ⟨hy, nd'⟩ := List.nodup_cons.mp nd
    obtain ⟨c, rfl⟩ := h y List.mem_cons_self
    obtain ⟨d, rfl⟩ := h z (List.mem_cons_of_mem _ List.mem_cons_self)
    have so' : (!ltCps (tl (one d)) (tl (one c)) && risingS (one d) r) = true := so
    rw [Bool.and_eq_true] at so'
    obtain ⟨cs, e, pw⟩ := sorted_ones (one d :: r) (fun u hu => h u (List.mem_cons_of_mem _ hu)) nd' so'.2
    have lt : c < d := by
      have q := so'.1
      rw [lt_ones] at q
      have n1 : ¬ d < c := by simpa using q
      have n2 : c ≠ d := fun z => hy (by rw [z]; exact List.mem_cons_self)
      omega
    cases cs with
    | nil => cases e
    | cons d' cs =>
      have e1 : one d = one d' := (List.cons.inj e).1
      have e2 : d = d' := by
        have q := congrArg tl e1
        exact (List.cons.inj q).1
      subst e2
      refine ⟨c :: d :: cs, by rw [List.map_cons, ← e], List.pairwise_cons.mpr ⟨fun u hu => ?_, pw⟩⟩
      rcases List.mem_cons.mp hu with q | q
      · omega
      · have := (List.pairwise_cons.mp pw).1 u q
        omega
theorem sum_ones : ∀ ys : List Str, (∀ y ∈ ys, ∃ c, y = one c) → (ys.map (·.length)).sum = ys.length
  | [], _ => rfl
  | y :: r, h => by
    obtain ⟨c, rfl⟩ := h y List.mem_cons_self
    rw [List.map_cons, List.sum_cons, sum_ones r fun u hu => h u (List.mem_cons_of_mem _ hu), List.length_cons]
    show 1 + r.length = r.length + 1
    omega
theorem yes {σ : L2.St} {H : Hp} {F G : Hp → Prop} (h : F H) : tYes σ H (fun b H3 => if b = true then F H3 else G H3) := by
  show (if true = true then F H else G H)
  rw [if_pos rfl]
  exact h
/-- an alphabet -/
def Alph (z : Str) : Prop := (tl z).Pairwise (· < ·) ∧ 1 ≤ (tl z).length ∧ (tl z).length ≤ 3 ∧ ∀ c ∈ tl z, 97 ≤ c ∧ c ≤ 122
def abc : Str := "abcdefghijklmnopqrstuvwxyz"
theorem abc_low : ∀ c ∈ tl abc, 97 ≤ c ∧ c ≤ 122 := by decide +kernel
theorem abc_len : (tl abc).length = 26 := by decide +kernel
theorem al1 : Alph "ab" := by unfold Alph; decide +kernel
theorem al2 : Alph "abc" := by unfold Alph; decide +kernel
theorem al3 : Alph "a" := by unfold Alph; decide +kernel
theorem al4 : Alph "bx" := by unfold Alph; decide +kernel
theorem al5 : Alph "cmz" := by unfold Alph; decide +kernel
theorem alph_of {ds : List Nat} {ls ys : List Str} (h1 : 1 ≤ ds.length) (h3 : ds.length ≤ 3) (low : ∀ c ∈ ds, 97 ≤ c ∧ c ≤ 122) (nd : ls.Nodup) (mem : ∀ k, k ∈ ls ↔ k ∈ ds.map one) (le : ls.length ≤ (ds.map one).length)
    (pm : ys.Perm ls) (so : sortedS ys = true) : Alph (Txt.join "" ys) := by
  have hm : ∀ y ∈ ys, y ∈ ds.map one := fun y hy => (mem y).mp (pm.mem_iff.mp hy)
  obtain ⟨cs, rfl, pw⟩ := sorted_ones ys (fun y hy => by
    obtain ⟨c, _, e⟩ := List.mem_map.mp (hm y hy)
    exact ⟨c, e.symm⟩) (pm.nodup_iff.mpr nd) so
  have e : tl (Txt.join "" (cs.map one)) = cs := by rw [tl_cat, flat_ones]
  have hl : cs.length = ls.length := by
    have q := pm.length_eq
    rw [List.length_map] at q
    exact q
  rw [List.length_map] at le
  unfold Alph
  rw [e]
  refine ⟨pw, ?_, by omega, fun c hc => ?_⟩
  · cases ds with
    | nil => cases h1
    | cons d r =>
      have q : one d ∈ ls := (mem _).mpr List.mem_cons_self
      have q2 : one d ∈ cs.map one := pm.mem_iff.mpr q
      have := List.length_pos_of_mem q2
      rw [List.length_map] at this
      omega
  · obtain ⟨d, hd, e⟩ := List.mem_map.mp (hm (one c) (List.mem_map.mpr ⟨c, hc, rfl⟩))
    have e2 : d = c := by
      have q := congrArg tl e
      exact (List.cons.inj q).1
    rw [← e2]
    exact low d hd
/-! ### what the module's names hold -/
structure Bl (mg : Str → Option Value) : Prop where
  len : mg "len" = none
  range : mg "range" = none
  sorted : mg "sorted" = none
  set : mg "set" = none
def spAlpha : Sp := fun vs H Q _ => ∃ (t c : Addr) (n : Nat), vs = [.ref t] ∧ Tape H t c n ∧ n + 10 < 2 ^ 40 ∧ ∀ H' z, Kp t H H' → Tape H' t c (n + 10) → Alph z → Q (.str z) H'
abbrev DfDraw (K : PySem.W.Frag) (mg : Str → Option Value) := Df K mg "_law_draw" sDraw ["_law_tape", "_law_many"]
abbrev DfPick (K : PySem.W.Frag) (mg : Str → Option Value) := Df K mg "_law_pick" sPick ["_law_tape", "_law_items"]
end DW
namespace DW
open PySem PySem.Spec PyProof.Rows L2 TL
set_option autoImplicit false
section
variable {P : Program} {w : World} {K : PySem.W.Frag} {mg : Str → Option Value} {base : Heap}
theorem scAlpha : FnScope ["_law_tape", "_law_letters", "_law_drawn", "_law_k"] ["_law_tape"] (defScope sAlpha) := ⟨rfl, rfl, rfl, by decide +kernel, rfl, by decide +kernel, by decide +kernel⟩
theorem ok_alpha (D : Df K mg "_law_alphabet" sAlpha ["_law_tape"]) (Dd : DfDraw K mg) (Dp : DfPick K mg) (B : Bl mg) : FnOk P w K mg base CX0 3 D.f D.fd ["_law_tape"] spAlpha := by
  have Gd : FnOk P w K mg base CX0 1 Dd.f Dd.fd ["_law_tape", "_law_many"] spDraw := ok_draw Dd B.len
  have Gp : FnOk P w K mg base CX0 2 Dp.f Dp.fd ["_law_tape", "_law_items"] (spPick K) := ok_pick Dp Dd B.len
  refine D.F.ok scAlpha (fun vs H Q E h => ?_) (fun cdv A outer s H vs Q E hr h => ?_)
  · obtain ⟨t, c, n, rfl, _⟩ := h
    rfl
  · obtain ⟨t, c, n, rfl, T, hn, k⟩ := h
    have hr1 : Room 1 _ := hr.mono (by decide)
    refine ⟨_, pss_cons (ps_set (i := 1) scAlpha.nd rfl (Or.inr rfl) pe_str)
      (pss_cons (ps_setLc (i := 2) (own := [("_law_k", 3)]) (g := gName 3) (tt := tYes) rfl scAlpha.nd rfl rfl (sw_true rfl rfl rfl (by decide +kernel))
        (pi_range1 rfl B.range (pa_cons (pe_op op_add pe_int (pe_call Gd hr1 (by rfl) Dd.g Dd.F.kp Dd.b .nil pass0 (pa_cons (pv 0) (pa_cons pe_int pa_nil)))) pa_nil))
        (blkOk_by (N := ["_law_tape", "_law_letters", "_law_drawn", "_law_k"]) (sc := defScope sAlpha) (by decide +kernel)) (fun _ _ _ _ _ => pg_name (i := 3) scAlpha.nd rfl (Or.inl rfl)) (fun _ _ _ _ _ => pts_nil)
        (fun _ _ _ _ _ => pe_ix ix_str (pv 1) (pe_call Gd hr1 (by rfl) Dd.g Dd.F.kp Dd.b .nil pass0 (pa_cons (pv 0) (pa_cons pe_int pa_nil))) (fun _ _ => rfl)))
      (pss_one (ps_ret (pe_call Gp hr (by rfl) Dp.g Dp.F.kp Dp.b .nil pass0 (pa_cons (pv 0) (pa_cons
        (pe_op op_cat (pe_lst (pa_cons pe_str (pa_cons pe_str (pa_cons pe_str (pa_cons pe_str (pa_cons pe_str pa_nil))))))
          (pe_op op_rep (pe_lst (pa_cons (pe_join pe_str (pe_callB (TX.cr_sortTx rfl) (by rfl) B.sorted (by decide +kernel) (pa_cons (pe_callTy (TX.cr_setL rfl) (by rfl) B.set (by decide +kernel) (pa_cons (pv 2) pa_nil)) pa_nil))) pa_nil)) pe_int)) pa_nil)))))), ?_⟩
    refine ⟨.ref t, rfl, t, c, 3, n, rfl, T, by omega, by decide, by decide, fun H1 r k1 T1 r0 r1 => ?_⟩
    refine ⟨1, r, rfl, rfl, 1 + r, rfl, by omega, by omega, fun D hD => ?_⟩
    have D1 := T1.ne1 hD
    have D2 := T1.ne2 hD
    have D0 := k1.gone hD
    refine lc_range (lo := 0) (n := (1 + r).toNat) (fun i H' => ∃ ds : List Nat, ds.length = i ∧ (∀ c ∈ ds, 97 ≤ c ∧ c ≤ 122) ∧ H' D = some (.lst ((ds.map one).map V.str)) ∧ Kp t H H' ∧ Tape H' t c (n + 1 + i)) ?_ ?_ ?_
    · exact ⟨[], rfl, fun c hc => (nomatch hc), upd_same, k1.put D0 D1, T1.upd D1 D2⟩
    · rintro i G hi ⟨ds, dl, low, gD, kG, TG⟩
      refine ⟨rfl, yes ?_⟩
      refine ⟨.str abc, rfl, .ref t, rfl, t, c, 26, n + 1 + i, rfl, TG, by omega, by decide, by decide, fun H4 q k4 T4 q0 q1 => ?_⟩
      have ql : q.toNat < (tl abc).length := by
        rw [abc_len]
        omega
      have gD4 := k4.at gD (fun _ z => by cases z)
      refine ⟨abc, q, (tl abc)[q.toNat], rfl, rfl, by decide +kernel, at_cp (j := q.toNat) (by omega) (List.getElem?_eq_getElem ql), _, gD4, ?_, ?_⟩
      · rw [List.length_map, List.length_map, dl, sizeLine_eq]
        omega
      · refine ⟨ds ++ [(tl abc)[q.toNat]], by rw [List.length_append, dl]; rfl, fun c hc => ?_, ?_, ?_, ?_⟩
        · rcases List.mem_append.mp hc with z | z
          · exact low c z
          · rw [List.mem_singleton.mp z]
            exact abc_low _ (List.getElem_mem ql)
        · rw [upd_same, List.map_append, List.map_append]
          rfl
        · exact (kG.trans k4).put D0 D1
        · exact T4.upd D1 D2
    · rintro G ⟨ds, dl, low, gD, kG, TG⟩
      refine ⟨.ref t, rfl, by show 5 ≤ sizeLine; decide, fun l1 e1 => ?_⟩
      have s1 := same_upd (o := .lst [V.str "ab", V.str "abc", V.str "a", V.str "bx", V.str "cmz"]) e1
      refine ⟨⟨_, rfl⟩, .ref D, rfl, D, ds.map one, rfl, SqL.of (s1 _ _ gD), ?_, fun a ls ea nd mem le => ?_⟩
      · rw [List.length_map, dl]
        unfold scanBound
        omega
      have s2 := same_upd (o := TX.SetTx P w a ls) ea
      refine ⟨a, ls, rfl, upd_same, ?_, fun ys p pm so ep => ?_⟩
      · rw [List.length_map] at le
        omega
      have al := alph_of (by omega) (by omega) low nd mem le pm so
      have s3 := same_upd (o := .lst (ys.map V.str)) ep
      refine ⟨"", p, ys, rfl, rfl, .inl (SqL.of upd_same), ?_, by show 1 ≤ sizeLine; decide, fun l2 e2 => ?_⟩
      · rw [sum_ones ys fun y hy => ?_]
        · rw [pm.length_eq]
          rw [List.length_map] at le
          show ls.length + ls.length * 0 ≤ 16777216
          omega
        · obtain ⟨u, _, e⟩ := List.mem_map.mp ((mem y).mp (pm.mem_iff.mp hy))
          exact ⟨u, e.symm⟩
      have s4 := same_upd (o := .lst [V.str (Txt.join "" ys)]) e2
      refine ⟨l2, 5, _, rfl, rfl, upd_same, by decide, by decide, by show 1 * 5 ≤ sizeLine; decide, fun l3 e3 => ?_⟩
      have s5 := same_upd (o := .lst (List.replicate (5 : Int).toNat [V.str (Txt.join "" ys)]).flatten) e3
      refine ⟨l1, l3, _, _, rfl, rfl, s5 _ _ (s4 _ _ (s3 _ _ (s2 _ _ upd_same))), upd_same, by show 5 + 5 ≤ sizeLine; decide, fun l4 e4 => ?_⟩
      have s6 := same_upd (o := .lst ([V.str "ab", V.str "abc", V.str "a", V.str "bx", V.str "cmz"] ++ (List.replicate (5 : Int).toNat [V.str (Txt.join "" ys)]).flatten)) e4
      have sa := ((((s1.trans s2).trans s3).trans s4).trans s5).trans s6
      refine ⟨t, c, n + 1 + (1 + r).toNat, .ref l4, rfl, TG.same sa, by omega, .inl ⟨l4, _, rfl, SqL.of upd_same, by simp, by show 10 < 2 ^ 30; decide, fun H' y k' T' hy => ?_⟩⟩
      have hy' : ∃ z, y = V.str z ∧ Alph z := by
        rcases List.mem_append.mp hy with q | q
        · simp only [List.mem_cons, List.not_mem_nil, or_false] at q
          rcases q with q | q | q | q | q
          · exact ⟨_, q, al1⟩
          · exact ⟨_, q, al2⟩
          · exact ⟨_, q, al3⟩
          · exact ⟨_, q, al4⟩
          · exact ⟨_, q, al5⟩
        · obtain ⟨u, hu, hy⟩ := List.mem_flatten.mp q
          rw [List.eq_of_mem_replicate hu] at hy
          exact ⟨_, List.mem_singleton.mp hy, al⟩
      obtain ⟨z, rfl, az⟩ := hy'
      exact k H' z ((kG.trans (TG.kp sa)).trans k') (T'.mono (by omega)) az
end
end DW
namespace DW
open PySem PySem.Spec PyProof.Rows L2 TL
set_option autoImplicit false
theorem drop_at {α : Type} {l : List α} {i : Nat} {x : α} (h : l[i]? = some x) : l.drop i = x :: l.drop (i + 1) := by
  obtain ⟨hi, e⟩ := List.getElem?_eq_some_iff.mp h
  rw [← e]
  exact List.drop_eq_getElem_cons hi
theorem tl_app (x y : Str) : tl (x ++ y) = tl x ++ tl y := Array.toList_append
def OverW (z : Str) (u : Str) : Prop := ∀ c ∈ tl u, c ∈ tl z
/-! ### letters taken one after the other -/
def spWord : Sp := fun vs H Q _ => ∃ (t c : Addr) (n : Nat) (z : Str) (m : Int), vs = [.ref t, .str z, .int m] ∧ Tape H t c n ∧ n + 200 < 2 ^ 40 ∧ Alph z ∧ 0 ≤ m ∧ m ≤ 100 ∧
  ∀ H' u, Kp t H H' → Tape H' t c (n + 200) → OverW z u → ((tl u).length : Int) ≤ m → Q (.str u) H'
section
variable {P : Program} {w : World} {K : PySem.W.Frag} {mg : Str → Option Value} {base : Heap}
theorem scWord : FnScope ["_law_tape", "_law_alphabet_here", "_law_longest", "_law_k"] ["_law_tape", "_law_alphabet_here", "_law_longest"] (defScope sWord) := ⟨rfl, rfl, rfl, by decide +kernel, rfl, by decide +kernel, by decide +kernel⟩
theorem ok_word (D : Df K mg "_law_word" sWord ["_law_tape", "_law_alphabet_here", "_law_longest"]) (Dd : DfDraw K mg) (Dp : DfPick K mg) (B : Bl mg) : FnOk P w K mg base CX0 3 D.f D.fd ["_law_tape", "_law_alphabet_here", "_law_longest"] spWord := by
  have Gd : FnOk P w K mg base CX0 1 Dd.f Dd.fd ["_law_tape", "_law_many"] spDraw := ok_draw Dd B.len
  have Gp : FnOk P w K mg base CX0 2 Dp.f Dp.fd ["_law_tape", "_law_items"] (spPick K) := ok_pick Dp Dd B.len
  refine D.F.ok scWord (fun vs H Q E h => ?_) (fun cdv A outer s H vs Q E hr h => ?_)
  · obtain ⟨t, c, n, z, m, rfl, _⟩ := h
    rfl
  · obtain ⟨t, c, n, z, m, rfl, T, hn, al, m0, m1, k⟩ := h
    have hr1 : Room 1 _ := hr.mono (by decide)
    have zl : z.length = (tl z).length := (Array.length_toList).symm
    obtain ⟨pw, l1, l3, low⟩ := id al
    refine ⟨_, (pss_one (ps_ret (pe_join pe_str (pe_lc (own := [("_law_k", 3)]) (g := gName 3) rfl scWord.nd (pi_range1 rfl B.range (pa_cons (pe_call Gd hr1 (by rfl) Dd.g Dd.F.kp Dd.b .nil pass0 (pa_cons (pv 0) (pa_cons (pe_op op_add (pv 2) pe_int) pa_nil))) pa_nil)) (blkOk_by (N := ["_law_tape", "_law_alphabet_here", "_law_longest", "_law_k"]) (sc := defScope sWord) (by decide +kernel)) (fun _ _ _ _ _ => pg_name (i := 3) scWord.nd rfl (Or.inl rfl)) (fun _ _ _ _ _ => pts_nil) (fun _ _ _ _ _ => (pe_call Gp hr (by rfl) Dp.g Dp.F.kp Dp.b .nil pass0 (pa_cons (pv 0) (pa_cons (pv 1) pa_nil)))))))), ?_⟩
    refine ⟨⟨_, rfl⟩, .ref t, rfl, .int m, rfl, m, 1, rfl, rfl, t, c, m + 1, n, rfl, T, by omega, by omega, by omega, fun H1 r k1 T1 r0 r1 => ?_⟩
    refine ⟨r, rfl, by omega, by omega, fun D hD => ?_⟩
    have D1 := T1.ne1 hD
    have D2 := T1.ne2 hD
    have D0 := k1.gone hD
    refine lc_range (lo := 0) (n := r.toNat) (fun i H' => ∃ ds : List Nat, ds.length = i ∧ (∀ c ∈ ds, c ∈ tl z) ∧ H' D = some (.lst ((ds.map one).map V.str)) ∧ Kp t H H' ∧ Tape H' t c (n + 1 + i)) ?_ ?_ ?_
    · exact ⟨[], rfl, fun c hc => (nomatch hc), upd_same, k1.put D0 D1, T1.upd D1 D2⟩
    · rintro i G hi ⟨ds, dl, ov, gD, kG, TG⟩
      refine ⟨rfl, yes ?_⟩
      refine ⟨.ref t, rfl, .str z, rfl, t, c, _, .str z, rfl, TG, by omega, .inr ⟨z, rfl, by omega, by omega, fun H4 d k4 T4 hd => ?_⟩⟩
      have gD4 := k4.at gD (fun _ z => by cases z)
      refine ⟨_, gD4, ?_, ds ++ [d], by rw [List.length_append, dl]; rfl, fun c hc => ?_, ?_, (kG.trans k4).put D0 D1, T4.upd D1 D2⟩
      · rw [List.length_map, List.length_map, dl, sizeLine_eq]
        omega
      · rcases List.mem_append.mp hc with q | q
        · exact ov c q
        · rw [List.mem_singleton.mp q]
          exact hd
      · rw [upd_same, List.map_append, List.map_append]
        rfl
    · rintro G ⟨ds, dl, ov, gD, kG, TG⟩
      have ej : tl (Txt.join "" (ds.map one)) = ds := by rw [tl_cat, flat_ones]
      refine ⟨"", D, ds.map one, rfl, rfl, .inl (SqL.of gD), ?_, k _ _ kG (TG.mono (by omega)) (fun c hc => ov c (by rw [ej] at hc; exact hc)) (by rw [ej]; omega)⟩
      rw [sum_ones _ fun y hy => ?_, List.length_map]
      · show ds.length + ds.length * 0 ≤ 16777216
        omega
      · obtain ⟨u, _, e⟩ := List.mem_map.mp hy
        exact ⟨u, e.symm⟩
end
end DW
/-! is_ascending, is_alphabet, is_word -/
namespace DW
open PySem PySem.Spec PyProof.Rows L2 TL
set_option autoImplicit false
def ascB (l : List Nat) : Bool := (l.zip (l.drop 1)).all fun p => decide (p.1 < p.2)
def lowB (c : Nat) : Bool := decide (97 ≤ c) && decide (c ≤ 122)
def alphB (l : List Nat) : Bool := decide (1 ≤ l.length) && decide (l.length ≤ 3) && (l.all lowB && ascB l)
theorem lt1 (c d : Nat) : decide ([c] < [d]) = decide (c < d) := by
  rw [decide_eq_decide]
  constructor
  · intro h
    rcases List.cons_lt_cons_iff.mp h with q | q
    · exact q
    · exact absurd q.2 (List.not_lt_nil _)
  · intro h
    exact List.cons_lt_cons_iff.mpr (.inl h)
theorem low_eq (c : Nat) : (if (!decide (([c] : List Nat) < [97])) = true then !decide (([122] : List Nat) < [c]) else false) = lowB c := by
  rw [lt1, lt1]
  unfold lowB
  by_cases h : c < 97
  · rw [decide_eq_true h]
    simp
    omega
  · rw [decide_eq_false h]
    simp
    by_cases g : 122 < c
    · rw [decide_eq_true g, decide_eq_true (by omega : 97 ≤ c), decide_eq_false (by omega : ¬ c ≤ 122)]
      rfl
    · rw [decide_eq_false g, decide_eq_true (by omega : 97 ≤ c), decide_eq_true (by omega : c ≤ 122)]
      rfl
/-- not a text -/
def NoS (K : PySem.W.Frag) (H : Hp) (v : V) : Prop := ∃ t, TyX K H v t ∧ PySem.W.kitOne K t (.type "str") = some false
theorem isi_kit {K : PySem.W.Frag} : PySem.W.kitOne K (.type "str") (.type "str") = some true := kit_ty (by decide +kernel)
def spAsc : Sp := fun vs H Q _ => ∃ (x : Str), vs = [.str x] ∧ (tl x).length ≤ 100000 ∧ ∀ H', Same H H' → Q (.bl (ascB (tl x))) H'
def spAlp (K : PySem.W.Frag) : Sp := fun vs H Q _ => ∃ v : V, vs = [v] ∧ ((∃ x : Str, v = .str x ∧ (tl x).length ≤ 100000 ∧ ∀ H', Same H H' → Q (.bl (alphB (tl x))) H') ∨ (NoS K H v ∧ ∀ H', Same H H' → Q (.bl false) H'))
def spIw (K : PySem.W.Frag) : Sp := fun vs H Q _ => ∃ (z : Str) (v : V), vs = [.str z, v] ∧ ((∃ x : Str, v = .str x ∧ (tl x).length ≤ 100000 ∧ ∀ H', Same H H' → Q (.bl ((tl x).all fun c => decide (c ∈ tl z))) H') ∨ (NoS K H v ∧ ∀ H', Same H H' → Q (.bl false) H'))
theorem cut1 (x : Str) : tl (cutS x (some 1) none) = (tl x).drop 1 := by
  show (x.cps.toList.drop (HT.sIx x.length 0 (some 1))).take (HT.sIx x.length x.length none - HT.sIx x.length 0 (some 1)) = x.cps.toList.drop 1
  rw [show HT.sIx x.length 0 (some 1) = min 1 x.length from HT.sIx_nat x.length 0 1, HT.sIx_none]
  have e : x.length = x.cps.toList.length := (Array.length_toList).symm
  by_cases h : 1 ≤ x.length
  · rw [show min 1 x.length = 1 by omega]
    exact List.take_of_length_le (by rw [List.length_drop]; omega)
  · have h0 : x.cps.toList = [] := List.length_eq_zero_iff.mp (by omega)
    rw [h0]
    simp
section
variable {P : Program} {w : World} {K : PySem.W.Frag} {mg : Str → Option Value} {base : Heap}
theorem scAsc : FnScope ["letters", "one", "other"] ["letters"] (defScope sIsAscending) := ⟨rfl, rfl, rfl, by decide +kernel, rfl, by decide +kernel, by decide +kernel⟩
theorem ok_asc (D : Df K mg "is_ascending" sIsAscending ["letters"]) (ma : mg "all" = none) (mz : mg "zip" = none) : FnOk P w K mg base CX0 1 D.f D.fd ["letters"] spAsc := by
  refine D.F.ok scAsc (fun vs H Q E h => ?_) (fun cdv A outer s H vs Q E hr h => ?_)
  · obtain ⟨x, rfl, _⟩ := h
    rfl
  · obtain ⟨x, rfl, xl, k⟩ := h
    have sz : ∀ y : Str, y.length = (tl y).length := fun y => (Array.length_toList).symm
    refine ⟨_, (pss_one (ps_ret (pe_callB (cr_all rfl) (by rfl) ma (by decide +kernel) (pa_cons (pe_lc (own := [("one", 1), ("other", 2)]) (g := gTup K 2 (gCons (gName 1) (gCons (gName 2) gNil))) rfl scAsc.nd (ZX.pi_zipX (by rfl) mz (pa_cons (pv 0) (pa_cons (pe_slice sl_str (pv 0) (po_some pe_int) po_none) pa_nil))) (blkOk_by (N := ["letters", "one", "other"]) (sc := defScope sIsAscending) (by decide +kernel)) (fun _ _ _ _ _ => pg_tup rfl (pgs_cons (pg_name (i := 1) scAsc.nd rfl (.inl rfl)) (pgs_cons (pg_name (i := 2) scAsc.nd rfl (.inl rfl)) pgs_nil))) (fun _ _ _ _ _ => pts_nil) (fun _ _ _ _ _ => (pe_cmpR op_lt_str (pv 1) (pv 2) (nomark _)))) pa_nil)))), ?_⟩
    refine ⟨.str x, rfl, .str x, rfl, 1, rfl, ?_⟩
    unfold tNoPart
    refine ⟨x, rfl, by rw [sz, sizeLine_eq]; omega, x, _, rfl, fun L hL => ?_⟩
    have e1 := cut1 x
    generalize hy : cutS x (some 1) none = y at e1 ⊢
    have xs : x.cps.size = (tl x).length := (Array.length_toList).symm
    have ys : y.cps.size = (tl y).length := (Array.length_toList).symm
    have sL := same_upd (o := .lst []) hL
    refine lc_it ZX.walk_zipX (fun i H' => ∃ bs : List Bool, H' L = some (.lst (bs.map V.bl)) ∧ bs = (((tl x).zip (tl y)).take i).map (fun p => decide (p.1 < p.2)) ∧ Same H H') ⟨[], upd_same, rfl, sL⟩ (fun _ _ _ _ => trivial) ?_ ?_
    · rintro i v G G' hi ⟨bs, gL, be, sm⟩ ⟨T, c, d, rfl, hT, rfl, hc, hd⟩
      have sT := same_upd (o := .tup [.str ⟨#[c]⟩, .str ⟨#[d]⟩]) hT
      have hc' : (tl x)[i]? = some c := by rw [Array.getElem?_toList]; exact hc
      have hd' : (tl y)[i]? = some d := by rw [Array.getElem?_toList]; exact hd
      have hz : ((tl x).zip (tl y))[i]? = some (c, d) := List.getElem?_zip_eq_some.mpr ⟨hc', hd'⟩
      refine ⟨T, _, rfl, SqT.of upd_same, rfl, _, _, rfl, _, _, rfl, rfl, rfl, yes ?_⟩
      refine ⟨_, rfl, _, rfl, _, _, rfl, rfl, _, sT _ _ gL, ?_, bs ++ [decide (c < d)], ?_, ?_, fun b o e => (upd_ne (ne_of_none e hL)).trans ((sm.trans sT) _ _ e)⟩
      · rw [List.length_map, be, List.length_map, List.length_take, sizeLine_eq]
        omega
      · rw [upd_same, List.map_append]
        show some (HO.lst (_ ++ [V.bl (decide ([c] < [d]))])) = _
        rw [lt1]
        rfl
      · rw [be, List.take_add_one, hz, List.map_append]
        rfl
    · rintro G ⟨bs, gL, be, sm⟩
      refine ⟨L, bs, rfl, SqL.of gL, ?_⟩
      have e2 : bs.all id = ascB (tl x) := by
        rw [be, xs, ys, List.take_of_length_le (by rw [List.length_zip]; omega), List.all_map, e1]
        rfl
      rw [e2]
      exact k _ sm
theorem scAlp : FnScope ["thing", "letter"] ["thing"] (defScope sIsAlphabet) := ⟨rfl, rfl, rfl, by decide +kernel, rfl, by decide +kernel, by decide +kernel⟩
theorem ok_alp (D : Df K mg "is_alphabet" sIsAlphabet ["thing"]) (Da0 : Df K mg "is_ascending" sIsAscending ["letters"]) (ma : mg "all" = none) (mz : mg "zip" = none) (mi : mg "isinstance" = none) (ms : mg "str" = none) (ml : mg "len" = none) (mm0 : ∃ t, mg "MOST_LETTERS" = some (.int 3 t)) : FnOk P w K mg base CX0 2 D.f D.fd ["thing"] (spAlp K) := by
  have Ga : FnOk P w K mg base CX0 1 Da0.f Da0.fd ["letters"] spAsc := ok_asc Da0 ma mz
  have mm : ∃ u, mg "MOST_LETTERS" = some u ∧ RelV (.int 3) u := by
    obtain ⟨t, e⟩ := mm0
    exact ⟨_, e, t, rfl⟩
  refine D.F.ok scAlp (fun vs H Q E h => ?_) (fun cdv A outer s H vs Q E hr h => ?_)
  · obtain ⟨x, rfl, _⟩ := h
    rfl
  · obtain ⟨v, rfl, h⟩ := h
    have sz : ∀ y : Str, y.length = (tl y).length := fun y => (Array.length_toList).symm
    refine ⟨_, (pss_cons (ps_if (pw_or (pt_not (pt_val (pe_callB call_isi (by rfl) mi (by decide +kernel) (pa_cons (pv 0) (pa_cons (pe_bltn (v := V.ty "str") (by rfl) ms (by decide +kernel : bootBuiltins "str" = some (.type "str")) rfl) pa_nil))))) (pw_or1 (pt_not (pt_chain op_le op_le pe_int (pe_callB call_len_str (by rfl) ml PySem.boot_len (pa_cons (pv 0) pa_nil)) (C8.pe_gc (by rfl) mm))))).pt (pss_one (ps_ret pe_bl)) pss_nil) (pss_one (ps_ret (pe_and (pe_callB (cr_all rfl) (by rfl) ma (by decide +kernel) (pa_cons (pe_lc (own := [("letter", 1)]) (g := gName 1) rfl scAlp.nd (pi_str (pv 0)) (blkOk_by (N := ["thing", "letter"]) (sc := defScope sIsAlphabet) (by decide +kernel)) (fun _ _ _ _ _ => pg_name (i := 1) scAlp.nd rfl (Or.inl rfl)) (fun _ _ _ _ _ => pts_nil) (fun _ _ _ _ _ => (pe_chain op_le_str op_le_str pe_str (pv 1) pe_str))) pa_nil)) (pe_one (pe_call Ga hr (by rfl) Da0.g Da0.F.kp Da0.b .nil pass0 (pa_cons (pv 0) pa_nil))))))), ?_⟩
    rcases h with ⟨x, rfl, xl, k⟩ | ⟨⟨t, ty, kt⟩, k⟩
    · have xs : x.cps.size = (tl x).length := (Array.length_toList).symm
      refine ⟨.str x, rfl, _, _, _, _, true, rfl, .ty "str", .base (.str x), isi_kit, true, rfl, ?_⟩
      refine iteF ?_
      refine ⟨.str x, rfl, x, rfl, by rw [sz, sizeLine_eq]; omega, 1, _, rfl, rfl, _, rfl, ?_⟩
      refine ite2 (fun e1 => ?_) (fun e1 => ?_)
      · have e1' : 1 ≤ (tl x).length := by
          have := of_decide_eq_true e1
          rw [sz] at this
          omega
        refine ⟨_, 3, rfl, rfl, _, rfl, ?_⟩
        refine ite2 (fun e2 => ?_) (fun e2 => ?_)
        · have e2' : ¬ (tl x).length ≤ 3 := by
            rw [sz] at e2
            simp at e2
            omega
          have q := k _ (Same.refl H)
          rw [show alphB (tl x) = false by unfold alphB; rw [decide_eq_false e2']; simp] at q
          exact q
        · have e2' : (tl x).length ≤ 3 := by
            rw [sz] at e2
            simp at e2
            omega
          have ea : alphB (tl x) = ((tl x).all lowB && ascB (tl x)) := by
            unfold alphB
            rw [decide_eq_true e1', decide_eq_true e2']
            rfl
          rw [ea] at k
          refine ⟨.str x, rfl, x, rfl, fun L hL => ?_⟩
          have sL := same_upd (o := .lst []) hL
          refine lc_it walk_str (fun i H' => ∃ bs : List Bool, H' L = some (.lst (bs.map V.bl)) ∧ bs = ((tl x).take i).map lowB ∧ Same H H') ⟨[], upd_same, rfl, sL⟩ (fun _ _ _ _ => trivial) ?_ ?_
          · rintro i v G G' hi ⟨bs, gL, be, sm⟩ ⟨rfl, c, hc, rfl⟩
            have hc' : (tl x)[i]? = some c := by rw [Array.getElem?_toList]; exact hc
            refine ⟨rfl, yes ?_⟩
            have fin : ∀ G2 : Hp, G2 = G' → ∃ acc, G2 L = some (.lst acc) ∧ acc.length < sizeLine ∧ ∃ bs : List Bool, (upd G2 L (.lst (acc ++ [V.bl (lowB c)]))) L = some (.lst (bs.map V.bl)) ∧ bs = ((tl x).take (i + 1)).map lowB ∧ Same H (upd G2 L (.lst (acc ++ [V.bl (lowB c)]))) := by
              rintro G2 rfl
              refine ⟨_, gL, ?_, bs ++ [lowB c], ?_, ?_, fun b o e => (upd_ne (ne_of_none e hL)).trans (sm _ _ e)⟩
              · rw [List.length_map, be, List.length_map, List.length_take, sizeLine_eq]
                omega
              · rw [upd_same, List.map_append]
                rfl
              · rw [be, List.take_add_one, hc', List.map_append]
                rfl
            have le := low_eq c
            refine ⟨_, rfl, _, _, rfl, rfl, _, rfl, ?_⟩
            refine ite2 (fun e3 => ?_) (fun e3 => ?_)
            · rw [show (!decide (([c] : List Nat) < [97])) = true from e3, if_pos rfl] at le
              refine ⟨_, _, rfl, rfl, ?_⟩
              have q := fin _ rfl
              rw [← le] at q
              exact q
            · rw [if_neg (show ¬ (!decide (([c] : List Nat) < [97])) = true from e3)] at le
              have q := fin _ rfl
              rw [← le] at q
              exact q
          · rintro G ⟨bs, gL, be, sm⟩
            refine ⟨L, bs, rfl, SqL.of gL, _, rfl, ?_⟩
            have e2 : bs.all id = (tl x).all lowB := by
              rw [be, xs, List.take_length, List.all_map]
              rfl
            rw [e2]
            refine ite2 (fun e3 => ?_) (fun e3 => ?_)
            · refine ⟨.str x, rfl, x, rfl, xl, fun H' s' => ?_⟩
              have q := k _ (sm.trans s')
              rw [e3] at q
              exact q
            · have q := k _ sm
              have e3' : (tl x).all lowB = false := by simpa using e3
              rw [e3'] at q
              exact q
      · have e1' : ¬ 1 ≤ (tl x).length := by
          intro h
          exact e1 (decide_eq_true (by rw [sz]; omega))
        have q := k _ (Same.refl H)
        rw [show alphB (tl x) = false by unfold alphB; rw [decide_eq_false e1']; rfl] at q
        exact ⟨_, rfl, q⟩
    · refine ⟨v, rfl, _, _, _, _, false, rfl, .ty "str", ty, kt, false, rfl, ?_⟩
      exact k _ (Same.refl H)
end
end DW
/-! is_symbol, symbols_among -/
namespace DW
open PySem PySem.Spec PyProof.Rows L2 TL
set_option autoImplicit false
/-- a capital letter -/
def symB (c : Nat) : Bool := decide (65 ≤ c) && decide (c ≤ 90)
theorem sym_eq (c : Nat) : (if (!decide (([c] : List Nat) < [65])) = true then !decide (([90] : List Nat) < [c]) else false) = symB c := by
  rw [lt1, lt1]
  unfold symB
  by_cases h : c < 65
  · rw [decide_eq_true h]
    simp
    omega
  · rw [decide_eq_false h]
    simp
    by_cases g : 90 < c
    · rw [decide_eq_true g, decide_eq_true (by omega : 65 ≤ c), decide_eq_false (by omega : ¬ c ≤ 90)]
      rfl
    · rw [decide_eq_false g, decide_eq_true (by omega : 65 ≤ c), decide_eq_true (by omega : c ≤ 90)]
      rfl
def spSym : Sp := fun vs H Q _ => ∃ c : Nat, vs = [.str ⟨#[c]⟩] ∧ Q (.bl (symB c)) H
section
variable {P : Program} {w : World} {K : PySem.W.Frag} {mg : Str → Option Value} {base : Heap}
theorem scSym : FnScope ["item"] ["item"] (defScope sIsSymbol) := ⟨rfl, rfl, rfl, by decide +kernel, rfl, by decide +kernel, by decide +kernel⟩
theorem ok_sym (D : Df K mg "is_symbol" sIsSymbol ["item"]) : FnOk P w K mg base CX0 1 D.f D.fd ["item"] spSym := by
  refine D.F.ok scSym (fun vs H Q E h => ?_) (fun cdv A outer s H vs Q E hr h => ?_)
  · obtain ⟨c, rfl, _⟩ := h
    rfl
  · obtain ⟨c, rfl, k⟩ := h
    refine ⟨_, pss_one (ps_ret (pe_chain op_le_str op_le_str pe_str (pv 0) pe_str)), ?_⟩
    have le := sym_eq c
    refine ⟨.str ⟨#[c]⟩, rfl, _, _, rfl, rfl, _, rfl, ?_⟩
    refine ite2 (fun e3 => ?_) (fun e3 => ?_)
    · rw [show (!decide (([c] : List Nat) < [65])) = true from e3, if_pos rfl] at le
      refine ⟨_, _, rfl, rfl, ?_⟩
      rw [← le] at k
      exact k
    · rw [if_neg (show ¬ (!decide (([c] : List Nat) < [65])) = true from e3)] at le
      rw [← le] at k
      exact k
end
end DW
/-! symbols_among -/
namespace DW
open PySem PySem.Spec PyProof.Rows L2 TL
set_option autoImplicit false
theorem fresh_of {H G : Hp} {b : Addr} (s : Same H G) (h : G b = none) : H b = none := by
  cases e : H b with
  | none => rfl
  | some o =>
    rw [s _ _ e] at h
    cases h
def spSa : Sp := fun vs H Q _ => ∃ x : Str, vs = [.str x] ∧ (tl x).length ≤ 100000 ∧ ∀ H' q (ys : List Str), Same H H' → H q = none → H' q = some (.lst (ys.map V.str)) → ys.Nodup → sortedS ys = true → (∀ y, y ∈ ys ↔ ∃ c ∈ tl x, symB c = true ∧ y = ⟨#[c]⟩) → Q (.ref q) H'
theorem u16s {k : Nat} {A : Around} (hr : Room k A) : A.units + 16 < cLine := by
  have := hr.un
  omega
def syms : List Str := (List.range 26).map fun k => ⟨#[65 + k]⟩
theorem syms_all {c : Nat} (h : symB c = true) : (⟨#[c]⟩ : Str) ∈ syms := by
  unfold symB at h
  rw [Bool.and_eq_true] at h
  have h1 := of_decide_eq_true h.1
  have h2 := of_decide_eq_true h.2
  exact List.mem_map.mpr ⟨c - 65, List.mem_range.mpr (by omega), by rw [show 65 + (c - 65) = c by omega]⟩
theorem nodup_lenS {α : Type} [DecidableEq α] : ∀ (l m : List α), l.Nodup → (∀ x ∈ l, x ∈ m) → l.length ≤ m.length
  | [], _, _, _ => Nat.zero_le _
  | a :: l, m, nd, h => by
    obtain ⟨na, nd⟩ := List.nodup_cons.mp nd
    have hm := h a List.mem_cons_self
    have q := nodup_lenS l (m.erase a) nd fun x hx => (List.mem_erase_of_ne (by intro e; subst e; exact na hx)).mpr (h x (List.mem_cons_of_mem _ hx))
    rw [List.length_erase_of_mem hm] at q
    have := List.length_pos_of_mem hm
    rw [List.length_cons]
    omega
section
variable {P : Program} {w : World} {K : PySem.W.Frag} {mg : Str → Option Value} {base : Heap}
theorem scSa : FnScope ["items", "item"] ["items"] (defScope sSymbolsAmong) := ⟨rfl, rfl, rfl, by decide +kernel, rfl, by decide +kernel, by decide +kernel⟩
theorem ok_sa (D : Df K mg "symbols_among" sSymbolsAmong ["items"]) (Ds0 : Df K mg "is_symbol" sIsSymbol ["item"]) (ms : mg "sorted" = none) : FnOk P w K mg base CX0 2 D.f D.fd ["items"] spSa := by
  have Gs : FnOk P w K mg base CX0 1 Ds0.f Ds0.fd ["item"] spSym := ok_sym Ds0
  refine D.F.ok scSa (fun vs H Q E h => ?_) (fun cdv A outer s H vs Q E hr h => ?_)
  · obtain ⟨x, rfl, _⟩ := h
    rfl
  · obtain ⟨x, rfl, xl, k⟩ := h
    have hr1 := hr
    refine ⟨_, (pss_one (ps_ret (pe_callB (TX.cr_sortTx rfl) (by rfl) ms (by decide +kernel) (pa_cons (NSet.pe_sc (own := [("item", 1)]) (g := gName 1) (NSet.adds_Tx _ _ _) (NSet.setTx_fresh _ _) (u16s hr) rfl scSa.nd (pi_str (pv 0)) (blkOk_by (N := ["items", "item"]) (sc := defScope sSymbolsAmong) (by decide +kernel)) (fun _ _ _ _ _ => pg_name (i := 1) scSa.nd rfl (Or.inl rfl)) (fun _ _ _ _ _ => (pts_one (pt_val (pe_call Gs hr1 (by rfl) Ds0.g Ds0.F.kp Ds0.b .nil pass0 (pa_cons (pv 1) pa_nil))))) (fun _ _ _ _ _ => (pv 1))) pa_nil)))), ?_⟩
    refine ⟨.str x, rfl, x, rfl, fun D1 hD1 => ?_⟩
    have xs : x.cps.size = (tl x).length := (Array.length_toList).symm
    refine NSet.sc_it (so := fun D => TX.SetTx P w D []) (put := NSet.putTx P w) walk_str (fun i H' => ∃ l : List Str, H' D1 = some (TX.SetTx P w D1 l) ∧ l.Nodup ∧ (∀ y, y ∈ l ↔ ∃ c ∈ (tl x).take i, symB c = true ∧ y = ⟨#[c]⟩) ∧ Same H H') ⟨[], upd_same, List.nodup_nil, fun y => ⟨fun h => (nomatch h), fun ⟨c, hc, _⟩ => (nomatch hc)⟩, same_upd hD1⟩ (fun _ _ _ _ => trivial) ?_ ?_
    · rintro i v G G' hi ⟨l, gD, nd, mem, sm⟩ ⟨rfl, c, hc, rfl⟩
      have hc' : (tl x)[i]? = some c := by rw [Array.getElem?_toList]; exact hc
      have tk : (tl x).take (i + 1) = (tl x).take i ++ [c] := by rw [List.take_add_one, hc']; rfl
      refine ⟨rfl, .str ⟨#[c]⟩, rfl, c, rfl, _, rfl, ?_⟩
      have small : l.length ≤ 26 := nodup_lenS l syms nd fun y hy => by
        obtain ⟨c', _, h, rfl⟩ := (mem y).mp hy
        exact syms_all h
      cases e : symB c with
      | false =>
        refine iteF ⟨l, gD, nd, fun y => ?_, sm⟩
        rw [mem y, tk]
        constructor
        · rintro ⟨d, hd, h⟩
          exact ⟨d, List.mem_append_left _ hd, h⟩
        · rintro ⟨d, hd, h1, h2⟩
          rcases List.mem_append.mp hd with q | q
          · exact ⟨d, q, h1, h2⟩
          · rw [List.mem_singleton.mp q, e] at h1
            cases h1
      | true =>
        refine iteT ⟨.str ⟨#[c]⟩, rfl, ⟨#[c]⟩, l, rfl, gD, Nat.lt_of_le_of_lt (show l.length + 1 ≤ 27 by omega) (by decide), fun hin => ⟨l, gD, nd, fun y => ?_, sm⟩, fun hout => ⟨⟨#[c]⟩ :: l, upd_same, List.nodup_cons.mpr ⟨hout, nd⟩, fun y => ?_, fun b o h => (upd_ne (fun q => by rw [q, hD1] at h; cases h)).trans (sm b o h)⟩⟩
        · rw [tk]
          constructor
          · intro hy
            obtain ⟨d, hd, h⟩ := (mem y).mp hy
            exact ⟨d, List.mem_append_left _ hd, h⟩
          · rintro ⟨d, hd, h1, h2⟩
            rcases List.mem_append.mp hd with q | q
            · exact (mem y).mpr ⟨d, q, h1, h2⟩
            · rw [h2, List.mem_singleton.mp q]
              exact hin
        · rw [tk]
          constructor
          · intro hy
            rcases List.mem_cons.mp hy with rfl | hy
            · exact ⟨c, List.mem_append_right _ List.mem_cons_self, e, rfl⟩
            · obtain ⟨d, hd, h⟩ := (mem y).mp hy
              exact ⟨d, List.mem_append_left _ hd, h⟩
          · rintro ⟨d, hd, h1, h2⟩
            rcases List.mem_append.mp hd with q | q
            · exact List.mem_cons_of_mem _ ((mem y).mpr ⟨d, q, h1, h2⟩)
            · rw [h2, List.mem_singleton.mp q]
              exact List.mem_cons_self
    · rintro G ⟨l, gD, nd, mem, sm⟩
      have small : l.length ≤ 26 := nodup_lenS l syms nd fun y hy => by
        obtain ⟨c', _, h, rfl⟩ := (mem y).mp hy
        exact syms_all h
      rw [xs, List.take_length] at mem
      refine ⟨D1, l, rfl, gD, by omega, fun ys p pm so hp => ?_⟩
      exact k _ p ys (sm.trans (same_upd hp)) (fresh_of sm hp) upd_same (pm.nodup_iff.mpr nd) so (fun y => (pm.mem_iff).trans (mem y))
end
end DW
/-! is_production of any object -/
namespace DW
open PySem PySem.Spec PyProof.Rows L2 TL
set_option autoImplicit false
theorem sqT_ty {K : PySem.W.Frag} {H : Hp} {a : Addr} {xs : List V} (h : SqT K H a xs) : TyX K H (.ref a) (.type "tuple") := by
  rcases h with (h | ⟨o, h⟩) | ⟨o, its, n, h, c, _⟩
  · exact .base (.tup h)
  · exact .fTuple h
  · exact .kTuple h c
theorem tup_kit {K : PySem.W.Frag} : PySem.W.kitOne K (.type "tuple") (.type "tuple") = some true := kit_ty (by decide +kernel)
/-- not a tuple -/
def NoT (K : PySem.W.Frag) (H : Hp) (v : V) : Prop := ∃ t, TyX K H v t ∧ PySem.W.kitOne K t (.type "tuple") = some false
/-- the right side of a production -/
def rightB (z : Str) (y : Str) : Bool := decide ((tl y).length ≤ 3) && (tl y).all fun c => symB c || decide (c ∈ tl z)
/-- is it a production -/
inductive PdB (K : PySem.W.Frag) (H : Hp) (z : Str) : V → Bool → Prop where
  | no {v : V} (h : NoT K H v) : PdB K H z v false
  | len {a : Addr} {xs : List V} (h : SqT K H a xs) (n : xs.length ≠ 2) : PdB K H z (.ref a) false
  | nos {a : Addr} {s y : V} (h : SqT K H a [s, y]) (n : NoS K H s) : PdB K H z (.ref a) false
  | slen {a : Addr} {s : Str} {y : V} (h : SqT K H a [.str s, y]) (n : (tl s).length ≠ 1) (l : (tl s).length ≤ 100000) : PdB K H z (.ref a) false
  | ssym {a : Addr} {c : Nat} {y : V} (h : SqT K H a [.str ⟨#[c]⟩, y]) (n : symB c = false) : PdB K H z (.ref a) false
  | ino {a : Addr} {c : Nat} {y : V} (h : SqT K H a [.str ⟨#[c]⟩, y]) (s : symB c = true) (n : NoS K H y) : PdB K H z (.ref a) false
  | ok {a : Addr} {c : Nat} {y : Str} (h : SqT K H a [.str ⟨#[c]⟩, .str y]) (s : symB c = true) (l : (tl y).length ≤ 100000) : PdB K H z (.ref a) (rightB z y)
def spPd (K : PySem.W.Frag) : Sp := fun vs H Q _ => ∃ (z : Str) (v : V) (b : Bool), vs = [.str z, v] ∧ (tl z).length ≤ 100000 ∧ PdB K H z v b ∧ ∀ H', Same H H' → Q (.bl b) H'
section
variable {P : Program} {w : World} {K : PySem.W.Frag} {mg : Str → Option Value} {base : Heap}
theorem scPd : FnScope ["alphabet", "thing", "symbol", "items", "item"] ["alphabet", "thing"] (defScope sIsProduction) := ⟨rfl, rfl, rfl, by decide +kernel, rfl, by decide +kernel, by decide +kernel⟩
theorem ok_pd (D : Df K mg "is_production" sIsProduction ["alphabet", "thing"]) (Ds0 : Df K mg "is_symbol" sIsSymbol ["item"]) (ma : mg "all" = none) (mi : mg "isinstance" = none) (mstr : mg "str" = none) (mt : mg "tuple" = none) (ml : mg "len" = none) (m3 : ∃ t, mg "MOST_ITEMS" = some (.int 3 t)) : FnOk P w K mg base CX0 2 D.f D.fd ["alphabet", "thing"] (spPd K) := by
  have Gs : FnOk P w K mg base CX0 1 Ds0.f Ds0.fd ["item"] spSym := ok_sym Ds0
  have mi3 : ∃ u, mg "MOST_ITEMS" = some u ∧ RelV (.int 3) u := by
    obtain ⟨t, e⟩ := m3
    exact ⟨_, e, t, rfl⟩
  refine D.F.ok scPd (fun vs H Q E h => ?_) (fun cdv A outer s H vs Q E hr h => ?_)
  · obtain ⟨z, v, b, rfl, _⟩ := h
    rfl
  · obtain ⟨z, v, b, rfl, zl, pd, k⟩ := h
    have hr1 := hr
    have sz : ∀ y : Str, y.length = (tl y).length := fun y => (Array.length_toList).symm
    refine ⟨_, (pss_cons (ps_if (pw_or (pt_not (pt_val (pe_callB call_isi (by rfl) mi (by decide +kernel) (pa_cons (pv 1) (pa_cons (pe_bltn (v := V.ty "tuple") (by rfl) mt (by decide +kernel : bootBuiltins "tuple" = some (.type "tuple")) rfl) pa_nil))))) (pw_or1 (pt_cmpR op_ne (pe_callB call_len_seq (by rfl) ml PySem.boot_len (pa_cons (pv 1) pa_nil)) pe_int (nomark _)))).pt (pss_one (ps_ret pe_bl)) pss_nil) (pss_cons (ps_asg (pv 1) (pg_tup rfl (pgs_cons (pg_name (i := 2) scPd.nd rfl (.inl rfl)) (pgs_cons (pg_name (i := 3) scPd.nd rfl (.inl rfl)) pgs_nil)))) (pss_cons (ps_if (pw_or (pt_not (pt_val (pe_callB call_isi (by rfl) mi (by decide +kernel) (pa_cons (pv 2) (pa_cons (pe_bltn (v := V.ty "str") (by rfl) mstr (by decide +kernel : bootBuiltins "str" = some (.type "str")) rfl) pa_nil))))) (pw_or (pt_cmpR op_ne (pe_callB call_len_str (by rfl) ml PySem.boot_len (pa_cons (pv 2) pa_nil)) pe_int (nomark _)) (pw_or1 (pt_not (pt_val (pe_call Gs hr1 (by rfl) Ds0.g Ds0.F.kp Ds0.b .nil pass0 (pa_cons (pv 2) pa_nil))))))).pt (pss_one (ps_ret pe_bl)) pss_nil) (pss_cons (ps_if (pw_or (pt_not (pt_val (pe_callB call_isi (by rfl) mi (by decide +kernel) (pa_cons (pv 3) (pa_cons (pe_bltn (v := V.ty "str") (by rfl) mstr (by decide +kernel : bootBuiltins "str" = some (.type "str")) rfl) pa_nil))))) (pw_or1 (pt_cmpR op_gt (pe_callB call_len_str (by rfl) ml PySem.boot_len (pa_cons (pv 3) pa_nil)) (C8.pe_gc (by rfl) mi3) (nomark _)))).pt (pss_one (ps_ret pe_bl)) pss_nil) (pss_one (ps_ret (pe_callB (cr_all rfl) (by rfl) ma (by decide +kernel) (pa_cons (pe_lc (own := [("item", 4)]) (g := gName 4) rfl scPd.nd (pi_str (pv 3)) (blkOk_by (N := ["alphabet", "thing", "symbol", "items", "item"]) (sc := defScope sIsProduction) (by decide +kernel)) (fun _ _ _ _ _ => pg_name (i := 4) scPd.nd rfl (Or.inl rfl)) (fun _ _ _ _ _ => pts_nil) (fun _ _ _ _ _ => (pe_or (pe_call Gs hr1 (by rfl) Ds0.g Ds0.F.kp Ds0.b .nil pass0 (pa_cons (pv 4) pa_nil)) (pe_one (pe_cmpR op_in_sign (pv 4) (pv 0) rfl))))) pa_nil)))))))), ?_⟩
    have two : ∀ {a : Addr} {s y : V}, SqT K H a [s, y] → True := fun _ => trivial
    cases pd with
    | no h =>
      obtain ⟨t, ty, kt⟩ := h
      exact ⟨v, rfl, _, _, _, _, false, rfl, .ty "tuple", ty, kt, false, rfl, iteT (k _ (Same.refl _))⟩
    | @len a xs h n =>
      refine ⟨.ref a, rfl, _, _, _, _, true, rfl, .ty "tuple", sqT_ty h, tup_kit, true, rfl, iteF ?_⟩
      refine ⟨.ref a, rfl, a, _, rfl, .inr h, rfl, _, rfl, ?_⟩
      rw [show (!decide (V.int (xs.length : Int) = V.int 2)) = true by
        rw [decide_eq_false fun e => by
          have := V.int.inj e
          omega]
        rfl]
      exact iteT (k _ (Same.refl _))
    | @nos a s y h n =>
      refine ⟨.ref a, rfl, _, _, _, _, true, rfl, .ty "tuple", sqT_ty h, tup_kit, true, rfl, iteF ?_⟩
      refine ⟨.ref a, rfl, a, _, rfl, .inr h, rfl, _, rfl, iteF ?_⟩
      refine ⟨.ref a, rfl, a, _, rfl, h, rfl, _, _, rfl, _, _, rfl, rfl, ?_⟩
      obtain ⟨t, ty, kt⟩ := n
      exact ⟨s, rfl, _, _, _, _, false, rfl, .ty "str", ty, kt, false, rfl, iteT (k _ (Same.refl _))⟩
    | @slen a s y h n l =>
      refine ⟨.ref a, rfl, _, _, _, _, true, rfl, .ty "tuple", sqT_ty h, tup_kit, true, rfl, iteF ?_⟩
      refine ⟨.ref a, rfl, a, _, rfl, .inr h, rfl, _, rfl, iteF ?_⟩
      refine ⟨.ref a, rfl, a, _, rfl, h, rfl, _, _, rfl, _, _, rfl, rfl, ?_⟩
      refine ⟨.str s, rfl, _, _, _, _, true, rfl, .ty "str", .base (.str s), isi_kit, true, rfl, iteF ?_⟩
      refine ⟨.str s, rfl, s, rfl, by rw [sz, sizeLine_eq]; omega, rfl, _, rfl, ?_⟩
      rw [show (!decide (V.int (s.length : Int) = V.int 1)) = true by
        rw [decide_eq_false fun e => by
          have := V.int.inj e
          rw [sz] at this
          omega]
        rfl]
      exact iteT (k _ (Same.refl _))
    | @ssym a c y h n =>
      refine ⟨.ref a, rfl, _, _, _, _, true, rfl, .ty "tuple", sqT_ty h, tup_kit, true, rfl, iteF ?_⟩
      refine ⟨.ref a, rfl, a, _, rfl, .inr h, rfl, _, rfl, iteF ?_⟩
      refine ⟨.ref a, rfl, a, _, rfl, h, rfl, _, _, rfl, _, _, rfl, rfl, ?_⟩
      refine ⟨.str ⟨#[c]⟩, rfl, _, _, _, _, true, rfl, .ty "str", .base (.str _), isi_kit, true, rfl, iteF ?_⟩
      refine ⟨.str ⟨#[c]⟩, rfl, ⟨#[c]⟩, rfl, by show 1 ≤ sizeLine; decide, rfl, _, rfl, iteF ?_⟩
      refine ⟨.str ⟨#[c]⟩, rfl, c, rfl, _, rfl, ?_⟩
      rw [n]
      exact iteT (k _ (Same.refl _))
    | @ino a c y h s n =>
      refine ⟨.ref a, rfl, _, _, _, _, true, rfl, .ty "tuple", sqT_ty h, tup_kit, true, rfl, iteF ?_⟩
      refine ⟨.ref a, rfl, a, _, rfl, .inr h, rfl, _, rfl, iteF ?_⟩
      refine ⟨.ref a, rfl, a, _, rfl, h, rfl, _, _, rfl, _, _, rfl, rfl, ?_⟩
      refine ⟨.str ⟨#[c]⟩, rfl, _, _, _, _, true, rfl, .ty "str", .base (.str _), isi_kit, true, rfl, iteF ?_⟩
      refine ⟨.str ⟨#[c]⟩, rfl, ⟨#[c]⟩, rfl, by show 1 ≤ sizeLine; decide, rfl, _, rfl, iteF ?_⟩
      refine ⟨.str ⟨#[c]⟩, rfl, c, rfl, _, rfl, ?_⟩
      rw [s]
      refine iteF ?_
      obtain ⟨t, ty, kt⟩ := n
      exact ⟨y, rfl, _, _, _, _, false, rfl, .ty "str", ty, kt, false, rfl, iteT (k _ (Same.refl _))⟩
    | @ok a c y h s l =>
      refine ⟨.ref a, rfl, _, _, _, _, true, rfl, .ty "tuple", sqT_ty h, tup_kit, true, rfl, iteF ?_⟩
      refine ⟨.ref a, rfl, a, _, rfl, .inr h, rfl, _, rfl, iteF ?_⟩
      refine ⟨.ref a, rfl, a, _, rfl, h, rfl, _, _, rfl, _, _, rfl, rfl, ?_⟩
      refine ⟨.str ⟨#[c]⟩, rfl, _, _, _, _, true, rfl, .ty "str", .base (.str _), isi_kit, true, rfl, iteF ?_⟩
      refine ⟨.str ⟨#[c]⟩, rfl, ⟨#[c]⟩, rfl, by show 1 ≤ sizeLine; decide, rfl, _, rfl, iteF ?_⟩
      refine ⟨.str ⟨#[c]⟩, rfl, c, rfl, _, rfl, ?_⟩
      rw [s]
      refine iteF ?_
      refine ⟨.str y, rfl, _, _, _, _, true, rfl, .ty "str", .base (.str y), isi_kit, true, rfl, iteF ?_⟩
      refine ⟨.str y, rfl, y, rfl, by rw [sz, sizeLine_eq]; omega, _, 3, rfl, rfl, _, rfl, ite2 (fun e1 => ?_) (fun e1 => ?_)⟩
      · have e1' : ¬ (tl y).length ≤ 3 := by
          have := of_decide_eq_true e1
          rw [sz] at this
          omega
        have q := k _ (Same.refl H)
        rw [show rightB z y = false by unfold rightB; rw [decide_eq_false e1']; rfl] at q
        exact q
      · have e1' : (tl y).length ≤ 3 := by
          have q : ¬ (3 : Int) < (y.length : Int) := fun h => e1 (decide_eq_true h)
          rw [sz] at q
          omega
        have ea : rightB z y = (tl y).all fun c => symB c || decide (c ∈ tl z) := by
          unfold rightB
          rw [decide_eq_true e1']
          rfl
        rw [ea] at k
        have xs : y.cps.size = (tl y).length := (Array.length_toList).symm
        refine ⟨.str y, rfl, y, rfl, fun L hL => ?_⟩
        have sL := same_upd (o := .lst []) hL
        refine lc_it walk_str (fun i H' => ∃ bs : List Bool, H' L = some (.lst (bs.map V.bl)) ∧ bs = ((tl y).take i).map (fun c => symB c || decide (c ∈ tl z)) ∧ Same H H') ⟨[], upd_same, rfl, sL⟩ (fun _ _ _ _ => trivial) ?_ ?_
        · rintro i v G G' hi ⟨bs, gL, be, sm⟩ ⟨rfl, d, hd, rfl⟩
          have hd' : (tl y)[i]? = some d := by rw [Array.getElem?_toList]; exact hd
          refine ⟨rfl, yes ?_⟩
          have fin : ∀ b : Bool, b = (symB d || decide (d ∈ tl z)) → ∃ acc, G' L = some (.lst acc) ∧ acc.length < sizeLine ∧ ∃ bs : List Bool, (upd G' L (.lst (acc ++ [V.bl b]))) L = some (.lst (bs.map V.bl)) ∧ bs = ((tl y).take (i + 1)).map (fun c => symB c || decide (c ∈ tl z)) ∧ Same H (upd G' L (.lst (acc ++ [V.bl b]))) := by
            rintro b rfl
            refine ⟨_, gL, ?_, bs ++ [symB d || decide (d ∈ tl z)], ?_, ?_, fun b o e => (upd_ne (ne_of_none e hL)).trans (sm _ _ e)⟩
            · rw [List.length_map, be, List.length_map, List.length_take, sizeLine_eq]
              omega
            · rw [upd_same, List.map_append]
              rfl
            · rw [be, List.take_add_one, hd', List.map_append]
              rfl
          refine ⟨.str ⟨#[d]⟩, rfl, d, rfl, _, rfl, ?_⟩
          cases e : symB d with
          | true => exact iteT (fin true (by rw [e]; rfl))
          | false => exact iteF ⟨.str ⟨#[d]⟩, rfl, .str z, rfl, d, z, rfl, rfl, fin _ (by rw [e]; rfl)⟩
        · rintro G ⟨bs, gL, be, sm⟩
          refine ⟨L, bs, rfl, SqL.of gL, ?_⟩
          have e2 : bs.all id = (tl y).all fun c => symB c || decide (c ∈ tl z) := by
            rw [be, xs, List.take_length, List.all_map]
            rfl
          rw [e2]
          exact k _ sm
end
end DW
/-! k62: how many symbols stand in the productions -/
namespace DW
open PySem PySem.Spec PyProof.Rows L2 TL
set_option autoImplicit false
/-- the characters of productions, one behind the other -/
def chs (ps : List (Nat × Str)) : List Nat := ps.flatMap fun p => p.1 :: tl p.2
theorem chs_app (a b : List (Nat × Str)) : chs (a ++ b) = chs a ++ chs b := by
  unfold chs
  rw [List.flatMap_append]
theorem chs_one (c : Nat) (y : Str) : chs [(c, y)] = c :: tl y := by
  unfold chs
  rw [List.flatMap_cons, List.flatMap_nil, List.append_nil]
/-- how many capital letters stand in a list of letters -/
def nsym (l : List Nat) : Nat := ((List.range 26).filter fun k => decide (65 + k ∈ l)).length
theorem one_inj {a b : Nat} (h : (⟨#[a]⟩ : Str) = ⟨#[b]⟩) : a = b := by
  have e := congrArg (fun s : Str => s.cps.toList) h
  exact (List.cons.inj e).1
theorem nodup_one : ∀ {l : List Nat}, l.Nodup → (l.map fun k => (⟨#[65 + k]⟩ : Str)).Nodup
  | [], _ => List.nodup_nil
  | a :: r, h => by
    obtain ⟨n, nd⟩ := List.nodup_cons.mp h
    rw [List.map_cons]
    refine List.nodup_cons.mpr ⟨fun m => ?_, nodup_one nd⟩
    obtain ⟨k, hk, e⟩ := List.mem_map.mp m
    have := one_inj e
    exact n (by rw [show a = k by omega]; exact hk)
theorem nsym_len {x : Str} {ys : List Str} (nd : ys.Nodup) (mem : ∀ y, y ∈ ys ↔ ∃ c ∈ tl x, symB c = true ∧ y = ⟨#[c]⟩) : ys.length = nsym (tl x) := by
  have T := fun y : Str => (List.mem_map (f := fun k : Nat => (⟨#[65 + k]⟩ : Str)) (b := y) (l := (List.range 26).filter fun k => decide (65 + k ∈ tl x)))
  have len : nsym (tl x) = (((List.range 26).filter fun k => decide (65 + k ∈ tl x)).map fun k => (⟨#[65 + k]⟩ : Str)).length := (List.length_map _).symm
  rw [len]
  apply Nat.le_antisymm
  · refine nodup_lenS _ _ nd fun y hy => (T y).mpr ?_
    obtain ⟨c, hc, s, rfl⟩ := (mem y).mp hy
    unfold symB at s
    rw [Bool.and_eq_true] at s
    have h1 := of_decide_eq_true s.1
    have h2 := of_decide_eq_true s.2
    refine ⟨c - 65, List.mem_filter.mpr ⟨List.mem_range.mpr (by omega), decide_eq_true (by rw [show 65 + (c - 65) = c by omega]; exact hc)⟩, by rw [show 65 + (c - 65) = c by omega]⟩
  · refine nodup_lenS _ _ (nodup_one (List.nodup_range.sublist List.filter_sublist)) fun y hy => (mem y).mpr ?_
    obtain ⟨k, hk, rfl⟩ := (T y).mp hy
    obtain ⟨h1, h2⟩ := List.mem_filter.mp hk
    have := List.mem_range.mp h1
    exact ⟨65 + k, of_decide_eq_true h2, by unfold symB; rw [decide_eq_true (by omega : 65 ≤ 65 + k), decide_eq_true (by omega : 65 + k ≤ 90)]; rfl, rfl⟩
theorem nsym_mono {a b : List Nat} (h : ∀ c ∈ a, c ∈ b) : nsym a ≤ nsym b := by
  unfold nsym
  refine nodup_lenS _ _ (List.nodup_range.sublist List.filter_sublist) fun k hk => ?_
  obtain ⟨h1, h2⟩ := List.mem_filter.mp hk
  exact List.mem_filter.mpr ⟨h1, decide_eq_true (h _ (of_decide_eq_true h2))⟩
end DW
/-! class Grammar: made, or refused -/
namespace DW
open PySem PySem.Spec PyProof.Rows L2 TL
set_option autoImplicit false
def clsBody (s : Stmt) : List Stmt := match s with
  | .ClassDef _ _ _ b _ _ _ _ _ _ _ => b
  | _ => []
def clsS (i j : Nat) : Stmt := (clsBody (topS i)).getD j (.Pass ⟨0, 0, 0, 0⟩)
abbrev sGrInit : Stmt := clsS 15 0
/-- a method as the top has made it -/
structure DfM (K : PySem.W.Frag) (C : Addr) (x q : Str) (st : Stmt) (ps : List Str) where
  f : Addr
  fd : FuncData
  F : FunD K x q (defArgs st) (defBody st) (defScope st) [] [] f fd
  b : Binds K fd ps []
/-- the class -/
structure DfG (K : PySem.W.Frag) (mg : Str → Option Value) where
  C : Addr
  g : mg "Grammar" = some (.ref C)
  cl : Cls K C
  nB : NoAttr K C "base"
  nR : NoAttr K C "rules"
  nO : NoAttr K C "occurring"
  i : DfM K C "__init__" "Grammar.__init__" sGrInit ["self", "alphabet", "productions"]
  mkr : Mk K C i.f
structure DfGr (K : PySem.W.Frag) (mg : Str → Option Value) extends DfG K mg where
  al : Df K mg "is_alphabet" sIsAlphabet ["thing"]
  as : Df K mg "is_ascending" sIsAscending ["letters"]
  pd : Df K mg "is_production" sIsProduction ["alphabet", "thing"]
  sy : Df K mg "is_symbol" sIsSymbol ["item"]
  sa : Df K mg "symbols_among" sSymbolsAmong ["items"]
  ma : mg "all" = none
  mz : mg "zip" = none
  mi : mg "isinstance" = none
  ms : mg "str" = none
  mt : mg "tuple" = none
  ml : mg "len" = none
  mli : mg "list" = none
  me : mg "enumerate" = none
  mso : mg "sorted" = none
  mm : ∃ t, mg "MOST_LETTERS" = some (.int 3 t)
  m3 : ∃ t, mg "MOST_ITEMS" = some (.int 3 t)
  m16 : ∃ t, mg "MOST_PRODUCTIONS" = some (.int 16 t)
  m6 : ∃ t, mg "MOST_SYMBOLS" = some (.int 6 t)
theorem ps_noxG {X : Cx} {st : Stmt} {t : TS} (h : PS X.nox st t) : PS X st t := ⟨fun pins s σ H D I hw =>
  wpAny_mono (h.run pins s σ H D (I.wish _) hw) (fun _ _ q => q.unwish) fun _ _ z => False.elim z⟩
/-- a value that is no alphabet -/
inductive BadA (K : PySem.W.Frag) (H : Hp) : V → Prop where
  | str {x : Str} (l : (tl x).length ≤ 100000) (h : alphB (tl x) = false) : BadA K H (.str x)
  | no {v : V} (h : NoS K H v) : BadA K H v
/-- a value that is neither a list nor a tuple -/
def NoLT (K : PySem.W.Frag) (H : Hp) (v : V) : Prop := ∃ t, TyX K H v t ∧ PySem.W.kitAny K t [.type "list", .type "tuple"] = some false
/-- a production -/
def PdAt (K : PySem.W.Frag) (H : Hp) (z : Str) (v : V) (c : Nat) (y : Str) : Prop := ∃ a, v = .ref a ∧ SqT K H a [.str ⟨#[c]⟩, .str y] ∧ symB c = true ∧ (tl y).length ≤ 100 ∧ rightB z y = true
/-- the productions before the first one that is refused -/
def GrPre (K : PySem.W.Frag) (H : Hp) (z : Str) (xs : List V) (ps : List (Nat × Str)) : Prop := ps.length ≤ 16 ∧ (∀ (i : Nat) (v : V), i < ps.length → xs[i]? = some v → ∃ c y, ps[i]? = some (c, y) ∧ PdAt K H z v c y) ∧ nsym (chs ps) ≤ 6
/-- why one is refused behind these -/
def GrBad (K : PySem.W.Frag) (H : Hp) (z : Str) (ps : List (Nat × Str)) (v : V) : Prop := ps.length = 16 ∨ PdB K H z v false ∨ ∃ c y, PdAt K H z v c y ∧ 6 < nsym (chs (ps ++ [(c, y)]))
def flG (z : Str) (r o : Addr) : List (Str × V) := putF "occurring" (.ref o) (putF "rules" (.ref r) (putF "base" (.str z) []))
/-- a Grammar in the heap -/
def GrAtR (C : Addr) (H : Hp) (p : Addr) (z : Str) (xs : List V) (ps : List (Nat × Str)) (r o : Addr) : Prop := ∃ (dx : Addr) (ys : List Str), H p = some (.ins C dx (flG z r o)) ∧ H r = some (.lst xs) ∧ H o = some (.lst (ys.map V.str)) ∧ ys.Nodup ∧ sortedS ys = true ∧ ∀ y, y ∈ ys ↔ ∃ c ∈ chs ps, symB c = true ∧ y = ⟨#[c]⟩
def GrAt (C : Addr) (H : Hp) (p : Addr) (z : Str) (xs : List V) (ps : List (Nat × Str)) : Prop := ∃ r o, GrAtR C H p z xs ps r o
theorem ascB_of {l : List Nat} (h : l.Pairwise (· < ·)) : ascB l = true := by
  induction l with
  | nil => rfl
  | cons a l ih =>
    cases l with
    | nil => rfl
    | cons b r =>
      obtain ⟨h1, h2⟩ := List.pairwise_cons.mp h
      show (decide (a < b) && ascB (b :: r)) = true
      rw [ih h2, decide_eq_true (h1 b List.mem_cons_self)]
      rfl
/-- a factor that was drawn is one -/
theorem alphB_of {z : Str} (h : Alph z) : alphB (tl z) = true := by
  obtain ⟨h1, h2, h3, h4⟩ := h
  unfold alphB
  rw [decide_eq_true h2, decide_eq_true h3, ascB_of h1]
  simp only [Bool.true_and, Bool.and_true]
  refine List.all_eq_true.mpr fun c hc => ?_
  unfold lowB
  rw [decide_eq_true (h4 c hc).1, decide_eq_true (h4 c hc).2]
  rfl
theorem lst_kit {K : PySem.W.Frag} : PySem.W.kitOne K (.type "list") (.type "list") = some true := kit_ty (by decide +kernel)
theorem tyX_sameG {K : PySem.W.Frag} {H H' : Hp} {v : V} {t : Value} (s : Same H H') (h : TyX K H v t) : TyX K H' v t := by
  cases h with
  | base b =>
    refine .base ?_
    cases b with
    | non => exact .non
    | bl y => exact .bl y
    | int i => exact .int i
    | str y => exact .str y
    | flt y => exact .flt y
    | lst e => exact .lst (s _ _ e)
    | frz e => exact .frz (s _ _ e)
    | tup e => exact .tup (s _ _ e)
    | dK e => exact .dK (s _ _ e)
    | dT e => exact .dT (s _ _ e)
    | ins e a b c d f => exact .ins (s _ _ e) a b c d f
  | byt b => exact .byt b
  | set e => exact .set (s _ _ e)
  | kList e c => exact .kList e c
  | kTuple e c => exact .kTuple e c
  | kDict e c => exact .kDict e c
  | fTuple e => exact .fTuple (s _ _ e)
  | fDict e => exact .fDict (s _ _ e)
theorem same_tupG {H H' : Hp} {K : PySem.W.Frag} (s : Same H H') (b : Addr) (xs : List V) (h : SqT K H b xs) : SqT K H' b xs := by
  rcases h with (h | ⟨v, h⟩) | h
  · exact .inl (.inl (s _ _ h))
  · exact .inl (.inr ⟨v, s _ _ h⟩)
  · exact .inr h
theorem PdAt.same {K : PySem.W.Frag} {H H' : Hp} {z : Str} {v : V} {c : Nat} {y : Str} (s : Same H H') (h : PdAt K H z v c y) : PdAt K H' z v c y := by
  obtain ⟨a, e, g, h⟩ := h
  exact ⟨a, e, same_tupG s _ _ g, h⟩
theorem NoS.sameG {K : PySem.W.Frag} {H H' : Hp} {v : V} (s : Same H H') (h : NoS K H v) : NoS K H' v := by
  obtain ⟨t, ty, k⟩ := h
  exact ⟨t, tyX_sameG s ty, k⟩
theorem PdB.same {K : PySem.W.Frag} {H H' : Hp} {z : Str} {v : V} {b : Bool} (s : Same H H') (h : PdB K H z v b) : PdB K H' z v b := by
  cases h with
  | no h =>
    obtain ⟨t, ty, k⟩ := h
    exact .no ⟨t, tyX_sameG s ty, k⟩
  | len h n => exact .len (same_tupG s _ _ h) n
  | nos h n => exact .nos (same_tupG s _ _ h) (n.sameG s)
  | slen h n l => exact .slen (same_tupG s _ _ h) n l
  | ssym h n => exact .ssym (same_tupG s _ _ h) n
  | ino h x n => exact .ino (same_tupG s _ _ h) x (n.sameG s)
  | ok h x l => exact .ok (same_tupG s _ _ h) x l
theorem chs_len {z : Str} : ∀ ps : List (Nat × Str), (∀ p ∈ ps, (tl p.2).length ≤ 100) → (chs ps).length ≤ 101 * ps.length
  | [], _ => Nat.le_refl _
  | p :: ps, h => by
    have := chs_len (z := z) ps fun q hq => h q (List.mem_cons_of_mem _ hq)
    have := h p List.mem_cons_self
    show ((p.1 :: tl p.2) ++ chs ps).length ≤ _
    rw [List.length_append, List.length_cons, List.length_cons]
    omega
theorem tl_appG (x y : Str) : tl (x ++ y) = tl x ++ tl y := Array.toList_append
theorem log_small {i : Nat} (h : i ≤ 16) : ((i : Int)).natAbs.log2 < 1920 := (by decide +kernel : ∀ i : Nat, i < 17 → ((i : Int)).natAbs.log2 < 1920) i (by omega)
def spGr (K : PySem.W.Frag) (CA CP : Addr) : Sp := fun vs H Q E => ∃ (p C dx : Addr) (va vb : V), vs = [.ref p, va, vb] ∧ H p = some (.ins C dx []) ∧ Cls K C ∧ NoAttr K C "base" ∧ NoAttr K C "rules" ∧ NoAttr K C "occurring" ∧
  ((BadA K H va ∧ ∀ H', Same H H' → E (.ref CA) none H') ∨
   ∃ z : Str, va = .str z ∧ Alph z ∧
    ((NoLT K H vb ∧ ∀ H' d, Same H H' → H' d = none → E (.ref CP) (some d) (upd H' d (.xd [(("index" : Str), .non)]))) ∨
     ∃ (a : Addr) (xs : List V) (ps : List (Nat × Str)), vb = .ref a ∧ H a = some (.lst xs) ∧ GrPre K H z xs ps ∧
      ((∃ v, xs[ps.length]? = some v ∧ GrBad K H z ps v ∧ ∀ H' d, Same H H' → H' d = none → E (.ref CP) (some d) (upd H' d (.xd [(("index" : Str), .int (ps.length : Int))]))) ∨
       (xs.length = ps.length ∧ ∀ H', (∀ b o, H b = some o → b ≠ p → H' b = some o) → (∃ r o, H r = none ∧ H o = none ∧ GrAtR C H' p z xs ps r o) → Q .non H'))))
section
variable {P : Program} {w : World} {K : PySem.W.Frag} {mg : Str → Option Value} {base : Heap}
theorem scGi : FnScope ["self", "alphabet", "productions", "characters", "index", "production"] ["self", "alphabet", "productions"] (defScope sGrInit) := ⟨rfl, rfl, rfl, by decide +kernel, rfl, by decide +kernel, by decide +kernel⟩
theorem ok_gr (D : DfGr K mg) (A : EX.DfE0 K mg "InvalidAlphabet") (M : EX.DfE P K mg "InvalidProduction" "index" EX.MsgOk) : FnOk P w K mg base (L2.CX P w) 3 D.i.f D.i.fd ["self", "alphabet", "productions"] (spGr K A.C M.C) := by
  have Ga : FnOk P w K mg base CX0 2 D.al.f D.al.fd ["thing"] (spAlp K) := ok_alp D.al D.as D.ma D.mz D.mi D.ms D.ml D.mm
  have Gp : FnOk P w K mg base CX0 2 D.pd.f D.pd.fd ["alphabet", "thing"] (spPd K) := ok_pd D.pd D.sy D.ma D.mi D.ms D.mt D.ml D.m3
  have Gs : FnOk P w K mg base CX0 2 D.sa.f D.sa.fd ["items"] spSa := ok_sa D.sa D.sy D.mso
  have m16 : ∃ u, mg "MOST_PRODUCTIONS" = some u ∧ RelV (.int 16) u := by
    obtain ⟨t, e⟩ := D.m16
    exact ⟨_, e, t, rfl⟩
  have m6 : ∃ u, mg "MOST_SYMBOLS" = some u ∧ RelV (.int 6) u := by
    obtain ⟨t, e⟩ := D.m6
    exact ⟨_, e, t, rfl⟩
  refine D.i.F.ok scGi (fun vs H Q E h => ?_) (fun cdv A0 outer s H vs Q E hr h => ?_)
  · obtain ⟨p, C, dx, va, vb, rfl, _⟩ := h
    rfl
  · obtain ⟨p, C, dx, va, vb, rfl, hp, hcl, nB, nR, nO, h⟩ := h
    have hr2 : Room 2 _ := hr.mono (by decide)
    refine ⟨_, (pss_cons (ps_if (pt_not (pt_val (pe_call Ga hr2 (by rfl) D.al.g D.al.F.kp D.al.b .nil pass0 (pa_cons (pv 1) pa_nil)))) (pss_one (ps_raise rfl (takes_of rfl rfl rfl rfl) (EX.pmk_err0 A.q A.T (by rfl) A.g))) pss_nil) (pss_cons (ps_if (pt_not (pt_val (pe_callB call_isiT (by rfl) D.mi (by decide +kernel) (pa_cons (pv 2) (pa_cons (pe_tup (pa_cons (pe_bltn (v := V.ty "list") (by rfl) D.mli (by decide +kernel : bootBuiltins "list" = some (.type "list")) rfl) (pa_cons (pe_bltn (v := V.ty "tuple") (by rfl) D.mt (by decide +kernel : bootBuiltins "tuple" = some (.type "tuple")) rfl) pa_nil))) pa_nil))))) (pss_one (ps_raise rfl (takes_of rfl rfl rfl rfl) (EX.pmk_err M.T M.iC M.tI (M.F w base) hr2 M.b (by rfl) M.g pe_non))) pss_nil) (pss_cons (ps_noxG (ps_set (i := 3) scGi.nd rfl (.inl rfl) pe_str)) (pss_cons (ps_for (passes_of rfl) rfl (pi_enum (by rfl) D.me (pa_cons (pv 2) pa_nil)) (pg_tup rfl (pgs_cons (pg_name (i := 4) scGi.nd rfl (.inl rfl)) (pgs_cons (pg_name (i := 5) scGi.nd rfl (.inl rfl)) pgs_nil))) (pss_cons (ps_if (pw_or (pt_cmpR op_ge (pv 4) (C8.pe_gc (by rfl) m16) (nomark _)) (pw_or1 (pt_not (pt_val (pe_call Gp hr2 (by rfl) D.pd.g D.pd.F.kp D.pd.b .nil pass0 (pa_cons (pv 1) (pa_cons (pv 5) pa_nil))))))).pt (pss_one (ps_raise rfl (takes_of rfl rfl rfl rfl) (EX.pmk_err M.T M.iC M.tI (M.F w base) hr2 M.b (by rfl) M.g (pv 4)))) pss_nil) (pss_cons (ps_noxG (ps_aug (i := 3) scGi.nd rfl (.inl rfl) (pe_join pe_str (pv 5)) iop_add_str)) (pss_one (ps_if (pt_cmpR op_gt (pe_callB call_len_seq (by rfl) D.ml PySem.boot_len (pa_cons (pe_call Gs hr2 (by rfl) D.sa.g D.sa.F.kp D.sa.b .nil pass0 (pa_cons (pv 3) pa_nil)) pa_nil)) (C8.pe_gc (by rfl) m6) (nomark _)) (pss_one (ps_raise rfl (takes_of rfl rfl rfl rfl) (EX.pmk_err M.T M.iC M.tI (M.F w base) hr2 M.b (by rfl) M.g (pv 4)))) pss_nil))))) (pss_cons (ps_noxG (ps_fld (pv 0) (pv 1) rfl)) (pss_cons (ps_noxG (ps_fld (pv 0) (pe_callTy call_list_of (by rfl) D.mli (by decide +kernel) (pa_cons (pv 2) pa_nil)) rfl)) (pss_one (ps_noxG (ps_fld (pv 0) (pe_call Gs hr2 (by rfl) D.sa.g D.sa.F.kp D.sa.b .nil pass0 (pa_cons (pv 3) pa_nil)) rfl))))))))), ?_⟩
    rcases h with ⟨ba, k⟩ | ⟨z, rfl, al, h⟩
    · refine ⟨va, rfl, va, rfl, ?_⟩
      cases ba with
      | str l h => exact .inl ⟨_, rfl, l, fun H1 s1 => ⟨_, rfl, by rw [h]; exact iteT (k _ s1)⟩⟩
      | no h => exact .inr ⟨h, fun H1 s1 => ⟨_, rfl, iteT (k _ s1)⟩⟩
    have zl : (tl z).length ≤ 100000 := by
      have := al.2.2.1
      omega
    have az : alphB (tl z) = true := alphB_of al
    refine ⟨.str z, rfl, .str z, rfl, .inl ⟨z, rfl, zl, fun H1 s1 => ⟨_, rfl, ?_⟩⟩⟩
    rw [az]
    refine iteF ?_
    rcases h with ⟨nl, k⟩ | ⟨a, xs, ps, rfl, ha, ⟨p16, pre, six⟩, why⟩
    · refine ⟨vb, rfl, by rw [sizeLine_eq]; decide, fun T0 hT0 => ?_⟩
      have sT := same_upd (o := .tup [V.ty "list", V.ty "tuple"]) hT0
      have sH := s1.trans sT
      obtain ⟨t, ty, kt⟩ := nl
      refine ⟨vb, T0, _, t, [.type "list", .type "tuple"], false, rfl, upd_same, .cons (.ty _) (.cons (.ty _) .nil), tyX_sameG sH ty, kt, false, rfl, iteT ?_⟩
      exact ⟨.inr (.inr rfl), fun d nd => k _ d sH nd⟩
    · have tkl : ∀ i, (chs (ps.take i)).length ≤ 101 * 16 := fun i => by
        have h1 := chs_len (z := z) (ps.take i) fun q hq => by
          obtain ⟨n, hn⟩ := List.mem_iff_getElem?.mp (List.mem_of_mem_take hq)
          have nl := (List.getElem?_eq_some_iff.mp hn).1
          have xl : n < xs.length := by
            have w1 : ps.length ≤ xs.length := by
              rcases why with ⟨y, hy, _⟩ | ⟨l, _⟩
              · exact Nat.le_of_lt (List.getElem?_eq_some_iff.mp hy).1
              · omega
            omega
          obtain ⟨c, y, e, a, _, _, _, l, _⟩ := pre n xs[n] nl (List.getElem?_eq_getElem xl)
          rw [hn] at e
          have e := Option.some.inj e
          rw [e]
          exact l
        have h2 : (ps.take i).length ≤ 16 := by
          rw [List.length_take]
          omega
        omega
      refine ⟨.ref a, rfl, by rw [sizeLine_eq]; decide, fun T0 hT0 => ?_⟩
      have sT := same_upd (o := .tup [V.ty "list", V.ty "tuple"]) hT0
      have sH := s1.trans sT
      refine ⟨.ref a, T0, _, .type "list", [.type "list", .type "tuple"], true, rfl, upd_same, .cons (.ty _) (.cons (.ty _) .nil), .base (.lst (sH _ _ ha)), ?_, true, rfl, iteF ?_⟩
      · unfold PySem.W.kitAny
        rw [lst_kit]
      refine ⟨.ref a, rfl, a, xs, rfl, SqL.of (sH _ _ ha), for_it (walk_enum (xs := xs)) (fun i σ G => ∃ x y4 y5, σ = [some (.ref p), some (.str z), some (.ref a), some (.str x), y4, y5] ∧ tl x = chs (ps.take i) ∧ Same H G ∧ i ≤ ps.length) ⟨"", _, _, rfl, rfl, sH, Nat.zero_le _⟩ (fun _ _ _ _ ⟨_, _, _, _, _, sm, _⟩ => SqL.of (sm _ _ ha)) ?_ ?_⟩
      · rintro i v0 σ G G' hi ⟨x, y4, y5, rfl, ex, sm, ij⟩ ⟨T, c0, y', rfl, hT, rfl, hc, hy'⟩
        have s2 := sm.trans (same_upd (o := .tup [c0, y']) hT)
        have hc : c0 = .int (i : Int) := (Option.some.inj hc).symm
        subst hc
        refine ⟨T, [.int (i : Int), y'], rfl, SqT.of upd_same, rfl, _, _, rfl, _, _, rfl, rfl, ?_⟩
        have i16 : i ≤ 16 := by omega
        have cas : ((i = 16 ∨ PdB K H z y' false) ∧ ∀ H' d, Same H H' → H' d = none → E (.ref M.C) (some d) (upd H' d (.xd [(("index" : Str), .int (i : Int))]))) ∨
            (i < 16 ∧ ∃ c yy, PdAt K H z y' c yy ∧ ((i < ps.length ∧ ps.take (i + 1) = ps.take i ++ [(c, yy)]) ∨ (6 < nsym (chs (ps.take i ++ [(c, yy)])) ∧ ∀ H' d, Same H H' → H' d = none → E (.ref M.C) (some d) (upd H' d (.xd [(("index" : Str), .int (i : Int))]))))) := by
          by_cases lt : i < ps.length
          · obtain ⟨c, yy, hp', pa⟩ := pre i y' lt hy'
            exact .inr ⟨by omega, c, yy, pa, .inl ⟨lt, by rw [List.take_add_one, hp']; rfl⟩⟩
          · have ei : i = ps.length := by omega
            rcases why with ⟨y, hy, bad, k⟩ | ⟨l, k⟩
            · rw [← ei] at hy k
              have e : y = y' := Option.some.inj (hy.symm.trans hy')
              subst e
              by_cases h16 : i = 16
              · exact .inl ⟨.inl h16, k⟩
              · rcases bad with h | h | ⟨c, yy, pa, h6⟩
                · exact absurd (ei.trans h) h16
                · exact .inl ⟨.inr h, k⟩
                · exact .inr ⟨by omega, c, yy, pa, .inr ⟨by rw [ei, List.take_length]; exact h6, k⟩⟩
            · exact absurd (List.getElem?_eq_some_iff.mp hy').1 (by omega)
        rcases cas with ⟨bad, k⟩ | ⟨lt16, c, yy, pa, cas⟩
        · by_cases h16 : i = 16
          · refine ⟨_, rfl, _, 16, rfl, rfl, _, rfl, ite2 (fun e => ?_) (fun e => absurd (decide_eq_true (by omega)) e)⟩
            exact iteT ⟨_, rfl, .inr (.inl ⟨_, rfl, log_small i16⟩), fun d nd => k _ d s2 nd⟩
          · have pb : PdB K H z y' false := bad.resolve_left h16
            refine ⟨_, rfl, _, 16, rfl, rfl, _, rfl, ite2 (fun e => absurd (of_decide_eq_true e) (by omega)) (fun e => ?_)⟩
            refine ⟨.str z, rfl, y', rfl, z, y', false, rfl, zl, pb.same s2, fun H2 s3 => ⟨_, rfl, iteT ?_⟩⟩
            exact ⟨_, rfl, .inr (.inl ⟨_, rfl, log_small i16⟩), fun d nd => k _ d (s2.trans s3) nd⟩
        · have pb : PdB K H z y' true := by
            obtain ⟨ad, rfl, sq, sc, yl, rb⟩ := pa
            rw [← rb]
            exact .ok sq sc (by omega)
          obtain ⟨ad, rfl, sq, sc, yl, rb⟩ := pa
          refine ⟨_, rfl, _, 16, rfl, rfl, _, rfl, ite2 (fun e => absurd (of_decide_eq_true e) (by omega)) (fun e => ?_)⟩
          refine ⟨.str z, rfl, _, rfl, z, _, true, rfl, zl, pb.same s2, fun H2 s3 => ⟨_, rfl, iteF ?_⟩⟩
          refine ⟨.str x, rfl, ⟨_, rfl⟩, .ref ad, rfl, _, ad, [⟨#[c]⟩, yy], rfl, rfl, .inr (same_tupG (s2.trans s3) _ _ sq), ?_, ?_⟩
          · have yz : yy.length = (tl yy).length := (Array.length_toList).symm
            show 1 + (yy.length + 0) + 2 * 0 ≤ 16777216
            omega
          have xyl : (tl x).length ≤ 101 * 16 := by
            rw [ex]
            exact tkl i
          have xz : x.length = (tl x).length := (Array.length_toList).symm
          have tj : tl (Txt.join "" [⟨#[c]⟩, yy]) = c :: tl yy := by
            rw [tl_cat]
            show c :: (tl yy ++ []) = _
            rw [List.append_nil]
          have jz : (Txt.join "" [⟨#[c]⟩, yy]).length = (tl (Txt.join "" [⟨#[c]⟩, yy])).length := (Array.length_toList).symm
          have tx : tl (x ++ Txt.join "" [⟨#[c]⟩, yy]) = chs (ps.take i ++ [(c, yy)]) := by
            rw [tl_appG, tj, ex, chs_app, chs_one]
          refine ⟨_, _, rfl, rfl, ?_, ?_⟩
          · rw [jz, tj, List.length_cons, sizeLine_eq]
            omega
          dsimp only [List.set]
          have nl : (tl (x ++ Txt.join "" [⟨#[c]⟩, yy])).length ≤ 100000 := by
            rw [tl_appG, tj, List.length_append, List.length_cons]
            omega
          refine ⟨.str _, rfl, _, rfl, nl, fun H4 q ys s4 _ hq nd so mem => ?_⟩
          have yn := nsym_len nd mem
          have s5 := (s2.trans s3).trans s4
          rw [tx] at yn
          have up : i < ps.length → ps.take (i + 1) = ps.take i ++ [(c, yy)] → nsym (chs (ps.take i ++ [(c, yy)])) ≤ 6 := fun lt tk => by
            rw [← tk]
            refine Nat.le_trans (nsym_mono fun d hd => ?_) six
            obtain ⟨pr, hpr, hd⟩ := List.mem_flatMap.mp hd
            exact List.mem_flatMap.mpr ⟨pr, List.mem_of_mem_take hpr, hd⟩
          refine ⟨q, _, rfl, .inl (SqL.of hq), _, 6, rfl, rfl, _, rfl, ite2 (fun e => ?_) (fun e => ?_)⟩
          · have e := of_decide_eq_true e
            rw [List.length_map, yn] at e
            rcases cas with ⟨lt, tk⟩ | ⟨_, k⟩
            · have := up lt tk
              omega
            · exact ⟨_, rfl, .inr (.inl ⟨_, rfl, log_small i16⟩), fun d nd => k _ d s5 nd⟩
          · have e : ¬ (6 : Int) < ((ys.map V.str).length : Int) := fun h => e (decide_eq_true h)
            rw [List.length_map, yn] at e
            rcases cas with ⟨lt, tk⟩ | ⟨h6, k⟩
            · exact ⟨_, _, _, rfl, by rw [tx, tk], s5, lt⟩
            · omega
      · rintro σ G ⟨x, y4, y5, rfl, ex, sm, ij⟩
        rcases why with ⟨y, hy, bad, k⟩ | ⟨l, k⟩
        · exact absurd (List.getElem?_eq_some_iff.mp hy).1 (by omega)
        · have hpG := sm _ _ hp
          refine ⟨.str z, rfl, .ref p, rfl, p, C, dx, [], rfl, hpG, hcl, nB, by decide, ?_⟩
          have npa : a ≠ p := ne_of ha hp (by intro z; cases z)
          refine ⟨.ref a, rfl, a, xs, rfl, .inl (SqL.of ((upd_ne npa).trans (sm _ _ ha))), fun r hr0 => ?_⟩
          have npr : p ≠ r := fun e => by
            rw [← e, upd_same] at hr0
            cases hr0
          refine ⟨.ref p, rfl, p, C, dx, _, rfl, (upd_ne npr).trans upd_same, hcl, nR, (by show 1 < 1000; decide), ?_⟩
          have xl : (tl x).length ≤ 100000 := by
            rw [ex]
            have := tkl xs.length
            omega
          refine ⟨.str x, rfl, x, rfl, xl, fun H' q ys s2 nq0 hq nd so mem => ?_⟩
          have hp2 := s2 _ _ (upd_same : (upd _ p _) p = _)
          refine ⟨.ref p, rfl, p, C, dx, _, rfl, hp2, hcl, nO, (by show 2 < 1000; decide), ?_⟩
          rw [ex, l, List.take_length] at mem
          have nqp : q ≠ p := ne_of hq hp2 (by intro z; cases z)
          have nrp : r ≠ p := fun e => npr e.symm
          have fr : ∀ b, b ≠ p → b ≠ r → G b = none → H b = none := fun b _ _ h => fresh_of sm h
          have hrH : H r = none := by
            rw [upd_ne nrp] at hr0
            exact fresh_of sm hr0
          have hqH : H q = none := by
            have nqr : q ≠ r := fun e => by
              rw [e, upd_ne nrp, upd_same] at nq0
              cases nq0
            rw [upd_ne nqp, upd_ne nqr, upd_ne nqp] at nq0
            exact fresh_of sm nq0
          refine k _ (fun b o hb nb => ?_) ⟨r, q, hrH, hqH, dx, ys, upd_same, (upd_ne nrp).trans (s2 _ _ ((upd_ne nrp).trans upd_same)), (upd_ne nqp).trans hq, nd, so, mem⟩
          have hb2 := sm _ _ hb
          have nbr : b ≠ r := fun e => by
            rw [e] at hb2 nb
            rw [upd_ne nb] at hr0
            rw [hb2] at hr0
            cases hr0
          exact (upd_ne nb).trans (s2 _ _ ((upd_ne nb).trans ((upd_ne nbr).trans ((upd_ne nb).trans hb2))))
end
end DW
/-! class Grammar: made of a tuple, or refused -/
namespace DW
open PySem PySem.Spec PyProof.Rows L2 TL
set_option autoImplicit false
def spGrT (K : PySem.W.Frag) (CA CP : Addr) : Sp := fun vs H Q E => ∃ (p C dx : Addr) (va vb : V), vs = [.ref p, va, vb] ∧ H p = some (.ins C dx []) ∧ Cls K C ∧ NoAttr K C "base" ∧ NoAttr K C "rules" ∧ NoAttr K C "occurring" ∧
  ((BadA K H va ∧ ∀ H', Same H H' → E (.ref CA) none H') ∨
   ∃ z : Str, va = .str z ∧ Alph z ∧
    ((NoLT K H vb ∧ ∀ H' d, Same H H' → H' d = none → E (.ref CP) (some d) (upd H' d (.xd [(("index" : Str), .non)]))) ∨
     ∃ (a : Addr) (xs : List V) (ps : List (Nat × Str)), vb = .ref a ∧ H a = some (.tup xs) ∧ GrPre K H z xs ps ∧
      ((∃ v, xs[ps.length]? = some v ∧ GrBad K H z ps v ∧ ∀ H' d, Same H H' → H' d = none → E (.ref CP) (some d) (upd H' d (.xd [(("index" : Str), .int (ps.length : Int))]))) ∨
       (xs.length = ps.length ∧ ∀ H', (∀ b o, H b = some o → b ≠ p → H' b = some o) → (∃ r o, H r = none ∧ H o = none ∧ GrAtR C H' p z xs ps r o) → Q .non H'))))
section
variable {P : Program} {w : World} {K : PySem.W.Frag} {mg : Str → Option Value} {base : Heap}
theorem ok_grT (D : DfGr K mg) (A : EX.DfE0 K mg "InvalidAlphabet") (M : EX.DfE P K mg "InvalidProduction" "index" EX.MsgOk) : FnOk P w K mg base (L2.CX P w) 3 D.i.f D.i.fd ["self", "alphabet", "productions"] (spGrT K A.C M.C) := by
  have Ga : FnOk P w K mg base CX0 2 D.al.f D.al.fd ["thing"] (spAlp K) := ok_alp D.al D.as D.ma D.mz D.mi D.ms D.ml D.mm
  have Gp : FnOk P w K mg base CX0 2 D.pd.f D.pd.fd ["alphabet", "thing"] (spPd K) := ok_pd D.pd D.sy D.ma D.mi D.ms D.mt D.ml D.m3
  have Gs : FnOk P w K mg base CX0 2 D.sa.f D.sa.fd ["items"] spSa := ok_sa D.sa D.sy D.mso
  have m16 : ∃ u, mg "MOST_PRODUCTIONS" = some u ∧ RelV (.int 16) u := by
    obtain ⟨t, e⟩ := D.m16
    exact ⟨_, e, t, rfl⟩
  have m6 : ∃ u, mg "MOST_SYMBOLS" = some u ∧ RelV (.int 6) u := by
    obtain ⟨t, e⟩ := D.m6
    exact ⟨_, e, t, rfl⟩
  refine D.i.F.ok scGi (fun vs H Q E h => ?_) (fun cdv A0 outer s H vs Q E hr h => ?_)
  · obtain ⟨p, C, dx, va, vb, rfl, _⟩ := h
    rfl
  · obtain ⟨p, C, dx, va, vb, rfl, hp, hcl, nB, nR, nO, h⟩ := h
    have hr2 : Room 2 _ := hr.mono (by decide)
    refine ⟨_, (pss_cons (ps_if (pt_not (pt_val (pe_call Ga hr2 (by rfl) D.al.g D.al.F.kp D.al.b .nil pass0 (pa_cons (pv 1) pa_nil)))) (pss_one (ps_raise rfl (takes_of rfl rfl rfl rfl) (EX.pmk_err0 A.q A.T (by rfl) A.g))) pss_nil) (pss_cons (ps_if (pt_not (pt_val (pe_callB call_isiT (by rfl) D.mi (by decide +kernel) (pa_cons (pv 2) (pa_cons (pe_tup (pa_cons (pe_bltn (v := V.ty "list") (by rfl) D.mli (by decide +kernel : bootBuiltins "list" = some (.type "list")) rfl) (pa_cons (pe_bltn (v := V.ty "tuple") (by rfl) D.mt (by decide +kernel : bootBuiltins "tuple" = some (.type "tuple")) rfl) pa_nil))) pa_nil))))) (pss_one (ps_raise rfl (takes_of rfl rfl rfl rfl) (EX.pmk_err M.T M.iC M.tI (M.F w base) hr2 M.b (by rfl) M.g pe_non))) pss_nil) (pss_cons (ps_noxG (ps_set (i := 3) scGi.nd rfl (.inl rfl) pe_str)) (pss_cons (ps_for (passes_of rfl) rfl (EN.pi_enT (by rfl) D.me (pa_cons (pv 2) pa_nil)) (pg_tup rfl (pgs_cons (pg_name (i := 4) scGi.nd rfl (.inl rfl)) (pgs_cons (pg_name (i := 5) scGi.nd rfl (.inl rfl)) pgs_nil))) (pss_cons (ps_if (pw_or (pt_cmpR op_ge (pv 4) (C8.pe_gc (by rfl) m16) (nomark _)) (pw_or1 (pt_not (pt_val (pe_call Gp hr2 (by rfl) D.pd.g D.pd.F.kp D.pd.b .nil pass0 (pa_cons (pv 1) (pa_cons (pv 5) pa_nil))))))).pt (pss_one (ps_raise rfl (takes_of rfl rfl rfl rfl) (EX.pmk_err M.T M.iC M.tI (M.F w base) hr2 M.b (by rfl) M.g (pv 4)))) pss_nil) (pss_cons (ps_noxG (ps_aug (i := 3) scGi.nd rfl (.inl rfl) (pe_join pe_str (pv 5)) iop_add_str)) (pss_one (ps_if (pt_cmpR op_gt (pe_callB call_len_seq (by rfl) D.ml PySem.boot_len (pa_cons (pe_call Gs hr2 (by rfl) D.sa.g D.sa.F.kp D.sa.b .nil pass0 (pa_cons (pv 3) pa_nil)) pa_nil)) (C8.pe_gc (by rfl) m6) (nomark _)) (pss_one (ps_raise rfl (takes_of rfl rfl rfl rfl) (EX.pmk_err M.T M.iC M.tI (M.F w base) hr2 M.b (by rfl) M.g (pv 4)))) pss_nil))))) (pss_cons (ps_noxG (ps_fld (pv 0) (pv 1) rfl)) (pss_cons (ps_noxG (ps_fld (pv 0) (pe_callTy call_list_of (by rfl) D.mli (by decide +kernel) (pa_cons (pv 2) pa_nil)) rfl)) (pss_one (ps_noxG (ps_fld (pv 0) (pe_call Gs hr2 (by rfl) D.sa.g D.sa.F.kp D.sa.b .nil pass0 (pa_cons (pv 3) pa_nil)) rfl))))))))), ?_⟩
    rcases h with ⟨ba, k⟩ | ⟨z, rfl, al, h⟩
    · refine ⟨va, rfl, va, rfl, ?_⟩
      cases ba with
      | str l h => exact .inl ⟨_, rfl, l, fun H1 s1 => ⟨_, rfl, by rw [h]; exact iteT (k _ s1)⟩⟩
      | no h => exact .inr ⟨h, fun H1 s1 => ⟨_, rfl, iteT (k _ s1)⟩⟩
    have zl : (tl z).length ≤ 100000 := by
      have := al.2.2.1
      omega
    have az : alphB (tl z) = true := alphB_of al
    refine ⟨.str z, rfl, .str z, rfl, .inl ⟨z, rfl, zl, fun H1 s1 => ⟨_, rfl, ?_⟩⟩⟩
    rw [az]
    refine iteF ?_
    rcases h with ⟨nl, k⟩ | ⟨a, xs, ps, rfl, ha, ⟨p16, pre, six⟩, why⟩
    · refine ⟨vb, rfl, by rw [sizeLine_eq]; decide, fun T0 hT0 => ?_⟩
      have sT := same_upd (o := .tup [V.ty "list", V.ty "tuple"]) hT0
      have sH := s1.trans sT
      obtain ⟨t, ty, kt⟩ := nl
      refine ⟨vb, T0, _, t, [.type "list", .type "tuple"], false, rfl, upd_same, .cons (.ty _) (.cons (.ty _) .nil), tyX_sameG sH ty, kt, false, rfl, iteT ?_⟩
      exact ⟨.inr (.inr rfl), fun d nd => k _ d sH nd⟩
    · have tkl : ∀ i, (chs (ps.take i)).length ≤ 101 * 16 := fun i => by
        have h1 := chs_len (z := z) (ps.take i) fun q hq => by
          obtain ⟨n, hn⟩ := List.mem_iff_getElem?.mp (List.mem_of_mem_take hq)
          have nl := (List.getElem?_eq_some_iff.mp hn).1
          have xl : n < xs.length := by
            have w1 : ps.length ≤ xs.length := by
              rcases why with ⟨y, hy, _⟩ | ⟨l, _⟩
              · exact Nat.le_of_lt (List.getElem?_eq_some_iff.mp hy).1
              · omega
            omega
          obtain ⟨c, y, e, a, _, _, _, l, _⟩ := pre n xs[n] nl (List.getElem?_eq_getElem xl)
          rw [hn] at e
          have e := Option.some.inj e
          rw [e]
          exact l
        have h2 : (ps.take i).length ≤ 16 := by
          rw [List.length_take]
          omega
        omega
      refine ⟨.ref a, rfl, by rw [sizeLine_eq]; decide, fun T0 hT0 => ?_⟩
      have sT := same_upd (o := .tup [V.ty "list", V.ty "tuple"]) hT0
      have sH := s1.trans sT
      refine ⟨.ref a, T0, _, .type "tuple", [.type "list", .type "tuple"], true, rfl, upd_same, .cons (.ty _) (.cons (.ty _) .nil), .base (.tup (sH _ _ ha)), ?_, true, rfl, iteF ?_⟩
      · have k1 : PySem.W.kitOne K (.type "tuple") (.type "list") = some false := kit_ty (by decide +kernel)
        have k2 : PySem.W.kitOne K (.type "tuple") (.type "tuple") = some true := kit_ty (by decide +kernel)
        show PySem.W.kitAny K (.type "tuple") [.type "list", .type "tuple"] = some true
        simp only [PySem.W.kitAny, k1, k2]
      refine ⟨.ref a, rfl, a, xs, rfl, SqT.of (sH _ _ ha), for_it (EN.walk_T (xs := xs)) (fun i σ G => ∃ x y4 y5, σ = [some (.ref p), some (.str z), some (.ref a), some (.str x), y4, y5] ∧ tl x = chs (ps.take i) ∧ Same H G ∧ i ≤ ps.length) ⟨"", _, _, rfl, rfl, sH, Nat.zero_le _⟩ (fun _ _ _ _ ⟨_, _, _, _, _, sm, _⟩ => SqT.of (sm _ _ ha)) ?_ ?_⟩
      · rintro i v0 σ G G' hi ⟨x, y4, y5, rfl, ex, sm, ij⟩ ⟨T, c0, y', rfl, hT, rfl, hc, hy'⟩
        have s2 := sm.trans (same_upd (o := .tup [c0, y']) hT)
        have hc : c0 = .int (i : Int) := (Option.some.inj hc).symm
        subst hc
        refine ⟨T, [.int (i : Int), y'], rfl, SqT.of upd_same, rfl, _, _, rfl, _, _, rfl, rfl, ?_⟩
        have i16 : i ≤ 16 := by omega
        have cas : ((i = 16 ∨ PdB K H z y' false) ∧ ∀ H' d, Same H H' → H' d = none → E (.ref M.C) (some d) (upd H' d (.xd [(("index" : Str), .int (i : Int))]))) ∨
            (i < 16 ∧ ∃ c yy, PdAt K H z y' c yy ∧ ((i < ps.length ∧ ps.take (i + 1) = ps.take i ++ [(c, yy)]) ∨ (6 < nsym (chs (ps.take i ++ [(c, yy)])) ∧ ∀ H' d, Same H H' → H' d = none → E (.ref M.C) (some d) (upd H' d (.xd [(("index" : Str), .int (i : Int))]))))) := by
          by_cases lt : i < ps.length
          · obtain ⟨c, yy, hp', pa⟩ := pre i y' lt hy'
            exact .inr ⟨by omega, c, yy, pa, .inl ⟨lt, by rw [List.take_add_one, hp']; rfl⟩⟩
          · have ei : i = ps.length := by omega
            rcases why with ⟨y, hy, bad, k⟩ | ⟨l, k⟩
            · rw [← ei] at hy k
              have e : y = y' := Option.some.inj (hy.symm.trans hy')
              subst e
              by_cases h16 : i = 16
              · exact .inl ⟨.inl h16, k⟩
              · rcases bad with h | h | ⟨c, yy, pa, h6⟩
                · exact absurd (ei.trans h) h16
                · exact .inl ⟨.inr h, k⟩
                · exact .inr ⟨by omega, c, yy, pa, .inr ⟨by rw [ei, List.take_length]; exact h6, k⟩⟩
            · exact absurd (List.getElem?_eq_some_iff.mp hy').1 (by omega)
        rcases cas with ⟨bad, k⟩ | ⟨lt16, c, yy, pa, cas⟩
        · by_cases h16 : i = 16
          · refine ⟨_, rfl, _, 16, rfl, rfl, _, rfl, ite2 (fun e => ?_) (fun e => absurd (decide_eq_true (by omega)) e)⟩
            exact iteT ⟨_, rfl, .inr (.inl ⟨_, rfl, log_small i16⟩), fun d nd => k _ d s2 nd⟩
          · have pb : PdB K H z y' false := bad.resolve_left h16
            refine ⟨_, rfl, _, 16, rfl, rfl, _, rfl, ite2 (fun e => absurd (of_decide_eq_true e) (by omega)) (fun e => ?_)⟩
            refine ⟨.str z, rfl, y', rfl, z, y', false, rfl, zl, pb.same s2, fun H2 s3 => ⟨_, rfl, iteT ?_⟩⟩
            exact ⟨_, rfl, .inr (.inl ⟨_, rfl, log_small i16⟩), fun d nd => k _ d (s2.trans s3) nd⟩
        · have pb : PdB K H z y' true := by
            obtain ⟨ad, rfl, sq, sc, yl, rb⟩ := pa
            rw [← rb]
            exact .ok sq sc (by omega)
          obtain ⟨ad, rfl, sq, sc, yl, rb⟩ := pa
          refine ⟨_, rfl, _, 16, rfl, rfl, _, rfl, ite2 (fun e => absurd (of_decide_eq_true e) (by omega)) (fun e => ?_)⟩
          refine ⟨.str z, rfl, _, rfl, z, _, true, rfl, zl, pb.same s2, fun H2 s3 => ⟨_, rfl, iteF ?_⟩⟩
          refine ⟨.str x, rfl, ⟨_, rfl⟩, .ref ad, rfl, _, ad, [⟨#[c]⟩, yy], rfl, rfl, .inr (same_tupG (s2.trans s3) _ _ sq), ?_, ?_⟩
          · have yz : yy.length = (tl yy).length := (Array.length_toList).symm
            show 1 + (yy.length + 0) + 2 * 0 ≤ 16777216
            omega
          have xyl : (tl x).length ≤ 101 * 16 := by
            rw [ex]
            exact tkl i
          have xz : x.length = (tl x).length := (Array.length_toList).symm
          have tj : tl (Txt.join "" [⟨#[c]⟩, yy]) = c :: tl yy := by
            rw [tl_cat]
            show c :: (tl yy ++ []) = _
            rw [List.append_nil]
          have jz : (Txt.join "" [⟨#[c]⟩, yy]).length = (tl (Txt.join "" [⟨#[c]⟩, yy])).length := (Array.length_toList).symm
          have tx : tl (x ++ Txt.join "" [⟨#[c]⟩, yy]) = chs (ps.take i ++ [(c, yy)]) := by
            rw [tl_appG, tj, ex, chs_app, chs_one]
          refine ⟨_, _, rfl, rfl, ?_, ?_⟩
          · rw [jz, tj, List.length_cons, sizeLine_eq]
            omega
          dsimp only [List.set]
          have nl : (tl (x ++ Txt.join "" [⟨#[c]⟩, yy])).length ≤ 100000 := by
            rw [tl_appG, tj, List.length_append, List.length_cons]
            omega
          refine ⟨.str _, rfl, _, rfl, nl, fun H4 q ys s4 _ hq nd so mem => ?_⟩
          have yn := nsym_len nd mem
          have s5 := (s2.trans s3).trans s4
          rw [tx] at yn
          have up : i < ps.length → ps.take (i + 1) = ps.take i ++ [(c, yy)] → nsym (chs (ps.take i ++ [(c, yy)])) ≤ 6 := fun lt tk => by
            rw [← tk]
            refine Nat.le_trans (nsym_mono fun d hd => ?_) six
            obtain ⟨pr, hpr, hd⟩ := List.mem_flatMap.mp hd
            exact List.mem_flatMap.mpr ⟨pr, List.mem_of_mem_take hpr, hd⟩
          refine ⟨q, _, rfl, .inl (SqL.of hq), _, 6, rfl, rfl, _, rfl, ite2 (fun e => ?_) (fun e => ?_)⟩
          · have e := of_decide_eq_true e
            rw [List.length_map, yn] at e
            rcases cas with ⟨lt, tk⟩ | ⟨_, k⟩
            · have := up lt tk
              omega
            · exact ⟨_, rfl, .inr (.inl ⟨_, rfl, log_small i16⟩), fun d nd => k _ d s5 nd⟩
          · have e : ¬ (6 : Int) < ((ys.map V.str).length : Int) := fun h => e (decide_eq_true h)
            rw [List.length_map, yn] at e
            rcases cas with ⟨lt, tk⟩ | ⟨h6, k⟩
            · exact ⟨_, _, _, rfl, by rw [tx, tk], s5, lt⟩
            · omega
      · rintro σ G ⟨x, y4, y5, rfl, ex, sm, ij⟩
        rcases why with ⟨y, hy, bad, k⟩ | ⟨l, k⟩
        · exact absurd (List.getElem?_eq_some_iff.mp hy).1 (by omega)
        · have hpG := sm _ _ hp
          refine ⟨.str z, rfl, .ref p, rfl, p, C, dx, [], rfl, hpG, hcl, nB, by decide, ?_⟩
          have npa : a ≠ p := ne_of ha hp (by intro z; cases z)
          refine ⟨.ref a, rfl, a, xs, rfl, .inr (SqT.of ((upd_ne npa).trans (sm _ _ ha))), fun r hr0 => ?_⟩
          have npr : p ≠ r := fun e => by
            rw [← e, upd_same] at hr0
            cases hr0
          refine ⟨.ref p, rfl, p, C, dx, _, rfl, (upd_ne npr).trans upd_same, hcl, nR, (by show 1 < 1000; decide), ?_⟩
          have xl : (tl x).length ≤ 100000 := by
            rw [ex]
            have := tkl xs.length
            omega
          refine ⟨.str x, rfl, x, rfl, xl, fun H' q ys s2 nq0 hq nd so mem => ?_⟩
          have hp2 := s2 _ _ (upd_same : (upd _ p _) p = _)
          refine ⟨.ref p, rfl, p, C, dx, _, rfl, hp2, hcl, nO, (by show 2 < 1000; decide), ?_⟩
          rw [ex, l, List.take_length] at mem
          have nqp : q ≠ p := ne_of hq hp2 (by intro z; cases z)
          have nrp : r ≠ p := fun e => npr e.symm
          have fr : ∀ b, b ≠ p → b ≠ r → G b = none → H b = none := fun b _ _ h => fresh_of sm h
          have hrH : H r = none := by
            rw [upd_ne nrp] at hr0
            exact fresh_of sm hr0
          have hqH : H q = none := by
            have nqr : q ≠ r := fun e => by
              rw [e, upd_ne nrp, upd_same] at nq0
              cases nq0
            rw [upd_ne nqp, upd_ne nqr, upd_ne nqp] at nq0
            exact fresh_of sm nq0
          refine k _ (fun b o hb nb => ?_) ⟨r, q, hrH, hqH, dx, ys, upd_same, (upd_ne nrp).trans (s2 _ _ ((upd_ne nrp).trans upd_same)), (upd_ne nqp).trans hq, nd, so, mem⟩
          have hb2 := sm _ _ hb
          have nbr : b ≠ r := fun e => by
            rw [e] at hb2 nb
            rw [upd_ne nb] at hr0
            rw [hb2] at hr0
            cases hr0
          exact (upd_ne nb).trans (s2 _ _ ((upd_ne nb).trans ((upd_ne nbr).trans ((upd_ne nb).trans hb2))))
end
end DW
/-! class Grammar: its methods -/
namespace DW
open PySem PySem.Spec PyProof.Rows L2 TL
set_option autoImplicit false
abbrev sGrAlphabet : Stmt := clsS 15 1
abbrev sGrProductions : Stmt := clsS 15 2
abbrev sGrSymbols : Stmt := clsS 15 3
abbrev sGrEq : Stmt := clsS 15 4
structure DfGM (K : PySem.W.Frag) (mg : Str → Option Value) extends DfG K mg where
  a : DfM K C "alphabet" "Grammar.alphabet" sGrAlphabet ["self"]
  mta : Meth K C "alphabet" a.f
  p : DfM K C "productions" "Grammar.productions" sGrProductions ["self"]
  mtp : Meth K C "productions" p.f
  s : DfM K C "symbols" "Grammar.symbols" sGrSymbols ["self"]
  mts : Meth K C "symbols" s.f
  q : DfM K C "__eq__" "Grammar.__eq__" sGrEq ["self", "other"]
  mtq : Meth K C "__eq__" q.f
/-- a production in the heap: where, its symbol, its items -/
abbrev En : Type := Addr × Nat × Str
def vE (e : En) : V := .ref e.1
def pE (e : En) : Nat × Str := e.2
def eD (p : Nat × Str) : PyData := .tuple [.str ⟨#[p.1]⟩, .str p.2]
def RE (K : PySem.W.Frag) (H : Hp) (es : List En) : Prop := ∀ e ∈ es, SqT K H e.1 [.str ⟨#[e.2.1]⟩, .str e.2.2]
def GoodE (z : Str) (e : En) : Prop := symB e.2.1 = true ∧ rightB z e.2.2 = true
theorem RE.same {K : PySem.W.Frag} {H H' : Hp} {es : List En} (h : RE K H es) (s : Same H H') : RE K H' es := fun e he => same_tupG s _ _ (h e he)
theorem RE.kp {K : PySem.W.Frag} {H H' : Hp} {es : List En} {t : Addr} (h : RE K H es) (k : Kp t H H') : RE K H' es := fun e he => k.tup (h e he)
theorem RE.sub {K : PySem.W.Frag} {H : Hp} {es fs : List En} (h : RE K H es) (s : ∀ e ∈ fs, e ∈ es) : RE K H fs := fun e he => h e (s e he)
theorem put_tupG {K : PySem.W.Frag} {H : Hp} {W : Addr} {us : List V} {o : HO} (hW : H W = some (.lst us)) (b : Addr) (xs : List V) (g : SqT K H b xs) : SqT K (upd H W o) b xs := by
  rcases g with (g | ⟨o, g⟩) | g
  · exact .inl (.inl ((upd_ne (ne_of g hW (by intro z; cases z))).trans g))
  · exact .inl (.inr ⟨o, (upd_ne (ne_of g hW (by intro z; cases z))).trans g⟩)
  · exact .inr g
theorem RE.put {K : PySem.W.Frag} {H : Hp} {es : List En} {W : Addr} {us : List V} {o : HO} (h : RE K H es) (hW : H W = some (.lst us)) : RE K (upd H W o) es := fun e he => put_tupG hW _ _ (h e he)
theorem RE.dp {K : PySem.W.Frag} {H : Hp} : ∀ {es : List En}, RE K H es → DpAll K H (es.map vE) ((es.map pE).map eD)
  | [], _ => .nil
  | e :: es, h => .cons (.tup (h e List.mem_cons_self) (.cons (.str _) (.cons (.str _) .nil))) (RE.dp fun f hf => h f (List.mem_cons_of_mem _ hf))
theorem eD_eqv (p q : Nat × Str) : PyData.eqv (eD p) (eD q) = decide (p = q) := by
  obtain ⟨c, y⟩ := p
  obtain ⟨d, z⟩ := q
  unfold eD
  simp only [PyData.eqv, PyData.eqvAll]
  rw [Bool.eq_iff_iff]
  simp
theorem es_eqv : ∀ ps qs : List (Nat × Str), PyData.eqvAll (ps.map eD) (qs.map eD) = decide (ps = qs)
  | [], [] => by simp [PyData.eqvAll]
  | [], g :: gs => by simp [PyData.eqvAll]
  | f :: fs, [] => by simp [PyData.eqvAll]
  | f :: fs, g :: gs => by
    simp only [List.map_cons, PyData.eqvAll, eD_eqv, es_eqv fs gs]
    rw [Bool.eq_iff_iff]
    simp
theorem el_eqv (ps qs : List (Nat × Str)) : PyData.eqv (.list (ps.map eD)) (.list (qs.map eD)) = decide (ps = qs) := by
  unfold PyData.eqv
  exact es_eqv ps qs
/-- what a production's characters are -/
def LowP (p : Nat × Str) : Prop := p.1 < 128 ∧ ∀ c ∈ tl p.2, c < 128
theorem GoodE.low {z : Str} {e : En} (al : Alph z) (h : GoodE z e) : LowP e.2 := by
  obtain ⟨h1, h2⟩ := h
  have sy : ∀ c, symB c = true → c < 128 := fun c hc => by
    unfold symB at hc
    rw [Bool.and_eq_true] at hc
    have := of_decide_eq_true hc.2
    omega
  refine ⟨sy _ h1, fun c hc => ?_⟩
  unfold rightB at h2
  rw [Bool.and_eq_true] at h2
  have q := List.all_eq_true.mp h2.2 c hc
  rw [Bool.or_eq_true] at q
  rcases q with q | q
  · exact sy c q
  · have := al.2.2.2 c (of_decide_eq_true q)
    omega
theorem strOk_lowE {y : Str} (h : ∀ c ∈ tl y, c < 128) : PyData.strOk y = true := by
  unfold PyData.strOk
  rw [← Array.all_toList]
  exact List.all_eq_true.mpr fun c hc => decide_eq_true (by have := h c hc; omega)
theorem lay_es : ∀ ps : List (Nat × Str), (∀ p ∈ ps, LowP p) → PyData.canLayAll0 (ps.map eD) = true ∧ PyData.depthAll (ps.map eD) ≤ 1
  | [], _ => ⟨rfl, by simp [PyData.depthAll]⟩
  | p :: ps, h => by
    obtain ⟨h1, h2⟩ := lay_es ps fun g hg => h g (List.mem_cons_of_mem _ hg)
    obtain ⟨hc, hy⟩ := h p List.mem_cons_self
    have s1 : PyData.strOk (⟨#[p.1]⟩ : Str) = true := strOk_lowE fun c m => by
      rw [List.mem_singleton.mp (show c ∈ [p.1] from m)]
      exact hc
    have s2 := strOk_lowE hy
    rw [List.map_cons]
    refine ⟨by simp only [PyData.canLayAll0, eD, PyData.canLay0, s1, s2, h1, Bool.and_self], ?_⟩
    simp only [PyData.depthAll, eD, PyData.depth] at h2 ⊢
    omega
theorem el_shaped {ps : List (Nat × Str)} (h : ∀ p ∈ ps, LowP p) : SeqAt.shaped (.list (ps.map eD)) = true := by
  obtain ⟨h1, h2⟩ := lay_es ps h
  unfold SeqAt.shaped
  rw [Bool.and_eq_true]
  refine ⟨by simp only [PyData.canLay0, h1], decide_eq_true ?_⟩
  simp only [PyData.depth]
  omega
/-- a Grammar and its productions -/
def GrE (K : PySem.W.Frag) (C : Addr) (H : Hp) (p : Addr) (z : Str) (es : List En) : Prop := GrAt C H p z (es.map vE) (es.map pE) ∧ RE K H es
theorem flG_no {m : Str} (z : Str) (r o : Addr) (h1 : m ≠ "occurring") (h2 : m ≠ "rules") (h3 : m ≠ "base") : (flG z r o).lookup m = none := by
  unfold flG
  rw [lookup_putF, if_neg (fun e => h1 e), lookup_putF, if_neg (fun e => h2 e), lookup_putF, if_neg (fun e => h3 e)]
  rfl
theorem flG_base (z : Str) (r o : Addr) : (flG z r o).lookup ("base" : Str) = some (V.str z) := by
  unfold flG
  rw [lookup_putF, if_neg (by decide), lookup_putF, if_neg (by decide), lookup_putF, if_pos rfl]
theorem flG_rules (z : Str) (r o : Addr) : (flG z r o).lookup ("rules" : Str) = some (V.ref r) := by
  unfold flG
  rw [lookup_putF, if_neg (by decide), lookup_putF, if_pos rfl]
theorem flG_occ (z : Str) (r o : Addr) : (flG z r o).lookup ("occurring" : Str) = some (V.ref o) := by
  unfold flG
  rw [lookup_putF, if_pos rfl]
def spGrA (K : PySem.W.Frag) (C : Addr) : Sp := fun vs H Q _ => ∃ (p : Addr) (z : Str) (es : List En), vs = [.ref p] ∧ GrE K C H p z es ∧ Q (.str z) H
def spGrP (K : PySem.W.Frag) (C : Addr) : Sp := fun vs H Q _ => ∃ (p : Addr) (z : Str) (es : List En), vs = [.ref p] ∧ GrE K C H p z es ∧ ∀ H' l, Same H H' → H l = none → H' l = some (.lst (es.map vE)) → Q (.ref l) H'
def spGrS (K : PySem.W.Frag) (C : Addr) : Sp := fun vs H Q _ => ∃ (p : Addr) (z : Str) (es : List En), vs = [.ref p] ∧ GrE K C H p z es ∧ ∀ H' l (ys : List Str), Same H H' → H l = none → H' l = some (.lst (ys.map V.str)) → ys.Nodup → sortedS ys = true → (∀ y, y ∈ ys ↔ ∃ c ∈ chs (es.map pE), symB c = true ∧ y = ⟨#[c]⟩) → Q (.ref l) H'
def spGrQ (K : PySem.W.Frag) (C : Addr) : Sp := fun vs H Q _ => ∃ (p : Addr) (y : V) (z : Str) (es : List En), vs = [.ref p, y] ∧ GrE K C H p z es ∧ (∀ e ∈ es, LowP e.2) ∧
  ((∃ (p' : Addr) (z' : Str) (es' : List En), y = .ref p' ∧ GrE K C H p' z' es' ∧ (∀ e ∈ es', LowP e.2) ∧ Q (.bl (decide (z = z') && decide (es.map pE = es'.map pE))) H) ∨
   (∃ t, TyX K H y t ∧ PySem.W.kitOne K t (.ref C) = some false ∧ Q (.bl false) H))
section
variable {P : Program} {w : World} {K : PySem.W.Frag} {mg : Str → Option Value} {base : Heap}
theorem scGrA : FnScope ["self"] ["self"] (defScope sGrAlphabet) := ⟨rfl, rfl, rfl, by decide +kernel, rfl, by decide +kernel, by decide +kernel⟩
theorem ok_grA (D : DfGM K mg) : FnOk P w K mg base CX0 1 D.a.f D.a.fd ["self"] (spGrA K D.C) := by
  refine D.a.F.ok scGrA (fun vs H Q E h => ?_) (fun cdv A outer s H vs Q E hr h => ?_)
  · obtain ⟨p, z, zs, rfl, _⟩ := h
    rfl
  · obtain ⟨p, z, es, rfl, ⟨⟨r, o, dx, ys, h1, h2, h3, nd, so, mem⟩, re⟩, k⟩ := h
    refine ⟨_, (pss_one (ps_ret (pe_fld (pv 0) rfl))), ?_⟩
    exact ⟨.ref p, rfl, p, D.C, dx, _, _, rfl, h1, D.cl, D.nB, flG_base _ _ _, k⟩
theorem scGrP : FnScope ["self"] ["self"] (defScope sGrProductions) := ⟨rfl, rfl, rfl, by decide +kernel, rfl, by decide +kernel, by decide +kernel⟩
theorem ok_grP (D : DfGM K mg) (ml : mg "list" = none) : FnOk P w K mg base CX0 1 D.p.f D.p.fd ["self"] (spGrP K D.C) := by
  refine D.p.F.ok scGrP (fun vs H Q E h => ?_) (fun cdv A outer s H vs Q E hr h => ?_)
  · obtain ⟨p, z, zs, rfl, _⟩ := h
    rfl
  · obtain ⟨p, z, es, rfl, ⟨⟨r, o, dx, ys, h1, h2, h3, nd, so, mem⟩, re⟩, k⟩ := h
    refine ⟨_, (pss_one (ps_ret (pe_callTy call_list_of (by rfl) ml (by decide +kernel) (pa_cons (pe_fld (pv 0) rfl) pa_nil)))), ?_⟩
    exact ⟨.ref p, rfl, p, D.C, dx, _, _, rfl, h1, D.cl, D.nR, flG_rules _ _ _, r, _, rfl, .inl (SqL.of h2), fun l hl => k _ l (same_upd hl) hl upd_same⟩
theorem scGrS : FnScope ["self"] ["self"] (defScope sGrSymbols) := ⟨rfl, rfl, rfl, by decide +kernel, rfl, by decide +kernel, by decide +kernel⟩
theorem ok_grS (D : DfGM K mg) (ml : mg "list" = none) : FnOk P w K mg base CX0 1 D.s.f D.s.fd ["self"] (spGrS K D.C) := by
  refine D.s.F.ok scGrS (fun vs H Q E h => ?_) (fun cdv A outer s H vs Q E hr h => ?_)
  · obtain ⟨p, z, zs, rfl, _⟩ := h
    rfl
  · obtain ⟨p, z, es, rfl, ⟨⟨r, o, dx, ys, h1, h2, h3, nd, so, mem⟩, re⟩, k⟩ := h
    refine ⟨_, (pss_one (ps_ret (pe_callTy call_list_of (by rfl) ml (by decide +kernel) (pa_cons (pe_fld (pv 0) rfl) pa_nil)))), ?_⟩
    exact ⟨.ref p, rfl, p, D.C, dx, _, _, rfl, h1, D.cl, D.nO, flG_occ _ _ _, o, _, rfl, .inl (SqL.of h3), fun l hl => k _ l ys (same_upd hl) hl upd_same nd so mem⟩
theorem scGrQ : FnScope ["self", "other"] ["self", "other"] (defScope sGrEq) := ⟨rfl, rfl, rfl, by decide +kernel, rfl, by decide +kernel, by decide +kernel⟩
theorem ok_grQ (D : DfGM K mg) (ow : EX.OwnC K D.C) (mi : mg "isinstance" = none) : FnOk P w K mg base CX0 1 D.q.f D.q.fd ["self", "other"] (spGrQ K D.C) := by
  refine D.q.F.ok scGrQ (fun vs H Q E h => ?_) (fun cdv A outer s H vs Q E hr h => ?_)
  · obtain ⟨p, y, z, zs, rfl, _⟩ := h
    rfl
  · obtain ⟨p, y, z, es, rfl, ⟨⟨r, o, dx, ys, h1, h2, h3, _⟩, re⟩, lo, hy⟩ := h
    refine ⟨_, (pss_one (ps_ret (pe_and (pe_callB call_isi (by rfl) mi (by decide +kernel) (pa_cons (pv 1) (pa_cons (pe_glob (v := V.ref D.C) (by rfl) D.g rfl) pa_nil))) (pe_and (pe_cmpR op_eq (pe_fld (pv 0) rfl) (pe_fld (pv 1) rfl) (nomark _)) (pe_one (pe_cmpR (op_eqD hr.units) (pe_fld (pv 0) rfl) (pe_fld (pv 1) rfl) (nomark _))))))), ?_⟩
    rcases hy with ⟨p', z', es', rfl, ⟨⟨r', o', dx', ys', g1, g2, g3, _⟩, re'⟩, lo', k⟩ | ⟨t, ty, ki, k⟩
    · refine ⟨.ref p', rfl, .ref p', .ref D.C, .ref D.C, .ref D.C, true, rfl, .own _, .base (TyOf.ins g1 D.cl ow.ha ow.hn ow.ht ow.hm), ow.me, true, rfl, iteT ?_⟩
      refine ⟨.ref p, rfl, p, D.C, dx, _, _, rfl, h1, D.cl, D.nB, flG_base _ _ _, .ref p', rfl, p', D.C, dx', _, _, rfl, g1, D.cl, D.nB, flG_base _ _ _, rfl, _, rfl, ?_⟩
      have e1 : decide (V.str z = V.str z') = decide (z = z') := by
        rw [Bool.eq_iff_iff, decide_eq_true_eq, decide_eq_true_eq]
        exact ⟨V.str.inj, congrArg V.str⟩
      rw [e1]
      cases ez : decide (z = z') with
      | false =>
        rw [ez, Bool.false_and] at k
        exact iteF k
      | true =>
        rw [ez, Bool.true_and] at k
        refine iteT ⟨.ref p, rfl, p, D.C, dx, _, _, rfl, h1, D.cl, D.nR, flG_rules _ _ _, .ref p', rfl, p', D.C, dx', _, _, rfl, g1, D.cl, D.nR, flG_rules _ _ _, .list ((es.map pE).map eD), .list ((es'.map pE).map eD), .lst (SqL.of h2) re.dp, .lst (SqL.of g2) re'.dp, el_shaped fun q hq => ?_, el_shaped fun q hq => ?_, ?_⟩
        · obtain ⟨e, he, rfl⟩ := List.mem_map.mp hq
          exact lo e he
        · obtain ⟨e, he, rfl⟩ := List.mem_map.mp hq
          exact lo' e he
        rw [el_eqv]
        exact k
    · exact ⟨y, rfl, y, .ref D.C, t, .ref D.C, false, rfl, .own _, ty, ki, false, rfl, iteF k⟩
end
end DW
set_option maxHeartbeats 0
namespace DW
open PySem PySem.Spec PyProof.Rows L2
def mkD (x : Str) (st : Stmt) : He.DefD := ⟨(x, none), x, x, defArgs st, defBody st, defScope st, [], []⟩
def fn : List He.DefD := [mkD "law" sLaw, mkD "is_ascending" sIsAscending, mkD "is_alphabet" sIsAlphabet, mkD "is_symbol" sIsSymbol, mkD "symbols_among" sSymbolsAmong, mkD "is_production" sIsProduction, mkD "reached_from" sReachedFrom, mkD "symbols_of_next_rank" sSymbolsOfNextRank, mkD "ranks" sRanks, mkD "productive_productions" sProductiveProductions, mkD "used_symbols" sUsedSymbols, mkD "component_of" sComponentOf, mkD "first_component" sFirstComponent, mkD "components" sComponents, mkD "items_of_component" sItemsOfComponent, mkD "inner_items" sInnerItems, mkD "component_kind" sComponentKind, mkD "component_kinds" sComponentKinds, mkD "_law_begin" sBegin, mkD "_law_draw" sDraw, mkD "_law_pick" sPick, mkD "_law_alphabet" sAlpha, mkD "_law_word" sWord, mkD "_law_symbols" sLSymbols, mkD "_law_rules" sLRules, mkD "_law_made" sLMade, mkD "_law_names_of" sLNamesOf, mkD "_law_heights" sLHeights, mkD "_law_useful" sLUseful, mkD "_law_reached" sLReached, mkD "_law_component" sLComponent, mkD "_law_kind" sLKind, mkD "_law_ordered" sLOrdered, ⟨("Grammar", some "__init__"), "__init__", "Grammar.__init__", defArgs sGrInit, defBody sGrInit, defScope sGrInit, [], []⟩, ⟨("Grammar", some "alphabet"), "alphabet", "Grammar.alphabet", defArgs sGrAlphabet, defBody sGrAlphabet, defScope sGrAlphabet, [], []⟩, ⟨("Grammar", some "productions"), "productions", "Grammar.productions", defArgs sGrProductions, defBody sGrProductions, defScope sGrProductions, [], []⟩, ⟨("Grammar", some "symbols"), "symbols", "Grammar.symbols", defArgs sGrSymbols, defBody sGrSymbols, defScope sGrSymbols, [], []⟩, ⟨("Grammar", some "__eq__"), "__eq__", "Grammar.__eq__", defArgs sGrEq, defBody sGrEq, defScope sGrEq, [], []⟩]
def fa : List He.Fa := [.glo "law", .glo "is_ascending", .glo "is_alphabet", .glo "is_symbol", .glo "symbols_among", .glo "is_production", .glo "reached_from", .glo "symbols_of_next_rank", .glo "ranks", .glo "productive_productions", .glo "used_symbols", .glo "component_of", .glo "first_component", .glo "components", .glo "items_of_component", .glo "inner_items", .glo "component_kind", .glo "component_kinds", .glo "_law_begin", .glo "_law_draw", .glo "_law_pick", .glo "_law_alphabet", .glo "_law_word", .glo "_law_symbols", .glo "_law_rules", .glo "_law_made", .glo "_law_names_of", .glo "_law_heights", .glo "_law_useful", .glo "_law_reached", .glo "_law_component", .glo "_law_kind", .glo "_law_ordered", .free "all", .free "zip", .free "isinstance", .free "str", .free "len", .free "sorted", .free "tuple", .free "enumerate", .free "set", .free "any", .free "max", .free "range", .free "int", .free "dict", .free "list", .free "repr", .int "MOST_LETTERS" 3, .int "MOST_ITEMS" 3, .int "MOST_PRODUCTIONS" 16, .int "MOST_SYMBOLS" 6, .glo "Grammar", .cls "Grammar", .noat "Grammar" "base", .noat "Grammar" "rules", .noat "Grammar" "occurring", .mkr "Grammar", .meth "Grammar" "alphabet", .meth "Grammar" "productions", .meth "Grammar" "symbols", .meth "Grammar" "__eq__", .free "super"]
abbrev R : PySem.W.OpenRow := PySem.W.OpenLaw.row PySem.Challenge.rw_downwords_k70_components_and_their_kinds
def xs : EX.Xs := { ini := [⟨"InvalidProduction", "InvalidProduction.__init__", "index", defArgs (clsS 3 0), defBody (clsS 3 0), defScope (clsS 3 0)⟩], ex := ["InvalidAlphabet"], kit := [], exm := [], own := [], kty := [], ktn := [], nfc := [] }
abbrev hk : PySem.W.Hook := EX.hookX R.prog 4 fa fn xs
def ob (s : PySem.W.SharedT) : EX.AlX := EX.obsXG R.prog 4 fa fn xs (HandSHeadRun.getT s)
theorem ob_eq (s : PySem.W.SharedT) : ob s = hk.obs s.abs := EX.obsXG_eq (HandSHeadRun.getT_eq s)
abbrev names : List Str := "__name__" :: "DownwordsError" :: "InvalidAlphabet" :: "InvalidProduction" :: "Grammar" :: "MOST_LETTERS" :: "MOST_ITEMS" :: "MOST_PRODUCTIONS" :: "MOST_SYMBOLS" :: "is_ascending" :: "is_alphabet" :: "is_symbol" :: "symbols_among" :: "is_production" :: "reached_from" :: "symbols_of_next_rank" :: "ranks" :: "productive_productions" :: "used_symbols" :: "component_of" :: "first_component" :: "components" :: "items_of_component" :: "inner_items" :: "component_kind" :: "component_kinds" :: "_law_begin" :: "_law_draw" :: "_law_pick" :: "_law_alphabet" :: "_law_word" :: "_law_symbols" :: "_law_rules" :: "_law_made" :: "_law_names_of" :: "_law_heights" :: "_law_useful" :: "_law_reached" :: "_law_component" :: "_law_kind" :: "_law_ordered" :: []
theorem run (w : World) : HandSHeadRun.RunEq R (PySem.W.view R.prog [46]) hk ob 4000 names w := by
  intro os
  kernel_rfl
end DW
set_option maxHeartbeats 4000000
/-! k69: the symbols that derive a word, height by height -/
namespace DW
open PySem PySem.Spec PyProof.Rows L2 TL
set_option autoImplicit false
abbrev Fd : Type := List (Nat × Nat)
def keysF (fd : Fd) : List Nat := fd.map (·.1)
def kvL (fd : Fd) : List (Str × Int) := fd.map fun p => (one p.1, (p.2 : Int))
def kvR (fd : Fd) : List (Key × V) := GA.kvT (kvL fd)
theorem kvR_eq (fd : Fd) : kvR fd = fd.map fun p => (Sum.inr (one p.1), V.int (p.2 : Int)) := by
  unfold kvR GA.kvT kvL
  rw [List.map_map]
  rfl
theorem kvR_len (fd : Fd) : (kvR fd).length = fd.length := by
  rw [kvR_eq, List.length_map]
def addK (k : Nat) (fd : Fd) (c : Nat) : Fd := if c ∈ keysF fd then fd else fd ++ [(c, k)]
def stp (k : Nat) (fd : Fd) (cs : List Nat) : Fd := cs.foldl (addK k) fd
def okR (fd : Fd) (y : Str) : Bool := (tl y).all fun c => !symB c || decide (c ∈ keysF fd)
def nxt (ps : List (Nat × Str)) (fd : Fd) : List Nat := (ps.filter fun p => !decide (p.1 ∈ keysF fd) && okR fd p.2).map (·.1)
def FF (ps : List (Nat × Str)) : Nat → Fd
  | 0 => []
  | n + 1 => stp (n + 1) (FF ps n) (nxt ps (FF ps n))
theorem stp_app (k : Nat) (fd : Fd) (a b : List Nat) : stp k fd (a ++ b) = stp k (stp k fd a) b := List.foldl_append
theorem stp_one (k : Nat) (fd : Fd) (c : Nat) : stp k fd [c] = addK k fd c := rfl
theorem addK_keys {k : Nat} {fd : Fd} {c d : Nat} : d ∈ keysF (addK k fd c) ↔ d ∈ keysF fd ∨ d = c := by
  unfold addK
  by_cases h : c ∈ keysF fd
  · rw [if_pos h]
    constructor
    · exact .inl
    · rintro (q | rfl)
      · exact q
      · exact h
  · rw [if_neg h]
    unfold keysF
    rw [List.map_append, List.mem_append]
    constructor
    · rintro (q | q)
      · exact .inl q
      · exact .inr (List.mem_singleton.mp q)
    · rintro (q | rfl)
      · exact .inl q
      · exact .inr List.mem_cons_self
theorem stp_keys {k : Nat} : ∀ {cs : List Nat} {fd : Fd} {d : Nat}, d ∈ keysF (stp k fd cs) ↔ d ∈ keysF fd ∨ d ∈ cs
  | [], fd, d => ⟨.inl, fun h => h.elim id fun q => nomatch q⟩
  | c :: cs, fd, d => by
    show d ∈ keysF (stp k (addK k fd c) cs) ↔ _
    rw [stp_keys, addK_keys, List.mem_cons]
    constructor
    · rintro ((h | h) | h)
      · exact .inl h
      · exact .inr (.inl h)
      · exact .inr (.inr h)
    · rintro (h | h | h)
      · exact .inl (.inl h)
      · exact .inl (.inr h)
      · exact .inr h
theorem addK_nd {k : Nat} {fd : Fd} {c : Nat} (h : (keysF fd).Nodup) : (keysF (addK k fd c)).Nodup := by
  unfold addK
  by_cases q : c ∈ keysF fd
  · rw [if_pos q]
    exact h
  · rw [if_neg q]
    unfold keysF at q ⊢
    rw [List.map_append]
    refine List.nodup_append.mpr ⟨h, List.nodup_cons.mpr ⟨fun h => (nomatch h), List.nodup_nil⟩, fun x hx y hy e => ?_⟩
    rw [e, List.mem_singleton.mp hy] at hx
    exact q hx
theorem stp_nd {k : Nat} : ∀ {cs : List Nat} {fd : Fd}, (keysF fd).Nodup → (keysF (stp k fd cs)).Nodup
  | [], _, h => h
  | c :: cs, fd, h => stp_nd (cs := cs) (addK_nd h)
theorem FF_nd (ps : List (Nat × Str)) : ∀ n, (keysF (FF ps n)).Nodup
  | 0 => List.nodup_nil
  | n + 1 => stp_nd (FF_nd ps n)
theorem nxt_mem {ps : List (Nat × Str)} {fd : Fd} {c : Nat} (h : c ∈ nxt ps fd) : c ∉ keysF fd ∧ ∃ p ∈ ps, p.1 = c := by
  obtain ⟨p, hp, rfl⟩ := List.mem_map.mp h
  obtain ⟨h1, h2⟩ := List.mem_filter.mp hp
  rw [Bool.and_eq_true] at h2
  refine ⟨fun q => ?_, p, h1, rfl⟩
  rw [decide_eq_true q] at h2
  exact absurd h2.1 (by decide)
theorem FF_sub {ps : List (Nat × Str)} {c : Nat} : ∀ {n : Nat}, c ∈ keysF (FF ps n) → ∃ p ∈ ps, p.1 = c
  | 0, h => nomatch h
  | n + 1, h => by
    rcases stp_keys.mp h with q | q
    · exact FF_sub q
    · exact (nxt_mem q).2
theorem stp_len {k : Nat} : ∀ {cs : List Nat} {fd : Fd}, fd.length ≤ (stp k fd cs).length
  | [], _ => Nat.le_refl _
  | c :: cs, fd => by
    refine Nat.le_trans ?_ (stp_len (k := k) (cs := cs) (fd := addK k fd c))
    unfold addK
    split
    · exact Nat.le_refl _
    · rw [List.length_append]
      omega
theorem FF_grow {ps : List (Nat × Str)} {n : Nat} (h : nxt ps (FF ps n) ≠ []) : (FF ps n).length + 1 ≤ (FF ps (n + 1)).length := by
  cases e : nxt ps (FF ps n) with
  | nil => exact absurd e h
  | cons c cs =>
    have hc := (nxt_mem (ps := ps) (fd := FF ps n) (c := c) (by rw [e]; exact List.mem_cons_self)).1
    show _ ≤ (stp (n + 1) (FF ps n) (nxt ps (FF ps n))).length
    rw [e]
    refine Nat.le_trans ?_ (stp_len (k := n + 1) (cs := cs) (fd := addK (n + 1) (FF ps n) c))
    unfold addK
    rw [if_neg hc, List.length_append]
    exact Nat.le_refl _
theorem FF_stop {ps : List (Nat × Str)} {n : Nat} (h : nxt ps (FF ps n) = []) : ∀ m, FF ps (n + m) = FF ps n
  | 0 => rfl
  | m + 1 => by
    show stp (n + m + 1) (FF ps (n + m)) (nxt ps (FF ps (n + m))) = _
    rw [FF_stop h m, h]
    rfl
theorem FF_six {ps : List (Nat × Str)} (six : nsym (chs ps) ≤ 6) (sy : ∀ p ∈ ps, symB p.1 = true) (n : Nat) : (FF ps n).length ≤ 6 := by
  have e : (FF ps n).length = (keysF (FF ps n)).length := (List.length_map _).symm
  rw [e]
  refine Nat.le_trans ?_ six
  refine Nat.le_trans (nodup_lenS _ (((List.range 26).filter fun k => decide (65 + k ∈ chs ps)).map fun k => 65 + k) (FF_nd ps n) fun c hc => ?_) (by rw [List.length_map]; exact Nat.le_refl _)
  obtain ⟨p, hp, rfl⟩ := FF_sub hc
  have s := sy p hp
  unfold symB at s
  rw [Bool.and_eq_true] at s
  have h1 := of_decide_eq_true s.1
  have h2 := of_decide_eq_true s.2
  refine List.mem_map.mpr ⟨p.1 - 65, List.mem_filter.mpr ⟨List.mem_range.mpr (by omega), decide_eq_true ?_⟩, by omega⟩
  rw [show 65 + (p.1 - 65) = p.1 by omega]
  exact List.mem_flatMap.mpr ⟨p, hp, List.mem_cons_self⟩
theorem FF_le {ps : List (Nat × Str)} : ∀ {n : Nat}, (∀ j, j < n → nxt ps (FF ps j) ≠ []) → n ≤ (FF ps n).length
  | 0, _ => Nat.zero_le _
  | n + 1, h => by
    have h1 := FF_le (ps := ps) (n := n) fun j hj => h j (by omega)
    have h2 := FF_grow (h n (by omega))
    omega
/-- where the growing ends -/
theorem FF_end {ps : List (Nat × Str)} (six : nsym (chs ps) ≤ 6) (sy : ∀ p ∈ ps, symB p.1 = true) {n : Nat} (h : ∀ j, j < n → nxt ps (FF ps j) ≠ []) (e : nxt ps (FF ps n) = []) : FF ps n = FF ps 7 := by
  have h1 := FF_le h
  have h2 := FF_six six sy n
  have q := FF_stop e (7 - n)
  rw [show n + (7 - n) = 7 by omega] at q
  exact q.symm
theorem stp_val {k : Nat} {c r : Nat} : ∀ {cs : List Nat} {fd : Fd}, (c, r) ∈ stp k fd cs → (c, r) ∈ fd ∨ r = k
  | [], _, h => .inl h
  | d :: cs, fd, h => by
    rcases stp_val (cs := cs) (fd := addK k fd d) h with q | q
    · unfold addK at q
      split at q
      · exact .inl q
      · rcases List.mem_append.mp q with p | p
        · exact .inl p
        · have := List.mem_singleton.mp p
          exact .inr (Prod.mk.inj this).2
    · exact .inr q
theorem inr_one {a b : Nat} : (Sum.inr (one a) : Key) = Sum.inr (one b) ↔ a = b := ⟨fun h => one_inj (Sum.inr.inj h), fun h => by rw [h]⟩
theorem any_key {fd : Fd} {c : Nat} : ((kvR fd).any fun kv => decide (kv.1 = (Sum.inr (one c) : Key))) = decide (c ∈ keysF fd) := by
  rw [kvR_eq, Bool.eq_iff_iff, List.any_eq_true, decide_eq_true_eq]
  constructor
  · rintro ⟨kv, hkv, e⟩
    obtain ⟨p, hp, rfl⟩ := List.mem_map.mp hkv
    have e := inr_one.mp (of_decide_eq_true e)
    exact List.mem_map.mpr ⟨p, hp, e⟩
  · intro h
    obtain ⟨p, hp, e⟩ := List.mem_map.mp h
    exact ⟨_, List.mem_map.mpr ⟨p, hp, rfl⟩, decide_eq_true (inr_one.mpr e)⟩
theorem put_add {k : Nat} {fd : Fd} {c : Nat} (h : ∀ r, (c, r) ∈ fd → r = k) : putK (kvR fd) (Sum.inr (one c)) (.int (k : Int)) = kvR (addK k fd c) := by
  unfold putK addK
  rw [any_key]
  by_cases q : c ∈ keysF fd
  · rw [if_pos (decide_eq_true q), if_pos q]
    rw [kvR_eq, List.map_map]
    refine List.map_congr_left fun p hp => ?_
    by_cases e : p.1 = c
    · have : p.2 = k := h p.2 (by rw [← e]; exact hp)
      show (if (Sum.inr (one p.1) : Key) = Sum.inr (one c) then ((Sum.inr (one p.1) : Key), V.int (k : Int)) else _) = _
      rw [if_pos (inr_one.mpr e), this]
    · show (if (Sum.inr (one p.1) : Key) = Sum.inr (one c) then ((Sum.inr (one p.1) : Key), V.int (k : Int)) else _) = _
      rw [if_neg (fun z => e (inr_one.mp z))]
  · rw [if_neg (by rw [decide_eq_false q]; decide), if_neg q, kvR_eq, kvR_eq, List.map_append]
    rfl
theorem val_key {fd : Fd} {c : Nat} : (valV (kvR fd) (Sum.inr (one c))).isSome = decide (c ∈ keysF fd) := by
  unfold valV
  rw [Option.isSome_map, ← any_key (fd := fd) (c := c)]
  rw [Bool.eq_iff_iff]
  simp
/-- the rank of a symbol -/
def rkF (fd : Fd) (c : Nat) : Nat := ((fd.find? fun p => decide (p.1 = c)).map (·.2)).getD 0
theorem val_rk {fd : Fd} {c : Nat} (h : c ∈ keysF fd) : valV (kvR fd) (Sum.inr (one c)) = some (.int (rkF fd c : Int)) := by
  induction fd with
  | nil => exact nomatch h
  | cons p fd ih =>
    rw [kvR_eq, List.map_cons]
    by_cases e : p.1 = c
    · rw [valV_pos (inr_one.mpr e)]
      unfold rkF
      rw [List.find?_cons, decide_eq_true e]
      rfl
    · rw [valV_neg (fun z => e (inr_one.mp z))]
      rcases List.mem_cons.mp h with q | q
      · exact absurd q.symm e
      · have := ih q
        rw [kvR_eq] at this
        rw [this]
        unfold rkF
        rw [List.find?_cons, decide_eq_false e]
theorem stp_split {k : Nat} {fd : Fd} : ∀ {cs : List Nat} {g : Fd}, (∀ c ∈ cs, c ∉ keysF fd) → stp k (fd ++ g) cs = fd ++ stp k g cs
  | [], _, _ => rfl
  | c :: cs, g, h => by
    show stp k (addK k (fd ++ g) c) cs = fd ++ stp k (addK k g c) cs
    have e : addK k (fd ++ g) c = fd ++ addK k g c := by
      unfold addK keysF
      by_cases q : c ∈ g.map (·.1)
      · rw [if_pos q, if_pos (by rw [List.map_append]; exact List.mem_append_right _ q)]
      · rw [if_neg q, if_neg (by
          rw [List.map_append, List.mem_append]
          rintro (p | p)
          · exact h c List.mem_cons_self p
          · exact q p), List.append_assoc]
    rw [e]
    exact stp_split fun d hd => h d (List.mem_cons_of_mem _ hd)
theorem merge_nd : ∀ {g fd : Fd}, (keysF (fd ++ g)).Nodup → mergeK (kvR fd) (kvR g) = kvR (fd ++ g)
  | [], fd, _ => by rw [List.append_nil]; rfl
  | p :: g, fd, h => by
    have e1 : kvR (p :: g) = (Sum.inr (one p.1), V.int (p.2 : Int)) :: kvR g := rfl
    have np : p.1 ∉ keysF fd := fun q => by
      unfold keysF at h q
      rw [List.map_append, List.map_cons] at h
      exact (List.nodup_append.mp h).2.2 _ q _ List.mem_cons_self rfl
    have e2 : putK (kvR fd) (Sum.inr (one p.1)) (.int (p.2 : Int)) = kvR (fd ++ [p]) := by
      rw [put_add fun r hr => absurd (List.mem_map.mpr ⟨_, hr, rfl⟩) np]
      unfold addK
      rw [if_neg np]
    rw [e1]
    show mergeK (putK (kvR fd) (Sum.inr (one p.1)) (.int (p.2 : Int))) (kvR g) = _
    rw [e2, merge_nd (by rw [List.append_assoc]; exact h), List.append_assoc]
    rfl
end DW
/-! Grammars made, nothing refused -/
namespace DW
open PySem PySem.Spec PyProof.Rows L2 TL
set_option autoImplicit false
theorem nodup_map_add : ∀ {l : List Nat}, l.Nodup → (l.map fun k => 65 + k).Nodup
  | [], _ => List.nodup_nil
  | a :: r, h => by
    obtain ⟨n, nd⟩ := List.nodup_cons.mp h
    rw [List.map_cons]
    refine List.nodup_cons.mpr ⟨fun m => ?_, nodup_map_add nd⟩
    obtain ⟨k, hk, e⟩ := List.mem_map.mp m
    exact n (by rw [show a = k by omega]; exact hk)
theorem nsym_in {l m : List Nat} (h : ∀ k, k < 26 → 65 + k ∈ l → 65 + k ∈ m) : nsym l ≤ m.length := by
  unfold nsym
  rw [← List.length_map (f := fun k => 65 + k)]
  refine nodup_lenS _ m ?_ fun c hc => ?_
  · exact nodup_map_add (List.nodup_range.sublist List.filter_sublist)
  · obtain ⟨k, hk, rfl⟩ := List.mem_map.mp hc
    obtain ⟨h1, h2⟩ := List.mem_filter.mp hk
    exact h k (List.mem_range.mp h1) (of_decide_eq_true h2)
/-- a list or a tuple -/
def LTG (H : Hp) (a : Addr) (xs : List V) : Prop := H a = some (.lst xs) ∨ H a = some (.tup xs)
/-- the constructor, nothing refused -/
def spGrO (K : PySem.W.Frag) : Sp := fun vs H Q _ => ∃ (p C dx : Addr) (z : Str) (a : Addr) (xs : List V) (ps : List (Nat × Str)), vs = [.ref p, .str z, .ref a] ∧ H p = some (.ins C dx []) ∧ Cls K C ∧ NoAttr K C "base" ∧ NoAttr K C "rules" ∧ NoAttr K C "occurring" ∧ Alph z ∧ LTG H a xs ∧ GrPre K H z xs ps ∧ xs.length = ps.length ∧
  ∀ H', (∀ b o, H b = some o → b ≠ p → H' b = some o) → (∃ r o, H r = none ∧ H o = none ∧ GrAtR C H' p z xs ps r o) → Q .non H'
theorem GrPre.same {K : PySem.W.Frag} {H H' : Hp} {z : Str} {xs : List V} {ps : List (Nat × Str)} (s : Same H H') (h : GrPre K H z xs ps) : GrPre K H' z xs ps := by
  obtain ⟨h1, h2, h3⟩ := h
  refine ⟨h1, fun i v hi hv => ?_, h3⟩
  obtain ⟨c, y, e, p⟩ := h2 i v hi hv
  exact ⟨c, y, e, p.same s⟩
abbrev sE (t : Addr) (c : Nat) (y : Str) : En := (t, c, y)
theorem GrAtR.same {C : Addr} {H H' : Hp} {p : Addr} {z : Str} {xs : List V} {ps : List (Nat × Str)} {r o : Addr} (h : GrAtR C H p z xs ps r o) (s : Same H H') : GrAtR C H' p z xs ps r o := by
  obtain ⟨dx, ys, h1, h2, h3, h⟩ := h
  exact ⟨dx, ys, s _ _ h1, s _ _ h2, s _ _ h3, h⟩
theorem GrAtR.put {C : Addr} {H : Hp} {p : Addr} {z : Str} {xs : List V} {ps : List (Nat × Str)} {r o l : Addr} {ob : HO} (h : GrAtR C H p z xs ps r o) (n1 : p ≠ l) (n2 : r ≠ l) (n3 : o ≠ l) : GrAtR C (upd H l ob) p z xs ps r o := by
  obtain ⟨dx, ys, h1, h2, h3, h⟩ := h
  exact ⟨dx, ys, (upd_ne n1).trans h1, (upd_ne n2).trans h2, (upd_ne n3).trans h3, h⟩
theorem fnOk_orX {P : Program} {w : World} {K : PySem.W.Frag} {mg : Str → Option Value} {base : Heap} {CX : CXT} {k : Nat} {f : Addr} {fd : FuncData} {ps : List Str} {sp sq : Sp} (F : FnOk P w K mg base CX k f fd ps sp) (G : FnOk P w K mg base CX k f fd ps sq) :
    FnOk P w K mg base CX k f fd ps (fun vs H Q E => sp vs H Q E ∨ sq vs H Q E) :=
  ⟨fun vs H Q E h => h.elim (F.len vs H Q E) (G.len vs H Q E), fun A outer s H as us vs Q E hr e0 hb r h => by
    rcases h with h | h
    · exact F.run A outer s H as us vs Q E hr e0 hb r h
    · exact G.run A outer s H as us vs Q E hr e0 hb r h⟩
/-- one promise less: no error is promised -/
theorem fnOk_noE {P : Program} {w : World} {K : PySem.W.Frag} {mg : Str → Option Value} {base : Heap} {k : Nat} {f : Addr} {fd : FuncData} {ps : List Str} {sp sp' : Sp} (F : FnOk P w K mg base (L2.CX P w) k f fd ps sp) (h : ∀ vs H Q E, sp' vs H Q E → sp vs H Q (fun _ _ _ => False)) : FnOk P w K mg base CX0 k f fd ps sp' :=
  ⟨fun vs H Q E q => F.len vs H Q _ (h _ _ _ _ q), fun A outer s H as us vs Q E hr e0 hb r q => codeAny_mono (F.run A outer s H as us vs Q (fun _ _ _ => False) hr e0 hb r (h _ _ _ _ q)) fun r s' hq => by
    cases r with
    | error e =>
      obtain ⟨_, _, _, _, _, _, _, _, _, _, _, _, x⟩ := hq
      exact False.elim x
    | ok fl => cases fl <;> exact hq⟩
section
variable {P : Program} {w : World} {K : PySem.W.Frag} {mg : Str → Option Value} {base : Heap}
theorem ok_grO (L : DfGr K mg) (A : EX.DfE0 K mg "InvalidAlphabet") (M : EX.DfE P K mg "InvalidProduction" "index" EX.MsgOk) : FnOk P w K mg base CX0 3 L.i.f L.i.fd ["self", "alphabet", "productions"] (spGrO K) := by
  refine fnOk_noE (fnOk_orX (ok_gr L A M) (ok_grT L A M)) fun vs H Q E h => ?_
  obtain ⟨p, C, dx, z, a, xs, ps, rfl, hp, h1, h2, h3, h4, al, ha, pre, l, k⟩ := h
  rcases ha with ha | ha
  · exact .inl ⟨p, C, dx, .str z, .ref a, rfl, hp, h1, h2, h3, h4, .inr ⟨z, rfl, al, .inr ⟨a, xs, ps, rfl, ha, pre, .inr ⟨l, k⟩⟩⟩⟩
  · exact .inr ⟨p, C, dx, .str z, .ref a, rfl, hp, h1, h2, h3, h4, .inr ⟨z, rfl, al, .inr ⟨a, xs, ps, rfl, ha, pre, .inr ⟨l, k⟩⟩⟩⟩
end
end DW
/-! ranks -/
namespace DW
open PySem PySem.Spec PyProof.Rows L2 TL
set_option autoImplicit false
theorem u1r {k : Nat} {A : Around} (hr : Room k A) : A.units + 1 < cLine := by
  have := hr.un
  omega
structure DfRk (K : PySem.W.Frag) (mg : Str → Option Value) where
  gr : DfGM K mg
  nr : Df K mg "symbols_of_next_rank" sSymbolsOfNextRank ["grammar", "found"]
  rk : Df K mg "ranks" sRanks ["grammar"]
  sa : Df K mg "symbols_among" sSymbolsAmong ["items"]
  sy : Df K mg "is_symbol" sIsSymbol ["item"]
  ma : mg "all" = none
  mli : mg "list" = none
  mso : mg "sorted" = none
def spNx (K : PySem.W.Frag) (C : Addr) : Sp := fun vs H Q _ => ∃ (g d : Addr) (z : Str) (es : List En) (fd : Fd), vs = [.ref g, .ref d] ∧ GrE K C H g z es ∧ H d = some (.dK (kvR fd)) ∧ es.length ≤ 1000 ∧ (∀ e ∈ es, (tl e.2.2).length ≤ 100) ∧
  ∀ H' l, Same H H' → H' l = some (.lst (((nxt (es.map pE) fd).map one).map V.str)) → Q (.ref l) H'
def spRk (K : PySem.W.Frag) (C : Addr) : Sp := fun vs H Q _ => ∃ (g : Addr) (z : Str) (es : List En), vs = [.ref g] ∧ GrE K C H g z es ∧ es.length ≤ 16 ∧ (∀ e ∈ es, (tl e.2.2).length ≤ 100 ∧ symB e.2.1 = true) ∧ nsym (chs (es.map pE)) ≤ 6 ∧
  ∀ H' r (cs : List Nat), Same H H' → H r = none → H' r = some (.dK (kvR (cs.map fun c => (c, rkF (FF (es.map pE) 7) c)))) → cs.Pairwise (· < ·) → (∀ c, c ∈ cs ↔ c ∈ keysF (FF (es.map pE) 7)) → Q (.ref r) H'
theorem GrE.same {K : PySem.W.Frag} {C : Addr} {H H' : Hp} {p : Addr} {z : Str} {es : List En} (h : GrE K C H p z es) (s : Same H H') : GrE K C H' p z es := by
  obtain ⟨⟨r, o, dx, ys, h1, h2, h3, h4⟩, re⟩ := h
  exact ⟨⟨r, o, dx, ys, s _ _ h1, s _ _ h2, s _ _ h3, h4⟩, re.same s⟩
section
variable {P : Program} {w : World} {K : PySem.W.Frag} {mg : Str → Option Value} {base : Heap}
theorem scNx : FnScope ["grammar", "found", "following", "symbol", "items", "used"] ["grammar", "found"] (defScope sSymbolsOfNextRank) := ⟨rfl, rfl, rfl, by decide +kernel, rfl, by decide +kernel, by decide +kernel⟩
theorem ok_nx (D : DfRk K mg) : FnOk P w K mg base CX0 3 D.nr.f D.nr.fd ["grammar", "found"] (spNx K D.gr.C) := by
  have Gs : FnOk P w K mg base CX0 2 D.sa.f D.sa.fd ["items"] spSa := ok_sa D.sa D.sy D.mso
  have GP : FnOk P w K mg base CX0 1 D.gr.p.f D.gr.p.fd ["self"] (spGrP K D.gr.C) := ok_grP D.gr D.mli
  refine D.nr.F.ok scNx (fun vs H Q E h => ?_) (fun cdv A outer s H vs Q E hr h => ?_)
  · obtain ⟨g, d, z, es, fd, rfl, _⟩ := h
    rfl
  · obtain ⟨g, d, z, es, fd, rfl, gr, gd, el, yl, k⟩ := h
    have hr1 : Room 1 _ := hr.mono (by decide)
    have hr2 : Room 2 _ := hr
    refine ⟨_, PSs.nox (pss_cons (ps_set (i := 2) scNx.nd rfl (.inl rfl) (pe_lst pa_nil)) (pss_cons (ps_for PassesOwn.never rfl (pi_list (pe_meth0 (pv 0) D.gr.cl D.gr.mtp GP hr1 D.gr.p.b .nil pass0)) (pg_tup rfl (pgs_cons (pg_name (i := 3) scNx.nd rfl (.inl rfl)) (pgs_cons (pg_name (i := 4) scNx.nd rfl (.inl rfl)) pgs_nil))) (pss_one (ps_if (pw_and (pt_cmp (pc_dnotin (u1r hr) (pv 3) (pv 1))) (pw_and1 (pt_val (pe_callB (cr_all rfl) (by rfl) D.ma (by decide +kernel) (pa_cons (pe_lc (own := [("used", 5)]) (g := gName 5) rfl scNx.nd (pi_list (pe_call Gs hr2 (by rfl) D.sa.g D.sa.F.kp D.sa.b .nil pass0 (pa_cons (pv 4) pa_nil))) (blkOk_by (N := ["grammar", "found", "following", "symbol", "items", "used"]) (sc := defScope sSymbolsOfNextRank) (by decide +kernel)) (fun _ _ _ _ _ => pg_name (i := 5) scNx.nd rfl (Or.inl rfl)) (fun _ _ _ _ _ => pts_nil) (fun _ _ _ _ _ => (pe_cmp (pc_din (u1r hr) (pv 5) (pv 1))))) pa_nil))))).pt (pss_one (ps_expr (pe_bm PySem.F.plainAttrs_list PySem.F.slot_list_append PySem.F.type_list_append mt_append (pv 2) (pa_cons (pv 3) pa_nil)))) pss_nil))) (pss_one (ps_ret (pv 2))))), ?_⟩
    refine ⟨by show 0 ≤ sizeLine; decide, fun W hW => ?_⟩
    dsimp only [gName, List.set]
    have sW := same_upd (o := .lst []) hW
    have gW : (upd H W (.lst [])) W = some (.lst []) := upd_same
    generalize upd H W (.lst []) = H1 at sW gW ⊢
    obtain ⟨⟨r, o, dx, ys, hx, _⟩, _⟩ := id (gr.same sW)
    refine ⟨.ref g, rfl, g, dx, _, rfl, hx, flG_no _ _ _ (by decide) (by decide) (by decide), g, z, es, rfl, gr.same sW, fun H2 l s2 nl gl => ?_⟩
    have nWl : l ≠ W := (ne_of_none gW nl).symm
    have gW2 := s2 _ _ gW
    have re := gr.2
    refine ⟨l, rfl, ⟨_, SqL.of gl⟩, for_it (walk_list (xs := es.map vE)) (fun i σ G => ∃ (y3 y4 y5 : Option V), σ = [some (.ref g), some (.ref d), some (.ref W), y3, y4, y5] ∧ G W = some (.lst (((nxt ((es.take i).map pE) fd).map one).map V.str)) ∧ G l = some (.lst (es.map vE)) ∧ Same H G) ⟨_, _, _, rfl, gW2, gl, sW.trans s2⟩ (fun _ _ _ _ ⟨_, _, _, _, _, g, _⟩ => SqL.of g) ?_ ?_⟩
    · rintro i x σ G1 G2 hi ⟨y3, y4, y5, rfl, gW3, gl3, sm⟩ ⟨rfl, hx0⟩
      rw [List.length_map] at hi
      rw [List.getElem?_map, List.getElem?_eq_getElem hi] at hx0
      have hx0 : V.ref es[i].1 = x := Option.some.inj hx0
      subst hx0
      have me : es[i] ∈ es := List.getElem_mem hi
      have yb := yl _ me
      refine ⟨es[i].1, _, rfl, same_tupG sm _ _ (re _ me), rfl, _, _, rfl, _, _, rfl, rfl, ?_⟩
      dsimp only [gName, List.set]
      have gd3 := sm _ _ gd
      have tk : es.take (i + 1) = es.take i ++ [es[i]] := by rw [List.take_add_one, List.getElem?_eq_getElem hi]; rfl
      have nx1 : nxt ((es.take (i + 1)).map pE) fd = nxt ((es.take i).map pE) fd ++ nxt [pE es[i]] fd := by
        unfold nxt
        rw [tk, List.map_append, List.filter_append, List.map_append]
        rfl
      have nx2 : nxt [pE es[i]] fd = if (!decide (es[i].2.1 ∈ keysF fd) && okR fd es[i].2.2) = true then [es[i].2.1] else [] := by
        unfold nxt
        rw [List.filter_cons]
        by_cases q : (!decide (es[i].2.1 ∈ keysF fd) && okR fd es[i].2.2) = true
        · rw [if_pos q, if_pos (show (!decide ((pE es[i]).1 ∈ keysF fd) && okR fd (pE es[i]).2) = true from q)]
          rfl
        · rw [if_neg q, if_neg (show ¬ (!decide ((pE es[i]).1 ∈ keysF fd) && okR fd (pE es[i]).2) = true from q)]
          rfl
      have nlen : (nxt ((es.take i).map pE) fd).length ≤ 1000 := by
        unfold nxt
        rw [List.length_map]
        refine Nat.le_trans (List.length_filter_le _ _) ?_
        rw [List.length_map, List.length_take]
        omega
      refine ⟨_, rfl, _, rfl, d, _, rfl, DGet.k (k := Sum.inr (one es[i].2.1)) gd3, ?_⟩
      rw [val_key]
      refine ⟨_, rfl, ?_⟩
      cases c1 : decide (es[i].2.1 ∈ keysF fd) with
      | true =>
        rw [c1] at nx2
        refine iteF ⟨_, _, _, rfl, ?_, gl3, sm⟩
        rw [nx1, nx2, if_neg (by simp), List.append_nil]
        exact gW3
      | false =>
        rw [c1] at nx2
        refine iteT ?_
        refine ⟨.str es[i].2.2, rfl, es[i].2.2, rfl, by omega, fun G3 q ys s3 nq hq nd so mem => ?_⟩
        obtain ⟨cs, rfl, _⟩ := sorted_ones ys (fun y hy => by
          obtain ⟨c, _, _, e⟩ := (mem y).mp hy
          exact ⟨c, e⟩) nd so
        have gd4 := s3 _ _ gd3
        have cl : cs.length ≤ 26 := by
          have := nodup_lenS (cs.map one) syms nd fun y hy => by
            obtain ⟨c, _, h2, e⟩ := (mem y).mp hy
            rw [e]
            exact syms_all h2
          rw [List.length_map] at this
          exact this
        refine ⟨q, rfl, ⟨_, SqL.of hq⟩, fun B hB => ?_⟩
        have nBq : q ≠ B := ne_of_none hq hB
        refine lc_it (walk_list (xs := (cs.map one).map V.str)) (fun j G => G B = some (.lst (((cs.take j).map fun c => decide (c ∈ keysF fd)).map V.bl)) ∧ Same G3 G) ⟨upd_same, same_upd hB⟩ (fun _ _ _ ⟨_, sm⟩ => SqL.of (sm _ _ hq)) ?_ ?_
        · rintro j x F1 F2 hj ⟨gB, sB⟩ ⟨rfl, hxx⟩
          rw [List.length_map, List.length_map] at hj
          rw [List.getElem?_map, List.getElem?_map, List.getElem?_eq_getElem hj] at hxx
          have hxx : V.str (one cs[j]) = x := Option.some.inj hxx
          subst hxx
          have tkc : cs.take (j + 1) = cs.take j ++ [cs[j]] := by rw [List.take_add_one, List.getElem?_eq_getElem hj]; rfl
          refine ⟨rfl, yes ⟨_, rfl, _, rfl, d, _, rfl, DGet.k (k := Sum.inr (one cs[j])) (sB _ _ gd4), _, gB, ?_, ?_, fun b o e => (upd_ne (ne_of_none e hB)).trans (sB _ _ e)⟩⟩
          · rw [List.length_map, List.length_map, List.length_take, sizeLine_eq]
            omega
          · rw [upd_same, tkc, List.map_append, List.map_append, val_key]
            rfl
        rintro F1 ⟨gB, sB⟩
        rw [List.length_map, List.length_map, List.take_length] at gB
        refine ⟨B, cs.map fun c => decide (c ∈ keysF fd), rfl, SqL.of gB, ?_⟩
        have eb : (cs.map fun c => decide (c ∈ keysF fd)).all id = okR fd es[i].2.2 := by
          unfold okR
          rw [Bool.eq_iff_iff, List.all_eq_true, List.all_eq_true]
          constructor
          · intro h c hc
            cases sc : symB c with
            | false => rfl
            | true =>
              have m1 := (mem (one c)).mpr ⟨c, hc, sc, rfl⟩
              obtain ⟨c', hc', e⟩ := List.mem_map.mp m1
              rw [← one_inj e]
              exact h _ (List.mem_map.mpr ⟨c', hc', rfl⟩)
          · intro h b hb
            obtain ⟨c, hc, rfl⟩ := List.mem_map.mp hb
            obtain ⟨c', h1, h2, e⟩ := (mem (one c)).mp (List.mem_map.mpr ⟨c, hc, rfl⟩)
            have q := h c' h1
            rw [h2] at q
            rw [one_inj e]
            exact q
        rw [eb]
        refine ⟨_, rfl, ?_⟩
        have sm4 := (sm.trans s3).trans sB
        have gW4 := sB _ _ (s3 _ _ gW3)
        have gl4 := sB _ _ (s3 _ _ gl3)
        cases c2 : okR fd es[i].2.2 with
        | false =>
          rw [c2] at nx2
          refine iteF ⟨_, _, _, rfl, ?_, gl4, sm4⟩
          rw [nx1, nx2, if_neg (by decide), List.append_nil]
          exact gW4
        | true =>
          rw [c2] at nx2
          refine iteT ⟨.ref W, rfl, .inl ⟨rfl, _, SqL.of gW4⟩, _, rfl, W, _, _, rfl, rfl, gW4, by rw [List.length_map, List.length_map, sizeLine_eq]; omega, _, _, _, rfl, ?_, (upd_ne nWl).trans gl4, fun b o h => (upd_ne (ne_of_none h hW)).trans (sm4 b o h)⟩
          rw [upd_same, nx1, nx2, if_pos (by decide), List.map_append, List.map_append]
          rfl
    · rintro σ G ⟨y3, y4, y5, rfl, gW3, gl3, sm⟩
      rw [List.length_map, List.take_length] at gW3
      exact ⟨.ref W, rfl, k _ W sm gW3⟩
end
end DW
/-! ranks -/
namespace DW
open PySem PySem.Spec PyProof.Rows L2 TL
set_option autoImplicit false
theorem dc_it {J : It} {n : Nat} {G : Hp → Prop} {Y : Nat → Hp → V → Hp → Prop} (w : Walk J n G Y) {g : TG} {tt : TT} {tk tv : TE} {vs : List Nat} {σ : L2.St} {H1 : Hp} {D : Addr} {Qd : Hp → Prop} (Pv : Nat → Hp → Prop) (h0 : Pv 0 (upd H1 D (.dK []))) (hG : ∀ i H, i ≤ n → Pv i H → G H)
    (hs : ∀ i x H H', i < n → Pv i H → Y i H x H' → g x (wipe σ vs) H' fun σ2 H2 => wipe σ2 vs = wipe σ vs ∧ tt σ2 H2 fun b H3 =>
      if b = true then tk σ2 H3 fun y H4 => tv σ2 H4 fun z H5 => ∃ kvs k, y = kV k ∧ H5 D = some (.dK kvs) ∧ kvs.length < sizeLine ∧ Pv (i + 1) (upd H5 D (.dK (putK kvs k z))) else Pv (i + 1) H3) (hd : ∀ H, Pv n H → Qd H) :
    ∃ W : Nat → Nat → Hp → Prop, (∃ m, W 0 m (upd H1 D (.dK []))) ∧ ∀ i m H, W i m H →
      (J.stop i H ∧ Qd H) ∨ (J.go i H ∧ ∃ Nx : Hp → Prop, (∀ H', Nx H' → ∃ m', m' < m ∧ W (i + 1) m' H') ∧ ∀ x H', J.yld i H x H' → g x (wipe σ vs) H' fun σ2 H2 => wipe σ2 vs = wipe σ vs ∧ tt σ2 H2 fun b H3 =>
        if b = true then tk σ2 H3 fun y H4 => tv σ2 H4 fun z H5 => ∃ kvs k, y = kV k ∧ H5 D = some (.dK kvs) ∧ kvs.length < sizeLine ∧ Nx (upd H5 D (.dK (putK kvs k z))) else Nx H3) := by
  refine ⟨fun i m H => m = n - i ∧ i ≤ n ∧ Pv i H, ⟨n, by simp, Nat.zero_le _, h0⟩, ?_⟩
  rintro i m H ⟨rfl, hi, p⟩
  have q := hG i H hi p
  by_cases hlt : i < n
  · refine .inr ⟨w.goes i H hlt q, Pv (i + 1), fun H' p' => ⟨n - (i + 1), by omega, rfl, hlt, p'⟩, fun x H' y => hs i x H H' hlt p (w.yields i H x H' hlt q y)⟩
  · have e : i = n := by omega
    subst e
    exact .inl ⟨w.stops H q, hd H p⟩
theorem nodup_onesR : ∀ {l : List Nat}, l.Nodup → (l.map one).Nodup
  | [], _ => List.nodup_nil
  | a :: r, h => by
    obtain ⟨n, nd⟩ := List.nodup_cons.mp h
    rw [List.map_cons]
    refine List.nodup_cons.mpr ⟨fun m => ?_, nodup_onesR nd⟩
    obtain ⟨k, hk, e⟩ := List.mem_map.mp m
    exact n (by rw [← one_inj e]; exact hk)
theorem mem_onesR {l : List Nat} {c : Nat} : one c ∈ l.map one ↔ c ∈ l := by
  constructor
  · intro h
    obtain ⟨d, hd, e⟩ := List.mem_map.mp h
    rw [← one_inj e]
    exact hd
  · exact fun h => List.mem_map.mpr ⟨c, h, rfl⟩
section
variable {P : Program} {w : World} {K : PySem.W.Frag} {mg : Str → Option Value} {base : Heap}
theorem scRk : FnScope ["grammar", "found", "rank", "following", "symbol"] ["grammar"] (defScope sRanks) := ⟨rfl, rfl, rfl, by decide +kernel, rfl, by decide +kernel, by decide +kernel⟩
theorem ok_rk (D : DfRk K mg) : FnOk P w K mg base CX0 4 D.rk.f D.rk.fd ["grammar"] (spRk K D.gr.C) := by
  have Gn : FnOk P w K mg base CX0 3 D.nr.f D.nr.fd ["grammar", "found"] (spNx K D.gr.C) := ok_nx D
  refine D.rk.F.ok scRk (fun vs H Q E h => ?_) (fun cdv A outer s H vs Q E hr h => ?_)
  · obtain ⟨g, z, es, rfl, _⟩ := h
    rfl
  · obtain ⟨g, z, es, rfl, gr, el, yl, six, k⟩ := h
    have hr3 : Room 3 _ := hr
    refine ⟨_, PSs.nox (pss_cons (ps_set (i := 1) scRk.nd rfl (.inr rfl) pe_dnewK) (pss_cons (ps_set (i := 2) scRk.nd rfl (.inl rfl) pe_int) (pss_cons (ps_set (i := 3) scRk.nd rfl (.inl rfl) (pe_call Gn hr3 (by rfl) D.nr.g D.nr.F.kp D.nr.b .nil pass0 (pa_cons (pv 0) (pa_cons (pv 1) pa_nil)))) (pss_cons (ps_while PassesOwn.never (pt_truth (pv 3) (by intro _; rfl)) (pss_cons (ps_for PassesOwn.never rfl (pi_list (pv 3)) (pg_name (i := 4) scRk.nd rfl (.inl rfl)) (pss_one (ps_dput (u1r hr) (pv 1) (pv 4) (pv 2) rfl))) (pss_cons (ps_aug (i := 2) scRk.nd rfl (.inl rfl) pe_int ip_add) (pss_one (ps_set (i := 3) scRk.nd rfl (.inl rfl) (pe_call Gn hr3 (by rfl) D.nr.g D.nr.F.kp D.nr.b .nil pass0 (pa_cons (pv 0) (pa_cons (pv 1) pa_nil)))))))) (pss_one (ps_ret (pe_dc (own := [("symbol", 4)]) (g := gName 4) rfl scRk.nd (pi_list (pe_callB (call_sortedD rfl) (by rfl) D.mso (by decide +kernel) (pa_cons (pv 1) pa_nil))) (blkOk_by (N := ["grammar", "found", "rank", "following", "symbol"]) (sc := defScope sRanks) (by decide +kernel)) (fun _ _ _ _ _ => pg_name (i := 4) scRk.nd rfl (Or.inl rfl)) (fun _ _ _ _ _ => pts_nil) (fun _ _ _ _ _ => (pv 4)) (fun _ _ _ _ _ => (pe_dget (u1r hr) (pv 1) (pv 4) (fun _ _ => rfl)))))))))), ?_⟩
    refine fun W hW => ?_
    dsimp only [List.set]
    have sW := same_upd (o := .dK []) hW
    have gW : (upd H W (.dK [])) W = some (.dK (kvR [])) := upd_same
    generalize upd H W (.dK []) = H1 at sW gW ⊢
    have sy : ∀ p ∈ es.map pE, symB p.1 = true := fun p hp => by
      obtain ⟨e, he, rfl⟩ := List.mem_map.mp hp
      exact (yl e he).2
    refine ⟨.ref g, rfl, .ref W, rfl, g, W, z, es, [], rfl, gr.same sW, gW, by omega, fun e he => (yl e he).1, fun H2 l s2 gl => ?_⟩
    have gW2 := s2 _ _ gW
    refine ⟨fun m σ G => ∃ (n : Nat) (fl : Addr) (y4 : Option V), m + n = 7 ∧ (∀ j, j < n → nxt (es.map pE) (FF (es.map pE) j) ≠ []) ∧ σ = [some (.ref g), some (.ref W), some (.int ((n : Int) + 1)), some (.ref fl), y4] ∧ G W = some (.dK (kvR (FF (es.map pE) n))) ∧ G fl = some (.lst (((nxt (es.map pE) (FF (es.map pE) n)).map one).map V.str)) ∧ Same H G, ⟨7, 0, l, _, rfl, fun j hj => absurd hj (Nat.not_lt_zero _), rfl, gW2, gl, sW.trans s2⟩, ?_⟩
    rintro m σ G ⟨n, fl, y4, mn, ne, rfl, gW, gfl, sm⟩
    have n6 : (FF (es.map pE) n).length ≤ 6 := FF_six six sy n
    have nn := FF_le ne
    refine ⟨.ref fl, rfl, _, .inl ⟨_, SqL.of gfl, rfl⟩, ?_⟩
    cases en : nxt (es.map pE) (FF (es.map pE) n) with
    | nil =>
      refine iteF ?_
      have e7 := FF_end six sy ne en
      have kl : (keysF (FF (es.map pE) n)).length ≤ 6 := by
        unfold keysF
        rw [List.length_map]
        exact n6
      have knd := FF_nd (es.map pE) n
      rw [e7] at gW kl knd
      generalize FF (es.map pE) 7 = fd at gW kl knd k
      refine ⟨.ref W, rfl, W, _, (keysF fd).map one, rfl, .inl gW, ?_, by rw [List.length_map]; omega, fun ys p pm so hp => ?_⟩
      · rw [kvR_eq, List.map_map, List.map_map]
        unfold keysF
        rw [List.map_map]
        rfl
      obtain ⟨cs, rfl, pw⟩ := sorted_ones ys (fun y hy => by
        obtain ⟨c, _, e⟩ := List.mem_map.mp (pm.mem_iff.mp hy)
        exact ⟨c, e.symm⟩) (pm.nodup_iff.mpr (nodup_onesR knd)) so
      have csm : ∀ c, c ∈ cs ↔ c ∈ keysF fd := fun c => by
        rw [← mem_onesR (l := cs), ← mem_onesR (l := keysF fd), pm.mem_iff]
      have sp := same_upd (o := .lst ((cs.map one).map V.str)) hp
      have smp := sm.trans sp
      have gWp := sp _ _ gW
      have gp : (upd G p (.lst ((cs.map one).map V.str))) p = some (.lst ((cs.map one).map V.str)) := upd_same
      generalize upd G p (.lst ((cs.map one).map V.str)) = G1 at smp gWp gp ⊢
      refine ⟨p, rfl, ⟨_, SqL.of gp⟩, fun Dd hDd => ?_⟩
      have csl : cs.length ≤ 6 := by
        have := pm.length_eq
        rw [List.length_map, List.length_map] at this
        omega
      refine dc_it (walk_list (xs := (cs.map one).map V.str)) (fun j F => F Dd = some (.dK (kvR ((cs.take j).map fun c => (c, rkF fd c)))) ∧ Same G1 F) ⟨upd_same, same_upd hDd⟩ (fun _ _ _ ⟨_, sm⟩ => SqL.of (sm _ _ gp)) ?_ ?_
      · rintro j x F1 F2 hj ⟨gD, sD⟩ ⟨rfl, hx⟩
        rw [List.length_map, List.length_map] at hj
        rw [List.getElem?_map, List.getElem?_map, List.getElem?_eq_getElem hj] at hx
        have hx : V.str (one cs[j]) = x := Option.some.inj hx
        subst hx
        have mk : cs[j] ∈ keysF fd := (csm _).mp (List.getElem_mem hj)
        have tk : cs.take (j + 1) = cs.take j ++ [cs[j]] := by rw [List.take_add_one, List.getElem?_eq_getElem hj]; rfl
        have ni : cs[j] ∉ cs.take j := fun h => by
          obtain ⟨i, hi⟩ := List.mem_iff_getElem?.mp h
          rw [List.getElem?_take] at hi
          split at hi
          · rename_i lt
            obtain ⟨hi1, hi2⟩ := List.getElem?_eq_some_iff.mp hi
            have := List.pairwise_iff_getElem.mp pw i j hi1 hj lt
            omega
          · cases hi
        refine ⟨rfl, yes ⟨_, rfl, _, rfl, _, rfl, W, .int (rkF fd cs[j] : Int), rfl, ?_, _, Sum.inr (one cs[j]), rfl, gD, ?_, ?_, fun b o e => (upd_ne (ne_of_none e hDd)).trans (sD _ _ e)⟩⟩
        · have q := DGet.k (k := Sum.inr (one cs[j])) (sD _ _ gWp)
          rw [val_rk mk] at q
          exact q
        · rw [kvR_len, List.length_map, List.length_take, sizeLine_eq]
          omega
        · rw [upd_same, put_add (k := rkF fd cs[j]), addK, if_neg, tk, List.map_append]
          · rfl
          · unfold keysF
            rw [List.map_map]
            intro h
            obtain ⟨c, hc, e⟩ := List.mem_map.mp h
            exact ni (by rw [← show c = cs[j] from e]; exact hc)
          · intro r hr
            obtain ⟨c, hc, e⟩ := List.mem_map.mp hr
            obtain ⟨rfl, rfl⟩ := Prod.mk.inj e
            rfl
      rintro F ⟨gD, sD⟩
      rw [List.length_map, List.length_map, List.take_length] at gD
      exact k F Dd cs (smp.trans sD) (fresh_of smp hDd) gD pw csm
    | cons c0 r0 =>
      have ne' : nxt (es.map pE) (FF (es.map pE) n) ≠ [] := by rw [en]; exact List.cons_ne_nil _ _
      have g1 := FF_grow ne'
      have g2 := FF_six six sy (n + 1)
      refine iteT ?_
      clear en
      have nxn : ∀ c ∈ nxt (es.map pE) (FF (es.map pE) n), c ∉ keysF (FF (es.map pE) n) := fun c hc => (nxt_mem hc).1
      have ffs : FF (es.map pE) (n + 1) = stp (n + 1) (FF (es.map pE) n) (nxt (es.map pE) (FF (es.map pE) n)) := rfl
      have nx16 : (nxt (es.map pE) (FF (es.map pE) n)).length ≤ 16 := by
        unfold nxt
        rw [List.length_map]
        refine Nat.le_trans (List.length_filter_le _ _) ?_
        rw [List.length_map]
        exact el
      refine ⟨fun σ G => ∃ (fl : Addr) (y4 : Option V), σ = [some (.ref g), some (.ref W), some (.int (((n + 1 : Nat) : Int) + 1)), some (.ref fl), y4] ∧ G W = some (.dK (kvR (FF (es.map pE) (n + 1)))) ∧ G fl = some (.lst (((nxt (es.map pE) (FF (es.map pE) (n + 1))).map one).map V.str)) ∧ Same H G, ?_, ?_⟩
      · rintro σ' H' ⟨fl', y4', h1, h2, h3, h4⟩
        refine ⟨7 - (n + 1), by omega, n + 1, fl', y4', by omega, fun j hj => ?_, h1, h2, h3, h4⟩
        by_cases e : j = n
        · rw [e]
          exact ne'
        · exact ne j (by omega)
      generalize hfd : FF (es.map pE) n = fd at gW gfl nxn ffs nx16 ⊢
      generalize hcs : nxt (es.map pE) fd = cs at gfl nxn ffs nx16 ⊢
      refine ⟨.ref fl, rfl, fl, rfl, ⟨_, SqL.of gfl⟩, for_it (walk_list (xs := (cs.map one).map V.str)) (fun j σ F => ∃ y4, σ = [some (.ref g), some (.ref W), some (.int ((n : Int) + 1)), some (.ref fl), y4] ∧ F W = some (.dK (kvR (stp (n + 1) fd (cs.take j)))) ∧ F fl = some (.lst ((cs.map one).map V.str)) ∧ Same H F) ⟨_, rfl, gW, gfl, sm⟩ (fun _ _ _ _ ⟨_, _, _, g, _⟩ => SqL.of g) ?_ ?_⟩
      · rintro j x σ F1 F2 hj ⟨y4, rfl, gW, gfl, sm⟩ ⟨rfl, hx⟩
        rw [List.length_map, List.length_map] at hj
        rw [List.getElem?_map, List.getElem?_map, List.getElem?_eq_getElem hj] at hx
        have hx : V.str (one cs[j]) = x := Option.some.inj hx
        subst hx
        have tk : cs.take (j + 1) = cs.take j ++ [cs[j]] := by rw [List.take_add_one, List.getElem?_eq_getElem hj]; rfl
        dsimp only [gName, List.set]
        have nWf : fl ≠ W := ne_of gfl gW (by intro z; cases z)
        refine ⟨_, rfl, _, rfl, _, rfl, W, _, rfl, DPut.k (k := Sum.inr (one cs[j])) gW ?_, ?_⟩
        · rw [kvR_len, sizeLine_eq]
          have q : (stp (n + 1) fd (cs.take j)).length ≤ (stp (n + 1) fd (cs.take j ++ cs.drop j)).length := by
            rw [stp_app]
            exact stp_len
          rw [List.take_append_drop, ← ffs] at q
          omega
        refine ⟨_, rfl, ?_, (upd_ne nWf).trans gfl, fun b o h => (upd_ne (ne_of_none h hW)).trans (sm b o h)⟩
        rw [upd_same, tk, stp_app, stp_one]
        rw [show ((n : Int) + 1) = ((n + 1 : Nat) : Int) from rfl, put_add fun r hr => ?_]
        rcases stp_val hr with q | q
        · exact absurd (List.mem_map.mpr ⟨_, q, rfl⟩) (nxn _ (List.getElem_mem hj))
        · exact q
      rintro σ F ⟨y4, rfl, gW, gfl, sm⟩
      rw [List.length_map, List.length_map, List.take_length, ← ffs] at gW
      refine ⟨_, rfl, (n : Int) + 1, 1, rfl, rfl, ?_⟩
      refine ⟨.ref g, rfl, .ref W, rfl, g, W, z, es, _, rfl, gr.same sm, gW, by omega, fun e he => (yl e he).1, fun F3 l3 s3 gl3 => ?_⟩
      exact ⟨l3, _, rfl, s3 _ _ gW, gl3, sm.trans s3⟩
end
end DW
/-! k69: heights -/
namespace DW
open PySem PySem.Spec PyProof.Rows L2 TL
set_option autoImplicit false
def AZ : Str := "ABCDEFGHIJKLMNOPQRSTUVWXYZ"
theorem AZ_tl : tl AZ = (List.range 26).map (· + 65) := by decide +kernel
theorem AZ_sym {c : Nat} : (c ∈ AZ.cps.toList) ↔ symB c = true := by
  have e : AZ.cps.toList = (List.range 26).map (· + 65) := AZ_tl
  rw [e]
  unfold symB
  rw [Bool.and_eq_true, decide_eq_true_eq, decide_eq_true_eq]
  constructor
  · intro h
    obtain ⟨k, hk, rfl⟩ := List.mem_map.mp h
    have := List.mem_range.mp hk
    omega
  · intro h
    exact List.mem_map.mpr ⟨c - 65, List.mem_range.mpr (by omega), by omega⟩
theorem stp_le {k : Nat} : ∀ {cs : List Nat} {fd : Fd}, (stp k fd cs).length ≤ fd.length + cs.length
  | [], _ => Nat.le_refl _
  | c :: cs, fd => by
    have q := stp_le (k := k) (cs := cs) (fd := addK k fd c)
    have q2 : (addK k fd c).length ≤ fd.length + 1 := by
      unfold addK
      split
      · omega
      · rw [List.length_append]
        exact Nat.le_refl _
    show (stp k (addK k fd c) cs).length ≤ _
    rw [List.length_cons]
    omega
theorem paired_app {α β : Type} {F : α → β → Prop} : ∀ {a : List α} {c : List β} {b : List α} {d : List β}, Paired F a c → Paired F b d → Paired F (a ++ b) (c ++ d)
  | _, _, _, _, .nil, h => h
  | _, _, _, _, .cons x r, h => .cons x (paired_app r h)
theorem paired_imp {α β : Type} {F G : α → β → Prop} (i : ∀ x y, F x y → G x y) : ∀ {a : List α} {c : List β}, Paired F a c → Paired G a c
  | _, _, .nil => .nil
  | _, _, .cons x r => .cons (i _ _ x) (paired_imp i r)
theorem paired_lenR {α β : Type} {F : α → β → Prop} : ∀ {a : List α} {c : List β}, Paired F a c → a.length = c.length
  | _, _, .nil => rfl
  | _, _, .cons _ r => by rw [List.length_cons, List.length_cons, paired_lenR r]
theorem eqv_nilR (ds : List PyData) : PyData.eqv (.list ds) (.list []) = ds.isEmpty := by
  cases ds <;> simp [PyData.eqv, PyData.eqvAll]
theorem strs_dpR {K : PySem.W.Frag} {H : Hp} : ∀ ys : List Str, DpAll K H (ys.map V.str) (ys.map PyData.str)
  | [] => .nil
  | y :: ys => .cons (.str y) (strs_dpR ys)
theorem ones_lay : ∀ cs : List Nat, (∀ c ∈ cs, c < 128) → PyData.canLayAll0 ((cs.map one).map PyData.str) = true ∧ PyData.depthAll ((cs.map one).map PyData.str) = 0
  | [], _ => ⟨rfl, rfl⟩
  | c :: cs, h => by
    obtain ⟨h1, h2⟩ := ones_lay cs fun d hd => h d (List.mem_cons_of_mem _ hd)
    have so : PyData.strOk (one c) = true := strOk_lowE fun d m => by
      rw [List.mem_singleton.mp (show d ∈ [c] from m)]
      exact h c List.mem_cons_self
    rw [List.map_cons, List.map_cons]
    exact ⟨by simp only [PyData.canLayAll0, PyData.canLay0, so, h1, Bool.and_self], by simp only [PyData.depthAll, PyData.depth, h2]; rfl⟩
theorem ones_shaped {cs : List Nat} (h : ∀ c ∈ cs, c < 128) : SeqAt.shaped (.list ((cs.map one).map PyData.str)) = true := by
  obtain ⟨h1, h2⟩ := ones_lay cs h
  unfold SeqAt.shaped
  rw [Bool.and_eq_true]
  exact ⟨by simp only [PyData.canLay0, h1], decide_eq_true (by simp only [PyData.depth, h2]; omega)⟩
theorem sym_low {c : Nat} (h : symB c = true) : c < 128 := by
  unfold symB at h
  rw [Bool.and_eq_true] at h
  have := of_decide_eq_true h.2
  omega
theorem okR_iff {fd : Fd} {y : Str} : (((((tl y).filter symB).filter fun c => !decide (c ∈ keysF fd)).map one).map PyData.str).isEmpty = okR fd y := by
  rw [Bool.eq_iff_iff]
  unfold okR
  rw [List.isEmpty_iff, List.map_eq_nil_iff, List.map_eq_nil_iff, List.all_eq_true]
  constructor
  · intro h c hc
    cases s : symB c with
    | false => rfl
    | true =>
      by_cases q : c ∈ keysF fd
      · rw [decide_eq_true q]
        rfl
      · have m : c ∈ (((tl y).filter symB).filter fun c => !decide (c ∈ keysF fd)) := List.mem_filter.mpr ⟨List.mem_filter.mpr ⟨hc, s⟩, by rw [decide_eq_false q]; rfl⟩
        rw [h] at m
        cases m
  · intro h
    refine List.filter_eq_nil_iff.mpr fun c hc => ?_
    obtain ⟨h1, h2⟩ := List.mem_filter.mp hc
    have q := h c h1
    rw [h2] at q
    simp at q ⊢
    exact q
def spNms : Sp := fun vs H Q _ => ∃ x : Str, vs = [.str x] ∧ (tl x).length ≤ 100 ∧ ∀ H' l, Same H H' → H' l = some (.lst ((((tl x).filter symB).map one).map V.str)) → Q (.ref l) H'
def spHts (K : PySem.W.Frag) : Sp := fun vs H Q _ => ∃ (a : Addr) (es : List En), vs = [.ref a] ∧ H a = some (.lst (es.map vE)) ∧ RE K H es ∧ es.length ≤ 16 ∧ (∀ e ∈ es, (tl e.2.2).length ≤ 100 ∧ symB e.2.1 = true) ∧ nsym (chs (es.map pE)) ≤ 6 ∧
  ∀ H' r, Same H H' → H r = none → H' r = some (.dK (kvR (FF (es.map pE) 7))) → Q (.ref r) H'
section
variable {P : Program} {w : World} {K : PySem.W.Frag} {mg : Str → Option Value} {base : Heap}
theorem scNms : FnScope ["_law_text", "_law_sign"] ["_law_text"] (defScope sLNamesOf) := ⟨rfl, rfl, rfl, by decide +kernel, rfl, by decide +kernel, by decide +kernel⟩
theorem ok_nms (D : Df K mg "_law_names_of" sLNamesOf ["_law_text"]) : FnOk P w K mg base CX0 1 D.f D.fd ["_law_text"] spNms := by
  refine D.F.ok scNms (fun vs H Q E h => ?_) (fun cdv A0 outer s H vs Q E hr h => ?_)
  · obtain ⟨x, rfl, _⟩ := h
    rfl
  · obtain ⟨X, rfl, xl, k⟩ := h
    refine ⟨_, PSs.nox (pss_one (ps_ret (pe_lc (own := [("_law_sign", 1)]) (g := gName 1) rfl scNms.nd (pi_str (pv 0)) (blkOk_by (N := ["_law_text", "_law_sign"]) (sc := defScope sLNamesOf) (by decide +kernel)) (fun _ _ _ _ _ => pg_name (i := 1) scNms.nd rfl (Or.inl rfl)) (fun _ _ _ _ _ => (pts_one (pt_cmpR op_in_sign (pv 1) pe_str rfl))) (fun _ _ _ _ _ => (pv 1))))), ?_⟩
    have Xs : X.cps.size = (tl X).length := (Array.length_toList).symm
    refine ⟨.str X, rfl, X, rfl, fun L2 hL2 => ?_⟩
    refine lc_it (walk_str (z := X)) (fun j G => G L2 = some (.lst (((((tl X).take j).filter symB).map one).map V.str)) ∧ Same H G) ⟨upd_same, same_upd hL2⟩ (fun _ _ _ _ => trivial) ?_ ?_
    · rintro j v F1 F2 hj ⟨gL, sm⟩ ⟨rfl, d, hd, rfl⟩
      have hd' : (tl X)[j]? = some d := by rw [Array.getElem?_toList]; exact hd
      have tk : (tl X).take (j + 1) = (tl X).take j ++ [d] := by rw [List.take_add_one, hd']; rfl
      refine ⟨rfl, .str ⟨#[d]⟩, rfl, d, AZ, rfl, rfl, ?_⟩
      refine ⟨_, rfl, ite2 (fun e => ⟨_, rfl, _, gL, ?_, ?_, fun b o h => (upd_ne (ne_of_none h hL2)).trans (sm b o h)⟩) (fun e => ⟨?_, sm⟩)⟩
      · rw [List.length_map, List.length_map]
        refine Nat.lt_of_le_of_lt (List.length_filter_le _ _) ?_
        rw [List.length_take, sizeLine_eq]
        omega
      · have e := AZ_sym.mp (of_decide_eq_true e)
        rw [upd_same, tk, List.filter_append, List.map_append, List.map_append, List.filter_cons, if_pos e]
        rfl
      · have e : ¬ symB d = true := fun q => e (decide_eq_true (AZ_sym.mpr q))
        rw [gL, tk, List.filter_append, List.filter_cons, if_neg e, List.filter_nil, List.append_nil]
    rintro G2 ⟨gL, sm⟩
    rw [Xs, List.take_length] at gL
    exact k _ L2 sm gL
theorem scHts : FnScope ["_law_rules_here", "_law_found", "_law_height", "_law_fresh", "_law_symbol", "_law_items", "_law_name"] ["_law_rules_here"] (defScope sLHeights) := ⟨rfl, rfl, rfl, by decide +kernel, rfl, by decide +kernel, by decide +kernel⟩
theorem ok_hts (D : Df K mg "_law_heights" sLHeights ["_law_rules_here"]) (Dn : Df K mg "_law_names_of" sLNamesOf ["_law_text"]) (md : mg "dict" = none) (ml : mg "list" = none) : FnOk P w K mg base CX0 2 D.f D.fd ["_law_rules_here"] (spHts K) := by
  have Gn : FnOk P w K mg base CX0 1 Dn.f Dn.fd ["_law_text"] spNms := ok_nms Dn
  refine D.F.ok scHts (fun vs H Q E h => ?_) (fun cdv A0 outer s H vs Q E hr h => ?_)
  · obtain ⟨a, es, rfl, _⟩ := h
    rfl
  · obtain ⟨a, es, rfl, ha, re, el, yl, six, k⟩ := h
    refine ⟨_, PSs.nox (pss_cons (ps_asg (pe_tup (pa_cons pe_dnewK (pa_cons pe_int pa_nil))) (pg_tup rfl (pgs_cons (pg_name (i := 1) scHts.nd rfl (.inr rfl)) (pgs_cons (pg_name (i := 2) scHts.nd rfl (.inl rfl)) pgs_nil)))) (pss_cons (ps_while PassesOwn.never (pt_cmpR op_le (pv 2) pe_int (nomark _)) (pss_cons (ps_set (i := 3) scHts.nd rfl (.inl rfl) pe_dnewK) (pss_cons (ps_for PassesOwn.never rfl (pi_list (pv 0)) (pg_tup rfl (pgs_cons (pg_name (i := 4) scHts.nd rfl (.inl rfl)) (pgs_cons (pg_name (i := 5) scHts.nd rfl (.inl rfl)) pgs_nil))) (pss_one (ps_if (pw_and (pt_cmp (pc_dnotin (u1r hr) (pv 4) (pv 1))) (pw_and1 (pt_cmpR (op_eqD hr.units) (pe_lc (own := [("_law_name", 6)]) (g := gName 6) rfl scHts.nd (pi_list (pe_call Gn hr (by rfl) Dn.g Dn.F.kp Dn.b .nil pass0 (pa_cons (pv 5) pa_nil))) (blkOk_by (N := ["_law_rules_here", "_law_found", "_law_height", "_law_fresh", "_law_symbol", "_law_items", "_law_name"]) (sc := defScope sLHeights) (by decide +kernel)) (fun _ _ _ _ _ => pg_name (i := 6) scHts.nd rfl (Or.inl rfl)) (fun _ _ _ _ _ => (pts_one (pt_cmp (pc_dnotin (u1r hr) (pv 6) (pv 1))))) (fun _ _ _ _ _ => (pv 6))) (pe_lst pa_nil) (nomark _)))).pt (pss_one (ps_dput (u1r hr) (pv 3) (pv 4) (pv 2) rfl)) pss_nil))) (pss_one (ps_asg (pe_tup (pa_cons (pe_callTy (call_dictP rfl) (by rfl) md (by decide +kernel) (pa_cons (pe_op op_cat (LiI.pe_listItems rfl (pv 1) (by rfl) ml (by decide +kernel)) (LiI.pe_listItems rfl (pv 3) (by rfl) ml (by decide +kernel))) pa_nil)) (pa_cons (pe_op op_add (pv 2) pe_int) pa_nil))) (pg_tup rfl (pgs_cons (pg_name (i := 1) scHts.nd rfl (.inr rfl)) (pgs_cons (pg_name (i := 2) scHts.nd rfl (.inl rfl)) pgs_nil)))))))) (pss_one (ps_ret (pv 1))))), ?_⟩
    refine fun d0 h_d0 => ⟨by show 2 ≤ sizeLine; decide, fun tp h_tp => ?_⟩
    have sm0 := (same_upd (o := .dK []) h_d0).trans (same_upd (o := .tup [V.ref d0, V.int 1]) h_tp)
    have gd0 : (upd (upd H d0 (.dK [])) tp (.tup [V.ref d0, V.int 1])) d0 = some (.dK (kvR [])) := (upd_ne (ne_of_none upd_same h_tp)).trans upd_same
    refine ⟨tp, _, rfl, SqT.of upd_same, rfl, _, _, rfl, _, _, rfl, rfl, ?_⟩
    dsimp only [gName, List.set]
    have sy : ∀ p ∈ es.map pE, symB p.1 = true := fun p hp => by
      obtain ⟨e, he, rfl⟩ := List.mem_map.mp hp
      exact (yl e he).2
    refine ⟨fun m σ G => ∃ (n : Nat) (d : Addr) (y3 y4 y5 y6 : Option V), m + n = 7 ∧ σ = [some (.ref a), some (.ref d), some (.int ((n : Int) + 1)), y3, y4, y5, y6] ∧ H d = none ∧ G d = some (.dK (kvR (FF (es.map pE) n))) ∧ Same H G, ⟨7, 0, d0, _, _, _, _, rfl, rfl, h_d0, gd0, sm0⟩, ?_⟩
    rintro m σ G ⟨n, d, y3, y4, y5, y6, mn, rfl, hd0, gd, sm⟩
    refine ⟨_, rfl, _, 7, rfl, rfl, _, rfl, ?_⟩
    by_cases n7 : n = 7
    · refine ite2 (fun e => absurd (of_decide_eq_true e) (by omega)) (fun _ => ?_)
      rw [n7] at gd
      exact ⟨.ref d, rfl, k _ d sm hd0 gd⟩
    · refine ite2 (fun _ => ?_) (fun e => absurd (decide_eq_true (by omega)) e)
      have nxn : ∀ c ∈ nxt (es.map pE) (FF (es.map pE) n), c ∉ keysF (FF (es.map pE) n) := fun c hc => (nxt_mem hc).1
      have ffs : FF (es.map pE) (n + 1) = stp (n + 1) (FF (es.map pE) n) (nxt (es.map pE) (FF (es.map pE) n)) := rfl
      have fl6 := FF_six six sy n
      have fl7 := FF_six six sy (n + 1)
      have fnd := FF_nd (es.map pE) (n + 1)
      refine ⟨fun σ G => ∃ (d : Addr) (y3 y4 y5 y6 : Option V), σ = [some (.ref a), some (.ref d), some (.int (((n + 1 : Nat) : Int) + 1)), y3, y4, y5, y6] ∧ H d = none ∧ G d = some (.dK (kvR (FF (es.map pE) (n + 1)))) ∧ Same H G, ?_, ?_⟩
      · rintro σ' H' ⟨d', y3', y4', y5', y6', h1, h2, h3, h4⟩
        exact ⟨7 - (n + 1), by omega, n + 1, d', y3', y4', y5', y6', by omega, h1, h2, h3, h4⟩
      generalize hfd : FF (es.map pE) n = fd at gd nxn ffs fl6 ⊢
      refine fun f h_f => ?_
      have nfd : f ≠ d := (ne_of_none gd h_f).symm
      have h_f0 := fresh_of sm h_f
      have sf := sm.trans (same_upd (o := .dK []) h_f)
      have gd1 := (upd_ne (o := .dK []) nfd.symm).trans gd
      dsimp only [List.set]
      refine ⟨.ref a, rfl, a, rfl, ⟨_, SqL.of (sf _ _ ha)⟩, for_it (walk_list (xs := es.map vE)) (fun i σ G => ∃ (y4 y5 y6 : Option V), σ = [some (.ref a), some (.ref d), some (.int ((n : Int) + 1)), some (.ref f), y4, y5, y6] ∧ G f = some (.dK (kvR (stp (n + 1) [] (nxt ((es.take i).map pE) fd)))) ∧ G d = some (.dK (kvR fd)) ∧ Same H G) ⟨_, _, _, rfl, upd_same, gd1, sf⟩ (fun _ _ _ _ ⟨_, _, _, _, _, _, s⟩ => SqL.of (s _ _ ha)) ?_ ?_⟩
      · rintro i x σ G1 G2 hi ⟨y4, y5, y6, rfl, gf, gd, sm⟩ ⟨rfl, hx0⟩
        rw [List.length_map] at hi
        rw [List.getElem?_map, List.getElem?_eq_getElem hi] at hx0
        have hx0 : V.ref es[i].1 = x := Option.some.inj hx0
        subst hx0
        have me : es[i] ∈ es := List.getElem_mem hi
        have yb := (yl _ me).1
        have tk : es.take (i + 1) = es.take i ++ [es[i]] := by rw [List.take_add_one, List.getElem?_eq_getElem hi]; rfl
        have nx1 : nxt ((es.take (i + 1)).map pE) fd = nxt ((es.take i).map pE) fd ++ nxt [pE es[i]] fd := by
          unfold nxt
          rw [tk, List.map_append, List.filter_append, List.map_append]
          rfl
        have nx2 : nxt [pE es[i]] fd = if (!decide (es[i].2.1 ∈ keysF fd) && okR fd es[i].2.2) = true then [es[i].2.1] else [] := by
          unfold nxt
          rw [List.filter_cons]
          by_cases q : (!decide (es[i].2.1 ∈ keysF fd) && okR fd es[i].2.2) = true
          · rw [if_pos q, if_pos (show (!decide ((pE es[i]).1 ∈ keysF fd) && okR fd (pE es[i]).2) = true from q)]
            rfl
          · rw [if_neg q, if_neg (show ¬ (!decide ((pE es[i]).1 ∈ keysF fd) && okR fd (pE es[i]).2) = true from q)]
            rfl
        refine ⟨es[i].1, _, rfl, same_tupG sm _ _ (re _ me), rfl, _, _, rfl, _, _, rfl, rfl, ?_⟩
        dsimp only [gName, List.set]
        refine ⟨_, rfl, _, rfl, d, _, rfl, DGet.k (k := Sum.inr (one es[i].2.1)) gd, ?_⟩
        rw [val_key]
        refine ⟨_, rfl, ?_⟩
        cases c1 : decide (es[i].2.1 ∈ keysF fd) with
        | true =>
          rw [c1] at nx2
          refine iteF ⟨_, _, _, rfl, ?_, gd, sm⟩
          rw [nx1, nx2, if_neg (by simp), List.append_nil]
          exact gf
        | false =>
          rw [c1] at nx2
          refine iteT ?_
          refine ⟨.str es[i].2.2, rfl, es[i].2.2, rfl, yb, fun G3 q s3 hq => ?_⟩
          have gd4 := s3 _ _ gd
          refine ⟨q, rfl, ⟨_, SqL.of hq⟩, fun B hB => ?_⟩
          have smc : ∀ c ∈ (tl es[i].2.2).filter symB, c < 128 := fun c hc => sym_low (List.mem_filter.mp hc).2
          have cl : ((tl es[i].2.2).filter symB).length ≤ 100 := Nat.le_trans (List.length_filter_le _ _) yb
          have okr := okR_iff (fd := fd) (y := es[i].2.2)
          generalize (tl es[i].2.2).filter symB = cs at hq smc cl okr ⊢
          refine lc_it (walk_list (xs := (cs.map one).map V.str)) (fun j G => G B = some (.lst ((((cs.take j).filter fun c => !decide (c ∈ keysF fd)).map one).map V.str)) ∧ Same G3 G) ⟨upd_same, same_upd hB⟩ (fun _ _ _ ⟨_, sm⟩ => SqL.of (sm _ _ hq)) ?_ ?_
          · rintro j x F1 F2 hj ⟨gB, sB⟩ ⟨rfl, hxx⟩
            rw [List.length_map, List.length_map] at hj
            rw [List.getElem?_map, List.getElem?_map, List.getElem?_eq_getElem hj] at hxx
            have hxx : V.str (one cs[j]) = x := Option.some.inj hxx
            subst hxx
            have tkc : cs.take (j + 1) = cs.take j ++ [cs[j]] := by rw [List.take_add_one, List.getElem?_eq_getElem hj]; rfl
            refine ⟨rfl, _, rfl, _, rfl, d, _, rfl, DGet.k (k := Sum.inr (one cs[j])) (sB _ _ gd4), ?_⟩
            rw [val_key]
            refine ⟨_, rfl, ite2 (fun e => ⟨_, rfl, _, gB, ?_, ?_, fun b o h => (upd_ne (ne_of_none h hB)).trans (sB b o h)⟩) (fun e => ⟨?_, sB⟩)⟩
            · rw [List.length_map, List.length_map]
              refine Nat.lt_of_le_of_lt (List.length_filter_le _ _) ?_
              rw [List.length_take, sizeLine_eq]
              omega
            · have e : (!decide (cs[j] ∈ keysF fd)) = true := e
              rw [upd_same, tkc, List.filter_append, List.map_append, List.map_append, List.filter_cons, if_pos e]
              rfl
            · have e : ¬ (!decide (cs[j] ∈ keysF fd)) = true := e
              rw [gB, tkc, List.filter_append, List.filter_cons, if_neg e, List.filter_nil, List.append_nil]
          rintro F1 ⟨gB, sB⟩
          rw [List.length_map, List.length_map, List.take_length] at gB
          refine ⟨by show 0 ≤ sizeLine; decide, fun n1 h_n1 => ?_⟩
          have sn := same_upd (o := .lst []) h_n1
          refine ⟨.list (((cs.filter fun c => !decide (c ∈ keysF fd)).map one).map PyData.str), .list [], .lst (SqL.of (sn _ _ gB)) (strs_dpR _), .lst (SqL.of upd_same) .nil, ones_shaped (fun c hc => smc c (List.mem_filter.mp hc).1), by decide +kernel, ?_⟩
          rw [eqv_nilR, okr]
          refine ⟨_, rfl, ?_⟩
          have s4 := (s3.trans sB).trans sn
          have gf4 := s4 _ _ gf
          have gd5 := s4 _ _ gd
          have sm4 := sm.trans s4
          cases c2 : okR fd es[i].2.2 with
          | false =>
            rw [c2] at nx2
            refine iteF ⟨_, _, _, rfl, ?_, gd5, sm4⟩
            rw [nx1, nx2, if_neg (by decide), List.append_nil]
            exact gf4
          | true =>
            rw [c2] at nx2
            refine iteT ⟨_, rfl, _, rfl, _, rfl, f, _, rfl, DPut.k (k := Sum.inr (one es[i].2.1)) gf4 ?_, _, _, _, rfl, ?_, (upd_ne nfd.symm).trans gd5, fun b o h => (upd_ne (ne_of_none h h_f0)).trans (sm4 b o h)⟩
            · rw [kvR_len, sizeLine_eq]
              have q := stp_le (k := n + 1) (fd := []) (cs := nxt ((es.take i).map pE) fd)
              have q2 : (nxt ((es.take i).map pE) fd).length ≤ 16 := by
                unfold nxt
                rw [List.length_map]
                refine Nat.le_trans (List.length_filter_le _ _) ?_
                rw [List.length_map, List.length_take]
                omega
              have q3 : ([] : Fd).length = 0 := rfl
              omega
            · rw [upd_same, nx1, nx2, if_pos (by decide), stp_app, stp_one]
              rw [show ((n : Int) + 1) = ((n + 1 : Nat) : Int) from rfl, put_add fun r hr => ?_]
              exact (stp_val hr).elim (fun h => nomatch h) id
      · rintro σ G ⟨y4, y5, y6, rfl, gf, gd, sm⟩
        rw [List.length_map, List.take_length] at gf
        have spl : stp (n + 1) fd (nxt (es.map pE) fd) = fd ++ stp (n + 1) [] (nxt (es.map pE) fd) := by
          have q := stp_split (k := n + 1) (fd := fd) (g := []) nxn
          rw [List.append_nil] at q
          exact q
        rw [spl] at ffs
        generalize stp (n + 1) [] (nxt (es.map pE) fd) = gg at gf ffs spl
        refine ⟨_, rfl, d, _, rfl, gd, fun G3 p1 ts1 s3 np1 nt1 pn1 gp1 pr1 => ?_⟩
        refine ⟨_, rfl, f, _, rfl, s3 _ _ gf, fun G4 p2 ts2 s4 np2 nt2 pn2 gp2 pr2 => ?_⟩
        have l1 := paired_lenR pr1
        have l2 := paired_lenR pr2
        rw [kvR_len] at l1 l2
        have l3 : fd.length + gg.length ≤ 6 := by
          have q := fl7
          rw [ffs, List.length_append] at q
          exact q
        refine ⟨p1, p2, _, _, rfl, rfl, s4 _ _ gp1, gp2, by rw [List.length_map, List.length_map, sizeLine_eq]; omega, fun q hq => ?_⟩
        have sq := same_upd (o := .lst (ts1.map V.ref ++ ts2.map V.ref)) hq
        have prs := paired_app (paired_imp (G := fun (t : Addr) (kv : Key × V) => SqT K (upd G4 q (.lst (ts1.map V.ref ++ ts2.map V.ref))) t [kV kv.1, kv.2]) (fun t kv h => SqT.of (sq _ _ (s4 _ _ h))) pr1) (paired_imp (G := fun (t : Addr) (kv : Key × V) => SqT K (upd G4 q (.lst (ts1.map V.ref ++ ts2.map V.ref))) t [kV kv.1, kv.2]) (fun t kv h => SqT.of (sq _ _ h)) pr2)
        refine ⟨q, ts1 ++ ts2, kvR fd ++ kvR gg, rfl, by rw [List.map_append]; exact SqL.of upd_same, prs, fun d5 hd5 => ?_⟩
        have mg5 : mergeK [] (kvR fd ++ kvR gg) = kvR (fd ++ gg) := by
          rw [show kvR fd ++ kvR gg = kvR (fd ++ gg) by rw [kvR_eq, kvR_eq, kvR_eq, List.map_append]]
          have q := merge_nd (g := fd ++ gg) (fd := []) (by rw [← ffs]; exact fnd)
          exact q
        rw [mg5, ← ffs]
        have smq := ((sm.trans s3).trans s4).trans sq
        refine ⟨_, rfl, _, 1, rfl, rfl, by show 2 ≤ sizeLine; decide, fun t5 ht5 => ?_⟩
        refine ⟨t5, _, rfl, SqT.of upd_same, rfl, _, _, rfl, _, _, rfl, rfl, ?_⟩
        exact ⟨d5, _, _, _, _, rfl, fresh_of smq hd5, (upd_ne (ne_of_none upd_same ht5)).trans upd_same, (smq.trans (same_upd hd5)).trans (same_upd ht5)⟩
end
end DW
/-! k69: symbols and productions drawn -/
namespace DW
open PySem PySem.Spec PyProof.Rows L2 TL
set_option autoImplicit false
theorem foldl_app : ∀ (l : List (Array Nat)) (acc : Array Nat), (l.foldl (· ++ ·) acc).toList = acc.toList ++ (l.map Array.toList).flatten
  | [], acc => by simp
  | a :: r, acc => by
    rw [List.foldl_cons, foldl_app r, Array.toList_append, List.map_cons, List.flatten_cons, List.append_assoc]
theorem tl_mul (z : Str) (k : Int) : tl (Txt.mul z k) = (List.replicate k.toNat (tl z)).flatten := by
  unfold Txt.mul
  by_cases h : k < 1
  · rw [if_pos h, show k.toNat = 0 by omega]
    rfl
  · rw [if_neg h]
    by_cases h2 : (k == 1 || z.length == 0) = true
    · rw [if_pos h2]
      rw [Bool.or_eq_true] at h2
      rcases h2 with e | e
      · rw [eq_of_beq e]
        simp
      · have e0 : tl z = [] := List.length_eq_zero_iff.mp (by rw [Array.length_toList]; exact eq_of_beq e)
        rw [e0]
        simp
    · rw [if_neg h2]
      show ((List.replicate k.toNat z.cps).foldl (· ++ ·) #[]).toList = _
      rw [foldl_app, List.map_replicate]
      simp
section
variable {X : Cx}
def rRepS : R2 := fun x y H Q => ∃ (z : Str) (k : Int), x = .str z ∧ y = .int k ∧ 0 ≤ k ∧ k ≤ 1000 ∧ z.length ≤ 1000 ∧ ∀ r : Str, tl r = (List.replicate k.toNat (tl z)).flatten → Q (.str r) H
theorem op_repS : OpR X (binaryOp .Mult) rRepS := by
  intro pins s σ H x y v u Q I rx ry h
  obtain ⟨z, k, rfl, rfl, k0, k1, zl, q⟩ := h
  obtain ⟨t, rfl⟩ := rx
  obtain ⟨t2, rfl⟩ := ry
  have pr : z.length * k.toNat ≤ 1000 * 1000 := Nat.mul_le_mul zl (by omega)
  refine SB.mul ⟨?_, fun h1 _ h3 => ?_, fun _ _ => ?_⟩ fun t' tk => ⟨.str (Txt.mul z k), H, I.tok _, ⟨_, rfl⟩, q _ (tl_mul z k)⟩
  · have a : ¬ k < -(2 ^ 63) := by omega
    have b : ¬ k ≥ 2 ^ 63 := by omega
    simp [a, b]
    omega
  · have e : (z.length : Int) ≤ (2 ^ 63 - 1) / k := by
      rw [Int.le_ediv_iff_mul_le (by omega)]
      have : ((z.length * k.toNat : Nat) : Int) ≤ 1000 * 1000 := by exact_mod_cast pr
      rw [Int.natCast_mul, Int.toNat_of_nonneg k0] at this
      omega
    omega
  · unfold Builtin.Str.tooLong
    rw [sizeLine_eq]
    simp
    omega
end
def CapsU (y : Str) : Prop := 1 ≤ (tl y).length ∧ (tl y).length ≤ 6 ∧ ∀ c ∈ tl y, 65 ≤ c ∧ c ≤ 90
theorem cap_symU {c : Nat} (h : 65 ≤ c ∧ c ≤ 90) : symB c = true := by
  unfold symB
  rw [decide_eq_true h.1, decide_eq_true h.2]
  rfl
/-- a drawn production -/
def DrU (z nm : Str) (e : En) : Prop := e.2.1 ∈ tl nm ∧ (tl e.2.2).length ≤ 3 ∧ ∀ d ∈ tl e.2.2, d ∈ tl z ∨ d ∈ tl nm
def spSyU : Sp := fun vs H Q _ => ∃ (t c : Addr) (n : Nat), vs = [.ref t] ∧ Tape H t c n ∧ n + 10 < 2 ^ 40 ∧ ∀ H' y, Kp t H H' → Tape H' t c (n + 10) → CapsU y → Q (.str y) H'
def spRlU (K : PySem.W.Frag) : Sp := fun vs H Q _ => ∃ (t c : Addr) (n : Nat) (z : Str) (many : Int), vs = [.ref t, .str z, .int many] ∧ Tape H t c n ∧ n + 500 < 2 ^ 40 ∧ Alph z ∧ 0 ≤ many ∧ many ≤ 12 ∧
  ∀ H' l nm es, Kp t H H' → Tape H' t c (n + 500) → H l = none → H' l = some (.lst (es.map vE)) → CapsU nm → es.length ≤ 30 → RE K H' es → (∀ e ∈ es, DrU z nm e) → Q (.ref l) H'
section
variable {P : Program} {w : World} {K : PySem.W.Frag} {mg : Str → Option Value} {base : Heap}
theorem scSyU : FnScope ["_law_tape", "_law_found", "_law_k", "_law_symbol"] ["_law_tape"] (defScope sLSymbols) := ⟨rfl, rfl, rfl, by decide +kernel, rfl, by decide +kernel, by decide +kernel⟩
theorem ok_syU (D : Df K mg "_law_symbols" sLSymbols ["_law_tape"]) (Dd : DfDraw K mg) (Dp : DfPick K mg) (mi : mg "int" = none) (B : Bl mg) : FnOk P w K mg base CX0 3 D.f D.fd ["_law_tape"] spSyU := by
  have Gp : FnOk P w K mg base CX0 2 Dp.f Dp.fd ["_law_tape", "_law_items"] (spPick K) := ok_pick Dp Dd B.len
  refine D.F.ok scSyU (fun vs H Q E h => ?_) (fun cdv A0 outer s H vs Q E hr h => ?_)
  · obtain ⟨t, c, n, rfl, _⟩ := h
    rfl
  · obtain ⟨t, c, n, rfl, T, hn, k⟩ := h
    have hr2 : Room 2 _ := hr
    refine ⟨_, PSs.nox (pss_cons (ps_set (i := 1) scSyU.nd rfl (.inl rfl) (pe_call Gp hr2 (by rfl) Dp.g Dp.F.kp Dp.b .nil pass0 (pa_cons (pv 0) (pa_cons (pe_lst (pa_cons pe_str (pa_cons pe_str (pa_cons pe_str (pa_cons pe_str (pa_cons pe_str (pa_cons pe_str (pa_cons pe_str (pa_cons pe_str pa_nil))))))))) pa_nil)))) (pss_cons (ps_for PassesOwn.never rfl (pi_range1 rfl B.range (pa_cons (pe_op op_mul pe_int (pe_callTy call_int1 (by rfl) mi (by decide +kernel) (pa_cons (pe_cmpR op_eq (pv 1) pe_str (nomark _)) pa_nil))) pa_nil)) (pg_name (i := 2) scSyU.nd rfl (.inl rfl)) (pss_cons (ps_set (i := 3) scSyU.nd rfl (.inl rfl) (pe_call Gp hr2 (by rfl) Dp.g Dp.F.kp Dp.b .nil pass0 (pa_cons (pv 0) (pa_cons pe_str pa_nil)))) (pss_one (ps_set (i := 1) scSyU.nd rfl (.inl rfl) (pe_op op_add_str (pv 1) (pe_op op_repS (pv 3) (pe_callTy call_int1 (by rfl) mi (by decide +kernel) (pa_cons (pe_cmpR op_notIn_sign (pv 3) (pv 1) rfl) pa_nil)))))))) (pss_one (ps_ret (pv 1))))), ?_⟩
    refine ⟨.ref t, rfl, by show 8 ≤ sizeLine; decide, fun L hL => ?_⟩
    have sL := same_upd (o := .lst [V.str "SABCDE", V.str "XYZUVW", V.str "QAZ", V.str "ST", V.str "S", V.str "", V.str "", V.str ""]) hL
    refine ⟨t, c, n, .ref L, rfl, T.same sL, by omega, .inl ⟨L, _, rfl, SqL.of upd_same, by simp, by show 8 < 2 ^ 30; decide, fun H1 y k1 T1 my => ?_⟩⟩
    have kL := (T.kp sL).trans k1
    obtain ⟨x, rfl, hx⟩ : ∃ x : Str, y = .str x ∧ (x = "" ∨ CapsU x) := by
      simp only [List.mem_cons, List.not_mem_nil, or_false] at my
      rcases my with rfl | rfl | rfl | rfl | rfl | rfl | rfl | rfl
      · exact ⟨_, rfl, .inr ⟨by decide, by decide, by decide +kernel⟩⟩
      · exact ⟨_, rfl, .inr ⟨by decide, by decide, by decide +kernel⟩⟩
      · exact ⟨_, rfl, .inr ⟨by decide, by decide, by decide +kernel⟩⟩
      · exact ⟨_, rfl, .inr ⟨by decide, by decide, by decide +kernel⟩⟩
      · exact ⟨_, rfl, .inr ⟨by decide, by decide, by decide +kernel⟩⟩
      · exact ⟨_, rfl, .inl rfl⟩
      · exact ⟨_, rfl, .inl rfl⟩
      · exact ⟨_, rfl, .inl rfl⟩
    clear k1 my
    dsimp only [gName, List.set]
    rcases hx with rfl | cx
    · refine ⟨_, rfl, rfl, .inr ⟨_, rfl, 6, 1, rfl, rfl, ?_, ?_⟩⟩
      · exact .inl ⟨by decide, by decide⟩
      refine ⟨_, rfl, by decide, by decide, for_range (lo := 0) (n := 6) (fun i σ G => ∃ (y : Str) (y2 y3 : Option V), σ = [some (.ref t), some (.str y), y2, y3] ∧ (tl y).length ≤ i ∧ (0 < i → 1 ≤ (tl y).length) ∧ (∀ c ∈ tl y, 65 ≤ c ∧ c ≤ 90) ∧ Kp t H G ∧ Tape G t c (n + 1 + i)) ⟨"", _, _, rfl, Nat.le_refl _, fun h => absurd h (Nat.lt_irrefl _), (fun c h => nomatch h), kL, T1⟩ ?_ ?_⟩
      · rintro i σ G hi ⟨y, y2, y3, rfl, yl, y1, yc, kG, TG⟩
        dsimp only [gName, List.set]
        refine ⟨.ref t, rfl, t, c, _, .str AZ, rfl, TG, by omega, .inr ⟨AZ, rfl, by decide, by decide, fun G2 d k2 T2 hd => ?_⟩⟩
        dsimp only [List.set]
        have d2 : 65 ≤ d ∧ d ≤ 90 := by
          have q := AZ_sym.mp hd
          unfold symB at q
          rw [Bool.and_eq_true] at q
          exact ⟨of_decide_eq_true q.1, of_decide_eq_true q.2⟩
        have yz : y.length = (tl y).length := (Array.length_toList).symm
        have kk := kG.trans k2
        refine ⟨.str y, rfl, .str ⟨#[d]⟩, rfl, .str ⟨#[d]⟩, rfl, .str y, rfl, d, y, rfl, rfl, .inr ⟨_, rfl, ⟨#[d]⟩, _, rfl, rfl, ?_, ?_, ?_, fun r hr => ?_⟩⟩
        · split <;> omega
        · split <;> omega
        · show 1 ≤ 1000
          decide
        have rz : r.length = (tl r).length := (Array.length_toList).symm
        have tr : tl r = if d ∈ tl y then [] else [d] := by
          rw [hr]
          by_cases q : d ∈ tl y
          · rw [if_pos q, decide_eq_true (p := d ∈ y.cps.toList) q]
            rfl
          · rw [if_neg q, decide_eq_false (p := d ∈ y.cps.toList) q]
            rfl
        have trl : (tl r).length ≤ 1 := by
          rw [tr]
          split
          · exact Nat.zero_le _
          · exact Nat.le_refl _
        refine ⟨y, r, rfl, rfl, by rw [sizeLine_eq]; omega, _, _, _, rfl, ?_, fun _ => ?_, fun c hc => ?_, kk, T2.mono (by omega)⟩
        · rw [tl_appG, List.length_append]
          omega
        · rw [tl_appG, List.length_append, tr]
          by_cases q : d ∈ tl y
          · have := List.length_pos_of_mem q
            omega
          · rw [if_neg q]
            show 1 ≤ _ + 1
            omega
        · rw [tl_appG] at hc
          rcases List.mem_append.mp hc with q | q
          · exact yc c q
          · rw [tr] at q
            split at q
            · cases q
            · rw [List.mem_singleton.mp q]
              exact d2
      · rintro σ G ⟨y, y2, y3, rfl, yl, y1, yc, kG, TG⟩
        exact ⟨.str y, rfl, k _ _ kG (TG.mono (by omega)) ⟨y1 (by decide), yl, yc⟩⟩
    · have nx : x ≠ "" := fun e => by
        rw [e] at cx
        exact absurd cx.1 (by decide)
      refine ⟨_, rfl, rfl, .inr ⟨_, rfl, 6, 0, rfl, ?_, ?_, ?_⟩⟩
      · rw [decide_eq_false (fun e => nx (V.str.inj e))]
        rfl
      · exact .inl ⟨by decide, by decide⟩
      refine ⟨_, rfl, by decide, by decide, for_range (lo := 0) (n := 0) (fun i σ G => ∃ (y2 y3 : Option V), σ = [some (.ref t), some (.str x), y2, y3] ∧ Kp t H G ∧ Tape G t c (n + 1)) ⟨_, _, rfl, kL, T1⟩ (fun i σ G hi => absurd hi (Nat.not_lt_zero _)) ?_⟩
      rintro σ G ⟨y2, y3, rfl, kG, TG⟩
      exact ⟨.str x, rfl, k _ _ kG (TG.mono (by omega)) cx⟩
theorem scRlU : FnScope ["_law_tape", "_law_alphabet_here", "_law_many", "_law_names", "_law_found", "_law_k", "_law_items", "_law_place"] ["_law_tape", "_law_alphabet_here", "_law_many"] (defScope sLRules) := ⟨rfl, rfl, rfl, by decide +kernel, rfl, by decide +kernel, by decide +kernel⟩
theorem ok_rlU (D : Df K mg "_law_rules" sLRules ["_law_tape", "_law_alphabet_here", "_law_many"]) (Ds0 : Df K mg "_law_symbols" sLSymbols ["_law_tape"]) (Dd : DfDraw K mg) (Dp : DfPick K mg) (mi : mg "int" = none) (B : Bl mg) : FnOk P w K mg base CX0 4 D.f D.fd ["_law_tape", "_law_alphabet_here", "_law_many"] (spRlU K) := by
  have Gd : FnOk P w K mg base CX0 1 Dd.f Dd.fd ["_law_tape", "_law_many"] spDraw := ok_draw Dd B.len
  have Gp : FnOk P w K mg base CX0 2 Dp.f Dp.fd ["_law_tape", "_law_items"] (spPick K) := ok_pick Dp Dd B.len
  have Gs : FnOk P w K mg base CX0 3 Ds0.f Ds0.fd ["_law_tape"] spSyU := ok_syU Ds0 Dd Dp mi B
  refine D.F.ok scRlU (fun vs H Q E h => ?_) (fun cdv A0 outer s H vs Q E hr h => ?_)
  · obtain ⟨t, c, n, z, many, rfl, _⟩ := h
    rfl
  · obtain ⟨t, c, n, z, many, rfl, T, hn, al, m0, m12, kk⟩ := h
    have hr1 : Room 1 _ := hr.mono (by decide)
    have hr2 : Room 2 _ := hr.mono (by decide)
    have hr3 : Room 3 _ := hr
    have z1 := al.2.1
    have z3 := al.2.2.1
    have zz : z.length = (tl z).length := (Array.length_toList).symm
    refine ⟨_, PSs.nox (pss_cons (ps_par (i := 3) (j := 4) rfl scRlU.nd rfl rfl (by decide) rfl rfl (pa_cons (pe_call Gs hr3 (by rfl) Ds0.g Ds0.F.kp Ds0.b .nil pass0 (pa_cons (pv 0) pa_nil)) (pa_cons (pe_lst pa_nil) pa_nil)) (by rfl)) (pss_cons (ps_for PassesOwn.never rfl (pi_range1 rfl B.range (pa_cons (pe_call Gd hr1 (by rfl) Dd.g Dd.F.kp Dd.b .nil pass0 (pa_cons (pv 0) (pa_cons (pe_op op_add (pv 2) pe_int) pa_nil))) pa_nil)) (pg_name (i := 5) scRlU.nd rfl (.inl rfl)) (pss_cons (ps_set (i := 6) scRlU.nd rfl (.inl rfl) pe_str) (C8.pss_cut (ps_for PassesOwn.never rfl (pi_range1 rfl B.range (pa_cons (pe_call Gd hr1 (by rfl) Dd.g Dd.F.kp Dd.b .nil pass0 (pa_cons (pv 0) (pa_cons pe_int pa_nil))) pa_nil)) (pg_name (i := 7) scRlU.nd rfl (.inl rfl)) (pss_one (ps_set (i := 6) scRlU.nd rfl (.inl rfl) (pe_op op_add_str (pv 6) (pe_call Gp hr2 (by rfl) Dp.g Dp.F.kp Dp.b .nil pass0 (pa_cons (pv 0) (pa_cons (pe_call Gp hr2 (by rfl) Dp.g Dp.F.kp Dp.b .nil pass0 (pa_cons (pv 0) (pa_cons (pe_lst (pa_cons (pv 1) (pa_cons (pv 1) (pa_cons (pv 3) pa_nil)))) pa_nil))) pa_nil))))))) (pss_cons (ps_expr (pe_bm PySem.F.plainAttrs_list PySem.F.slot_list_append PySem.F.type_list_append mt_append (pv 4) (pa_cons (pe_tup (pa_cons (pe_call Gp hr2 (by rfl) Dp.g Dp.F.kp Dp.b .nil pass0 (pa_cons (pv 0) (pa_cons (pv 3) pa_nil))) (pa_cons (pv 6) pa_nil))) pa_nil))) (pss_one (ps_if (pt_cmpR op_eq (pe_call Gd hr1 (by rfl) Dd.g Dd.F.kp Dd.b .nil pass0 (pa_cons (pv 0) (pa_cons pe_int pa_nil))) pe_int (nomark _)) (pss_one (ps_expr (pe_bm PySem.F.plainAttrs_list PySem.F.slot_list_append PySem.F.type_list_append mt_append (pv 4) (pa_cons (pe_call Gp hr2 (by rfl) Dp.g Dp.F.kp Dp.b .nil pass0 (pa_cons (pv 0) (pa_cons (pv 4) pa_nil))) pa_nil)))) pss_nil)))))) (pss_one (ps_ret (pv 4))))), ?_⟩
    refine ⟨.ref t, rfl, t, c, n, rfl, T, by omega, fun H1 nm k1 T1 cp => ?_⟩
    have nmz : nm.length = (tl nm).length := (Array.length_toList).symm
    have n1 := cp.1
    have n6 := cp.2.1
    refine ⟨by show 0 ≤ sizeLine; decide, fun W hW => ?_⟩
    have W1 := T1.ne1 hW
    have W2 := T1.ne2 hW
    have hW0 := k1.gone hW
    have sW := same_upd (o := .lst []) hW
    have k1 := k1.trans (T1.kp sW)
    have T2 := T1.same sW
    have gW : (upd H1 W (.lst [])) W = some (.lst []) := upd_same
    generalize upd H1 W (.lst []) = H2 at sW T2 k1 gW ⊢
    refine ⟨_, _, rfl, ?_⟩
    dsimp only [List.set]
    refine ⟨.ref t, rfl, .int many, rfl, many, 1, rfl, rfl, t, c, many + 1, _, rfl, T2, by omega, by omega, by omega, fun H3 r k3 T3 r0 r1 => ?_⟩
    have gW3 := k3.at gW (fun _ q => by cases q)
    refine ⟨r, rfl, by omega, by omega, for_range (lo := 0) (n := r.toNat) (fun i σ G => ∃ (y5 y6 y7 : Option V) (es : List En), σ = [some (.ref t), some (.str z), some (.int many), some (.str nm), some (.ref W), y5, y6, y7] ∧ G W = some (.lst (es.map vE)) ∧ es.length ≤ 2 * i ∧ RE K G es ∧ (∀ e ∈ es, DrU z nm e) ∧ Kp t H G ∧ Tape G t c (n + 11 + 12 * i)) ⟨_, _, _, [], rfl, gW3, Nat.le_refl _, (fun e h => nomatch h), (fun e h => nomatch h), k1.trans k3, T3⟩ ?_ ?_⟩
    · rintro i σ G hi ⟨y5, y6, y7, es, rfl, gW, el, re, dr, kG, TG⟩
      dsimp only [gName, List.set]
      refine ⟨fun σ G => ∃ (y : Str) (y7 : Option V), σ = [some (.ref t), some (.str z), some (.int many), some (.str nm), some (.ref W), some (.int (0 + (i : Int))), some (.str y), y7] ∧ (tl y).length ≤ 3 ∧ (∀ d ∈ tl y, d ∈ tl z ∨ d ∈ tl nm) ∧ G W = some (.lst (es.map vE)) ∧ RE K G es ∧ Kp t H G ∧ Tape G t c (n + 11 + 12 * i + 7), ?_, ?_⟩
      · refine ⟨.ref t, rfl, t, c, 4, _, rfl, TG, by omega, by decide, by decide, fun G1 q k4 T4 q0 q1 => ?_⟩
        have gW4 := k4.at gW (fun _ q => by cases q)
        refine ⟨q, rfl, by omega, by omega, for_range (lo := 0) (n := q.toNat) (fun j σ F => ∃ (y : Str) (y7 : Option V), σ = [some (.ref t), some (.str z), some (.int many), some (.str nm), some (.ref W), some (.int (0 + (i : Int))), some (.str y), y7] ∧ (tl y).length ≤ j ∧ (∀ d ∈ tl y, d ∈ tl z ∨ d ∈ tl nm) ∧ F W = some (.lst (es.map vE)) ∧ RE K F es ∧ Kp t H F ∧ Tape F t c (n + 11 + 12 * i + 1 + 2 * j)) ⟨"", _, rfl, Nat.le_refl _, (fun d h => nomatch h), gW4, re.kp k4, kG.trans k4, T4⟩ ?_ ?_⟩
        · rintro j σ F hj ⟨y, y7, rfl, yl, ym, gW, re, kF, TF⟩
          dsimp only [gName, List.set]
          have yz : y.length = (tl y).length := (Array.length_toList).symm
          refine ⟨.str y, rfl, .ref t, rfl, .ref t, rfl, .str z, rfl, .str z, rfl, .str nm, rfl, by show 3 ≤ sizeLine; decide, fun L hL => ?_⟩
          have sL := same_upd (o := .lst [V.str z, V.str z, V.str nm]) hL
          refine ⟨t, c, _, .ref L, rfl, TF.same sL, by omega, .inl ⟨L, _, rfl, SqL.of upd_same, by simp, by show 3 < 2 ^ 30; decide, fun F2 x2 k2 T2 mx => ?_⟩⟩
          obtain ⟨u, rfl, u0, ul, um⟩ : ∃ u : Str, x2 = .str u ∧ (tl u).length ≠ 0 ∧ (tl u).length ≤ 100 ∧ ∀ d ∈ tl u, d ∈ tl z ∨ d ∈ tl nm := by
            simp only [List.mem_cons, List.not_mem_nil, or_false] at mx
            rcases mx with h | h | h
            · exact ⟨z, h, by omega, by omega, fun d hd => .inl hd⟩
            · exact ⟨z, h, by omega, by omega, fun d hd => .inl hd⟩
            · exact ⟨nm, h, by omega, by omega, fun d hd => .inr hd⟩
          have uz : u.length = (tl u).length := (Array.length_toList).symm
          refine ⟨t, c, _, .str u, rfl, T2, by omega, .inr ⟨u, rfl, by omega, by omega, fun F3 d k3 T3 hd => ?_⟩⟩
          have e1 : tl (y ++ (⟨#[d]⟩ : Str)) = tl y ++ [d] := tl_appG _ _
          have kk2 := ((TF.kp sL).trans k2).trans k3
          refine ⟨y, ⟨#[d]⟩, rfl, rfl, by rw [yz, sizeLine_eq]; show _ + 1 ≤ _; omega, _, _, rfl, by rw [e1, List.length_append]; show _ + 1 ≤ j + 1; omega, fun q hq => ?_, kk2.at gW (fun _ q => by cases q), re.kp kk2, kF.trans kk2, T3.mono (by omega)⟩
          rw [e1] at hq
          rcases List.mem_append.mp hq with h | h
          · exact ym q h
          · rw [List.mem_singleton.mp h]
            exact um d hd
        · rintro σ F ⟨y, y7, rfl, yl, ym, gW, re, kF, TF⟩
          exact ⟨y, y7, rfl, by omega, ym, gW, re, kF, TF.mono (by omega)⟩
      · clear gW re kG TG
        rintro σ G1 ⟨y, y7, rfl, yl, ym, gW, re, kG, TG⟩
        refine ⟨.ref W, rfl, .inl ⟨rfl, _, SqL.of gW⟩, .ref t, rfl, .str nm, rfl, t, c, _, .str nm, rfl, TG, by omega, .inr ⟨nm, rfl, by omega, by omega, fun G2 d k2 T2 hd => ?_⟩⟩
        have gW2 := k2.at gW (fun _ q => by cases q)
        have re2 := re.kp k2
        refine ⟨_, rfl, by show 2 ≤ sizeLine; decide, fun A hA => ?_⟩
        have sA := same_upd (o := .tup [V.str ⟨#[d]⟩, V.str y]) hA
        have gW3 := sA _ _ gW2
        have re3 := re2.same sA
        have T3 := T2.same sA
        have k3 := (kG.trans k2).trans (T2.kp sA)
        have nAW : A ≠ W := fun e => by
          rw [e, gW2] at hA
          cases hA
        have gA : (upd G2 A (.tup [V.str ⟨#[d]⟩, V.str y])) A = some (.tup [V.str ⟨#[d]⟩, V.str y]) := upd_same
        generalize upd G2 A (.tup [V.str ⟨#[d]⟩, V.str y]) = G3 at gW3 re3 T3 k3 gA ⊢
        refine ⟨W, _, _, rfl, rfl, gW3, by rw [List.length_map, sizeLine_eq]; omega, ?_⟩
        have gW4 : (upd G3 W (.lst (es.map vE ++ [V.ref A]))) W = some (.lst ((es ++ [((A, d, y) : En)]).map vE)) := by
          rw [List.map_append]
          exact upd_same
        have re4 : RE K (upd G3 W (.lst (es.map vE ++ [V.ref A]))) (es ++ [((A, d, y) : En)]) := fun e he => by
          rcases List.mem_append.mp he with h | h
          · exact put_tupG gW3 _ _ (re3 e h)
          · rw [List.mem_singleton.mp h]
            exact SqT.of ((upd_ne nAW).trans gA)
        have dr4 : ∀ e ∈ es ++ [((A, d, y) : En)], DrU z nm e := fun e he => by
          rcases List.mem_append.mp he with h | h
          · exact dr e h
          · rw [List.mem_singleton.mp h]
            exact ⟨hd, yl, ym⟩
        have k4 := k3.put (o := .lst (es.map vE ++ [V.ref A])) hW0 W1
        have T4 := T3.upd (o := .lst (es.map vE ++ [V.ref A])) W1 W2
        have el4 : (es ++ [((A, d, y) : En)]).length ≤ 2 * i + 1 := by
          rw [List.length_append]
          show es.length + 1 ≤ _
          omega
        have ep4 : 0 < (es ++ [((A, d, y) : En)]).length := by
          rw [List.length_append]
          show 0 < _ + 1
          omega
        generalize upd G3 W (.lst (es.map vE ++ [V.ref A])) = G4 at gW4 re4 k4 T4 ⊢
        generalize es ++ [((A, d, y) : En)] = es4 at gW4 re4 dr4 el4 ep4 ⊢
        refine ⟨.ref t, rfl, t, c, 9, _, rfl, T4, by omega, by decide, by decide, fun G5 r5 k5 T5 _ _ => ?_⟩
        have gW5 := k5.at gW4 (fun _ q => by cases q)
        have re5 := re4.kp k5
        have k6 := k4.trans k5
        refine ⟨rfl, _, rfl, ite2 (fun _ => ?_) (fun _ => ⟨_, _, _, es4, rfl, gW5, by omega, re5, dr4, k6, T5.mono (by omega)⟩)⟩
        refine ⟨.ref W, rfl, .inl ⟨rfl, _, SqL.of gW5⟩, .ref t, rfl, .ref W, rfl, t, c, _, .ref W, rfl, T5, by omega, .inl ⟨W, _, rfl, SqL.of gW5, fun e => ?_, by rw [List.length_map]; omega, fun G6 v k7 T6 mv => ?_⟩⟩
        · have := congrArg List.length e
          rw [List.length_map] at this
          exact absurd this (by show ¬ _ = 0; omega)
        obtain ⟨e0, he0, rfl⟩ := List.mem_map.mp mv
        have gW6 := k7.at gW5 (fun _ q => by cases q)
        have re6 := re5.kp k7
        refine ⟨W, _, _, rfl, rfl, gW6, by rw [List.length_map, sizeLine_eq]; omega, _, _, _, es4 ++ [e0], rfl, ?_, ?_, fun e he => ?_, fun e he => ?_, (k6.trans k7).put hW0 W1, (T6.upd W1 W2).mono (by omega)⟩
        · rw [upd_same, List.map_append]
          rfl
        · rw [List.length_append]
          show _ + 1 ≤ _
          omega
        · rcases List.mem_append.mp he with h | h
          · exact put_tupG gW6 _ _ (re6 e h)
          · rw [List.mem_singleton.mp h]
            exact put_tupG gW6 _ _ (re6 e0 he0)
        · rcases List.mem_append.mp he with h | h
          · exact dr4 e h
          · rw [List.mem_singleton.mp h]
            exact dr4 e0 he0
    · rintro σ G ⟨y5, y6, y7, es, rfl, gW, el, re, dr, kG, TG⟩
      exact ⟨.ref W, rfl, kk _ W nm es kG (TG.mono (by omega)) hW0 gW cp (by omega) re dr⟩
end
end DW
/-! k69: grammars drawn -/
namespace DW
open PySem PySem.Spec PyProof.Rows L2 TL
set_option autoImplicit false
theorem cut_takeN (xs : List V) (k : Nat) : cutV xs none (some (k : Int)) = xs.take k := by
  unfold cutV
  rw [HT.sIx_none, HT.sIx_nat, List.drop_zero, Nat.sub_zero]
  by_cases c : k ≤ xs.length
  · rw [Nat.min_eq_left c]
  · rw [Nat.min_eq_right (by omega), List.take_length, List.take_of_length_le (by omega)]
def spMdU (K : PySem.W.Frag) : Sp := fun vs H Q _ => ∃ (t c : Addr) (n : Nat) (z : Str) (many : Int), vs = [.ref t, .str z, .int many] ∧ Tape H t c n ∧ n + 20000 < 2 ^ 40 ∧ Alph z ∧ 0 ≤ many ∧ many ≤ 12 ∧
  ∀ H' l nm es, Kp t H H' → Tape H' t c (n + 20000) → H l = none → H' l = some (.lst (es.map vE)) → CapsU nm → es.length ≤ 16 → RE K H' es → (∀ e ∈ es, DrU z nm e) → Q (.ref l) H'
section
variable {P : Program} {w : World} {K : PySem.W.Frag} {mg : Str → Option Value} {base : Heap}
theorem scMdU : FnScope ["_law_tape", "_law_alphabet_here", "_law_many", "_law_rules_here", "_law_strewn", "_law_symbol", "_law_rule", "_law_items"] ["_law_tape", "_law_alphabet_here", "_law_many"] (defScope sLMade) := ⟨rfl, rfl, rfl, by decide +kernel, rfl, by decide +kernel, by decide +kernel⟩
theorem ok_mdU (D : Df K mg "_law_made" sLMade ["_law_tape", "_law_alphabet_here", "_law_many"]) (Dr : Df K mg "_law_rules" sLRules ["_law_tape", "_law_alphabet_here", "_law_many"]) (Ds0 : Df K mg "_law_symbols" sLSymbols ["_law_tape"]) (Dw : Df K mg "_law_word" sWord ["_law_tape", "_law_alphabet_here", "_law_longest"]) (Dd : DfDraw K mg) (Dp : DfPick K mg) (mi : mg "int" = none) (B : Bl mg) : FnOk P w K mg base CX0 5 D.f D.fd ["_law_tape", "_law_alphabet_here", "_law_many"] (spMdU K) := by
  have Gd : FnOk P w K mg base CX0 1 Dd.f Dd.fd ["_law_tape", "_law_many"] spDraw := ok_draw Dd B.len
  have Gr : FnOk P w K mg base CX0 4 Dr.f Dr.fd ["_law_tape", "_law_alphabet_here", "_law_many"] (spRlU K) := ok_rlU Dr Ds0 Dd Dp mi B
  have Gw : FnOk P w K mg base CX0 3 Dw.f Dw.fd ["_law_tape", "_law_alphabet_here", "_law_longest"] spWord := ok_word Dw Dd Dp B
  refine D.F.ok scMdU (fun vs H Q E h => ?_) (fun cdv A0 outer s H vs Q E hr h => ?_)
  · obtain ⟨t, c, n, z, many, rfl, _⟩ := h
    rfl
  · obtain ⟨t, c, n, z, many, rfl, T, hn, al, m0, m12, kk⟩ := h
    have hr1 : Room 1 _ := hr.mono (by decide)
    have hr3 : Room 3 _ := hr.mono (by decide)
    have hr4 : Room 4 _ := hr
    refine ⟨_, PSs.nox (pss_cons (ps_par (i := 3) (j := 4) rfl scMdU.nd rfl rfl (by decide) rfl rfl (pa_cons (pe_call Gr hr4 (by rfl) Dr.g Dr.F.kp Dr.b .nil pass0 (pa_cons (pv 0) (pa_cons (pv 1) (pa_cons (pv 2) pa_nil)))) (pa_cons (pe_lst pa_nil) pa_nil)) (by rfl)) (C8.pss_cut (ps_for PassesOwn.never rfl (pi_list (pe_callB (TX.cr_sortTx rfl) (by rfl) B.sorted (by decide +kernel) (pa_cons (pe_callTy (TX.cr_setL rfl) (by rfl) B.set (by decide +kernel) (pa_cons (pe_lc (own := [("_law_symbol", 5), ("_law_items", 7)]) (g := gTup K 2 (gCons (gName 5) (gCons (gName 7) gNil))) rfl scMdU.nd (pi_list (pv 3)) (blkOk_by (N := ["_law_tape", "_law_alphabet_here", "_law_many", "_law_rules_here", "_law_strewn", "_law_symbol", "_law_rule", "_law_items"]) (sc := defScope sLMade) (by decide +kernel)) (fun _ _ _ _ _ => (pg_tup rfl (pgs_cons (pg_name (i := 5) scMdU.nd rfl (.inl rfl)) (pgs_cons (pg_name (i := 7) scMdU.nd rfl (.inl rfl)) pgs_nil)))) (fun _ _ _ _ _ => pts_nil) (fun _ _ _ _ _ => (pv 5))) pa_nil)) pa_nil))) (pg_name (i := 5) scMdU.nd rfl (.inl rfl)) (pss_one (ps_if (pt_cmpR op_gt (pe_call Gd hr1 (by rfl) Dd.g Dd.F.kp Dd.b .nil pass0 (pa_cons (pv 0) (pa_cons pe_int pa_nil))) pe_int (nomark _)) (pss_one (ps_expr (pe_bm PySem.F.plainAttrs_list PySem.F.slot_list_append PySem.F.type_list_append mt_append (pv 3) (pa_cons (pe_tup (pa_cons (pv 5) (pa_cons (pe_call Gw hr3 (by rfl) Dw.g Dw.F.kp Dw.b .nil pass0 (pa_cons (pv 0) (pa_cons (pv 1) (pa_cons pe_int pa_nil)))) pa_nil))) pa_nil)))) pss_nil))) (pss_cons (ps_for PassesOwn.never rfl (pi_list (pe_slice sl_list (pv 3) po_none (po_some pe_int))) (pg_name (i := 6) scMdU.nd rfl (.inl rfl)) (pss_one (ps_expr (pe_bm PySem.F.plainAttrs_list PySem.F.slot_list_insert PySem.F.type_list_insert mt_insert (pv 4) (pa_cons (pe_call Gd hr1 (by rfl) Dd.g Dd.F.kp Dd.b .nil pass0 (pa_cons (pv 0) (pa_cons (pe_op op_add (pe_callB call_len_seq (by rfl) B.len PySem.boot_len (pa_cons (pv 4) pa_nil)) pe_int) pa_nil))) (pa_cons (pv 6) pa_nil)))))) (pss_one (ps_ret (pv 4)))))), ?_⟩
    refine ⟨.ref t, rfl, .str z, rfl, .int many, rfl, t, c, n, z, many, rfl, T, by omega, al, m0, m12, fun H1 W nm es k1 T1 nW gW cp el re dr => ?_⟩
    refine ⟨by show 0 ≤ sizeLine; decide, fun W2 hW2 => ?_⟩
    have nWW : W ≠ W2 := ne_of_none gW hW2
    have v1 := T1.ne1 hW2
    have v2 := T1.ne2 hW2
    have nW2 := k1.gone hW2
    have s2 := same_upd (o := .lst []) hW2
    have gW := s2 _ _ gW
    have re := re.same s2
    have k1 := k1.trans (T1.kp s2)
    have T1 := T1.same s2
    have gS : (upd H1 W2 (.lst [])) W2 = some (.lst []) := upd_same
    generalize upd H1 W2 (.lst []) = H2 at gW re k1 T1 gS ⊢
    refine ⟨_, _, rfl, ?_⟩
    dsimp only [List.set]
    refine ⟨fun σ G => ∃ (es : List En) (y5 y6 y7 : Option V), σ = [some (.ref t), some (.str z), some (.int many), some (.ref W), some (.ref W2), y5, y6, y7] ∧ es.length ≤ 60 ∧ G W = some (.lst (es.map vE)) ∧ G W2 = some (.lst []) ∧ RE K G es ∧ (∀ e ∈ es, DrU z nm e) ∧ Kp t H G ∧ Tape G t c (n + 10000), ?_, ?_⟩
    · refine ⟨.ref W, rfl, W, rfl, ⟨_, SqL.of gW⟩, fun L hL => ?_⟩
      refine lc_it (walk_list (xs := es.map vE)) (fun j G => G L = some (.lst (((es.take j).map fun e => one e.2.1).map V.str)) ∧ Same H2 G) ⟨upd_same, same_upd hL⟩ (fun _ _ _ ⟨_, sm⟩ => SqL.of (sm _ _ gW)) ?_ ?_
      · rintro j x G1 G2 hj ⟨gL, sm⟩ ⟨rfl, hx⟩
        rw [List.length_map] at hj
        rw [List.getElem?_map, List.getElem?_eq_getElem hj] at hx
        have hx : V.ref es[j].1 = x := Option.some.inj hx
        subst hx
        have me : es[j] ∈ es := List.getElem_mem hj
        refine ⟨es[j].1, _, rfl, same_tupG sm _ _ (re _ me), rfl, _, _, rfl, _, _, rfl, rfl, rfl, yes ⟨_, rfl, _, gL, ?_, ?_, fun b o e => (upd_ne (ne_of_none e hL)).trans (sm _ _ e)⟩⟩
        · rw [List.length_map, List.length_map, List.length_take, sizeLine_eq]
          omega
        · rw [upd_same, List.take_add_one, List.getElem?_eq_getElem hj, List.map_append, List.map_append]
          rfl
      rintro G1 ⟨gL, sm⟩
      rw [List.length_map, List.take_length] at gL
      refine ⟨L, _, rfl, SqL.of gL, by rw [List.length_map]; exact Nat.lt_of_le_of_lt (show _ ≤ 31 by omega) (by decide), fun sa ls nsa nd mem len => ?_⟩
      rw [List.length_map] at len
      refine ⟨sa, ls, rfl, upd_same, by omega, fun us p pm so hp => ?_⟩
      have ul : us.length ≤ 30 := by
        have := pm.length_eq
        omega
      have um : ∀ u ∈ us, ∃ e ∈ es, u = one e.2.1 := fun u hu => by
        obtain ⟨e, he, q⟩ := List.mem_map.mp ((mem u).mp (pm.mem_iff.mp hu))
        exact ⟨e, he, q.symm⟩
      have sx := same_upd (o := TX.SetTx P w sa ls) nsa
      have sp := same_upd (o := .lst (us.map V.str)) hp
      have gWp := sp _ _ (sx _ _ (sm _ _ gW))
      have gSp := sp _ _ (sx _ _ (sm _ _ gS))
      have rep := ((re.same sm).same sx).same sp
      have Tp := ((T1.same sm).same sx).same sp
      have kp := ((k1.trans (T1.kp sm)).trans ((T1.same sm).kp sx)).trans (((T1.same sm).same sx).kp sp)
      have npW : p ≠ W := (ne_of_none (sx _ _ (sm _ _ gW)) hp).symm
      have nW1 := T.ne1 nW
      have nW2' := T.ne2 nW
      refine ⟨p, rfl, ⟨_, SqL.of upd_same⟩, for_it (walk_list (xs := us.map V.str)) (fun i σ G => ∃ (es' : List En) (y5 y6 y7 : Option V), σ = [some (.ref t), some (.str z), some (.int many), some (.ref W), some (.ref W2), y5, y6, y7] ∧ es'.length ≤ 30 + i ∧ G W = some (.lst (es'.map vE)) ∧ G W2 = some (.lst []) ∧ G p = some (.lst (us.map V.str)) ∧ RE K G es' ∧ (∀ e ∈ es', DrU z nm e) ∧ Kp t H G ∧ Tape G t c (n + 500 + 300 * i)) ⟨es, _, _, _, rfl, el, gWp, gSp, upd_same, rep, dr, kp, Tp⟩ (fun _ _ _ _ ⟨_, _, _, _, _, _, _, _, g, _⟩ => SqL.of g) ?_ ?_⟩
      · rintro i x σ F1 F2 hi ⟨es', y5, y6, y7, rfl, el', gW, gS, gp, re, dr', kG, TG⟩ ⟨rfl, hx⟩
        rw [List.length_map] at hi
        rw [List.getElem?_map, List.getElem?_eq_getElem hi] at hx
        have hx : V.str us[i] = x := Option.some.inj hx
        subst hx
        obtain ⟨e0, he0, eu⟩ := um _ (List.getElem_mem hi)
        rw [eu]
        dsimp only [gName, List.set]
        refine ⟨.ref t, rfl, t, c, 3, _, rfl, TG, by omega, by decide, by decide, fun F3 q k3 T3 q0 q1 => ?_⟩
        have gW3 := k3.at gW (fun _ q => by cases q)
        have gS3 := k3.at gS (fun _ q => by cases q)
        have gp3 := k3.at gp (fun _ q => by cases q)
        have re3 := re.kp k3
        refine ⟨_, 0, rfl, rfl, _, rfl, ite2 (fun _ => ?_) (fun _ => ⟨es', _, _, _, rfl, by omega, gW3, gS3, gp3, re3, dr', kG.trans k3, T3.mono (by omega)⟩)⟩
        refine ⟨.ref W, rfl, .inl ⟨rfl, _, SqL.of gW3⟩, _, rfl, .ref t, rfl, .str z, rfl, t, c, _, z, 2, rfl, T3, by omega, al, by decide, by decide, fun F4 u k4 T4 ov uld => ?_⟩
        have gW4 := k4.at gW3 (fun _ q => by cases q)
        refine ⟨by show 2 ≤ sizeLine; decide, fun A hA => ?_⟩
        have sA := same_upd (o := .tup [V.str (one e0.2.1), V.str u]) hA
        have gW5 := sA _ _ gW4
        have gS5 := sA _ _ (k4.at gS3 (fun _ q => by cases q))
        have gp5 := sA _ _ (k4.at gp3 (fun _ q => by cases q))
        have re5 := (re3.kp k4).same sA
        have k5 := ((kG.trans k3).trans k4).trans (T4.kp sA)
        have T5 := T4.same sA
        have nAW : A ≠ W := (ne_of_none gW4 hA).symm
        refine ⟨W, _, _, rfl, rfl, gW5, by rw [List.length_map, sizeLine_eq]; omega, es' ++ [((A, e0.2.1, u) : En)], _, _, _, rfl, ?_, ?_, (upd_ne nWW.symm).trans gS5, (upd_ne npW).trans gp5, fun e he => ?_, fun e he => ?_, k5.put nW nW1, (T5.upd nW1 nW2').mono (by omega)⟩
        · rw [List.length_append]
          show _ + 1 ≤ _
          omega
        · rw [upd_same, List.map_append]
          rfl
        · rcases List.mem_append.mp he with h | h
          · exact put_tupG gW5 _ _ (re5 e h)
          · rw [List.mem_singleton.mp h]
            exact SqT.of ((upd_ne nAW).trans upd_same)
        · rcases List.mem_append.mp he with h | h
          · exact dr' e h
          · rw [List.mem_singleton.mp h]
            exact ⟨(dr e0 he0).1, by show (tl u).length ≤ 3; omega, fun d hd => .inl (ov d hd)⟩
      · rintro σ F1 ⟨es', y5, y6, y7, rfl, el', gW, gS, gp, re, dr', kG, TG⟩
        rw [List.length_map] at el' TG
        exact ⟨es', _, _, _, rfl, by omega, gW, gS, re, dr', kG, TG.mono (by omega)⟩
    · clear gW gS re k1 T1 el dr
      rintro σ G ⟨es, y5, y6, y7, rfl, el, gW, gS, re, dr, kG, TG⟩
      unfold tNoPart
      refine ⟨.ref W, rfl, 16, rfl, W, _, rfl, SqL.of gW, fun V1 hV1 => ?_⟩
      rw [show (16 : Int) = ((16 : Nat) : Int) from rfl, cut_takeN, ← List.map_take]
      have sV := same_upd (o := .lst ((es.take 16).map vE)) hV1
      have gV : (upd G V1 (.lst ((es.take 16).map vE))) V1 = some (.lst ((es.take 16).map vE)) := upd_same
      have nV : V1 ≠ W2 := (ne_of_none gS hV1).symm
      have gS := sV _ _ gS
      have re := re.same sV
      have kG := kG.trans (TG.kp sV)
      have TG := TG.same sV
      have e16 : (es.take 16).length ≤ 16 := by rw [List.length_take]; omega
      have esub : ∀ e ∈ es.take 16, e ∈ es := fun e he => List.mem_of_mem_take he
      generalize upd G V1 (.lst ((es.take 16).map vE)) = G1 at gV gS re kG TG ⊢
      generalize es.take 16 = ts at gV e16 esub ⊢
      refine ⟨V1, rfl, ⟨_, SqL.of gV⟩, for_it (walk_list (xs := ts.map vE)) (fun i σ G => ∃ (fs : List En) (y5 y6 y7 : Option V), σ = [some (.ref t), some (.str z), some (.int many), some (.ref W), some (.ref W2), y5, y6, y7] ∧ G W2 = some (.lst (fs.map vE)) ∧ fs.length = i ∧ (∀ e ∈ fs, e ∈ es) ∧ G V1 = some (.lst (ts.map vE)) ∧ RE K G es ∧ Kp t H G ∧ Tape G t c (n + 10000 + i)) ⟨[], _, _, _, rfl, gS, rfl, (fun e h => nomatch h), gV, re, kG, TG⟩ (fun _ _ _ _ ⟨_, _, _, _, _, _, _, _, g, _⟩ => SqL.of g) ?_ ?_⟩
      · rintro i x σ F1 F2 hi ⟨fs, y5, y6, y7, rfl, gS, fl, fsub, gV, re, kG, TG⟩ ⟨rfl, hx⟩
        rw [List.length_map] at hi
        rw [List.getElem?_map, List.getElem?_eq_getElem hi] at hx
        have hx : vE ts[i] = x := Option.some.inj hx
        subst hx
        dsimp only [gName, List.set]
        refine ⟨.ref W2, rfl, .inl ⟨rfl, _, SqL.of gS⟩, .ref t, rfl, .ref W2, rfl, W2, _, rfl, .inl (SqL.of gS), _, 1, rfl, rfl, t, c, _, _, rfl, TG, by omega, by rw [List.length_map]; omega, by rw [List.length_map]; omega, fun F3 q k3 T3 q0 q1 => ?_⟩
        rw [List.length_map] at q1
        have gS3 := k3.at gS (fun _ q => by cases q)
        have gV3 := k3.at gV (fun _ q => by cases q)
        have re3 := re.kp k3
        refine ⟨_, rfl, W2, _, q, vE ts[i], rfl, rfl, gS3, by rw [List.length_map, sizeLine_eq]; omega, q0, by omega, fs.take q.toNat ++ [ts[i]] ++ fs.drop q.toNat, _, _, _, rfl, ?_, ?_, fun e he => ?_, (upd_ne nV).trans gV3, re3.put gS3, (kG.trans k3).put nW2 v1, (T3.upd v1 v2).mono (by omega)⟩
        · rw [upd_same, List.map_append, List.map_append, List.map_take, List.map_drop]
          rfl
        · rw [List.length_append, List.length_append, List.length_take, List.length_drop, List.length_singleton]
          omega
        · rcases List.mem_append.mp he with h | h
          · rcases List.mem_append.mp h with h | h
            · exact fsub e (List.mem_of_mem_take h)
            · rw [List.mem_singleton.mp h]
              exact esub _ (List.getElem_mem hi)
          · exact fsub e (List.mem_of_mem_drop h)
      · rintro σ F1 ⟨fs, y5, y6, y7, rfl, gS, fl, fsub, gV, re, kG, TG⟩
        rw [List.length_map] at fl TG
        exact ⟨.ref W2, rfl, kk _ W2 nm fs kG (TG.mono (by omega)) nW2 gS cp (by omega) (re.sub fsub) fun e he => dr e (fsub e he)⟩
end
end DW
/-! symbols that use each other: what is reached, components, their order, their kinds -/
namespace DW
open PySem PySem.Spec PyProof.Rows L2 TL
set_option autoImplicit false
/-- one or more steps -/
inductive Rc (R : Nat → Nat → Prop) : Nat → Nat → Prop
  | one {a b : Nat} : R a b → Rc R a b
  | step {a b c : Nat} : Rc R a b → R b c → Rc R a c
theorem Rc.trans {R : Nat → Nat → Prop} {a b : Nat} (h : Rc R a b) : ∀ {c : Nat}, Rc R b c → Rc R a c := fun {c} k => by
  induction k with
  | one r => exact .step h r
  | step _ r ih => exact .step ih r
theorem Rc.front {R : Nat → Nat → Prop} {a c : Nat} (h : Rc R a c) : ∃ b, R a b ∧ (b = c ∨ Rc R b c) := by
  induction h with
  | one r => exact ⟨_, r, .inl rfl⟩
  | step _ r ih =>
    obtain ⟨b, r1, h⟩ := ih
    refine ⟨b, r1, .inr ?_⟩
    rcases h with rfl | h
    · exact .one r
    · exact .step h r
theorem Rc.last {R : Nat → Nat → Prop} {a c : Nat} (h : Rc R a c) : ∃ b, R b c := by
  cases h with
  | one r => exact ⟨_, r⟩
  | step _ r => exact ⟨_, r⟩
theorem Rc.first {R : Nat → Nat → Prop} {a c : Nat} (h : Rc R a c) : ∃ b, R a b := by
  obtain ⟨b, r, _⟩ := h.front
  exact ⟨b, r⟩
theorem Rc.closed {R : Nat → Nat → Prop} {a : Nat} {P : Nat → Prop} (h0 : ∀ b, R a b → P b) (h1 : ∀ x y, P x → R x y → P y) : ∀ {c : Nat}, Rc R a c → P c := fun {c} k => by
  induction k with
  | one r => exact h0 _ r
  | step _ r ih => exact h1 _ _ ih r
/-! ### lists of numbers in their order -/
open Classical in
noncomputable def asc (p : Nat → Prop) : List Nat := (List.range 128).filter fun d => decide (p d)
open Classical in
theorem asc_mem {p : Nat → Prop} (h : ∀ d, p d → d < 128) {d : Nat} : d ∈ asc p ↔ p d := by
  unfold asc
  rw [List.mem_filter, List.mem_range, decide_eq_true_eq]
  exact ⟨fun h => h.2, fun q => ⟨h d q, q⟩⟩
theorem asc_pw (p : Nat → Prop) : (asc p).Pairwise (· < ·) := List.Pairwise.sublist List.filter_sublist List.pairwise_lt_range
theorem asc_uniqC : ∀ a b : List Nat, a.Pairwise (· < ·) → b.Pairwise (· < ·) → (∀ x, x ∈ a ↔ x ∈ b) → a = b
  | [], [], _, _, _ => rfl
  | [], y :: b, _, _, h => nomatch (h y).mpr List.mem_cons_self
  | x :: a, [], _, _, h => nomatch (h x).mp List.mem_cons_self
  | x :: a, y :: b, pa, pb, h => by
    obtain ⟨ha, pa'⟩ := List.pairwise_cons.mp pa
    obtain ⟨hb, pb'⟩ := List.pairwise_cons.mp pb
    have e : x = y := by
      rcases List.mem_cons.mp ((h x).mp List.mem_cons_self) with q | q
      · exact q
      · rcases List.mem_cons.mp ((h y).mpr List.mem_cons_self) with p | p
        · exact p.symm
        · have := hb x q
          have := ha y p
          omega
    subst e
    rw [asc_uniqC a b pa' pb' fun v => ⟨fun m => ?_, fun m => ?_⟩]
    · rcases List.mem_cons.mp ((h v).mp (List.mem_cons_of_mem _ m)) with q | q
      · have := ha v m
        omega
      · exact q
    · rcases List.mem_cons.mp ((h v).mpr (List.mem_cons_of_mem _ m)) with q | q
      · have := hb v m
        omega
      · exact q
theorem asc_of {l : List Nat} {p : Nat → Prop} (h : ∀ d, p d → d < 128) (pw : l.Pairwise (· < ·)) (m : ∀ d, d ∈ l ↔ p d) : l = asc p :=
  asc_uniqC l (asc p) pw (asc_pw p) fun d => by rw [m, asc_mem h]
theorem pw_nd {l : List Nat} (h : l.Pairwise (· < ·)) : l.Nodup := h.imp fun q e => by rw [e] at q; exact Nat.lt_irrefl _ q
/-! ### components -/
/-- c and d are in one component -/
def Tog (R : Nat → Nat → Prop) (c d : Nat) : Prop := d = c ∨ (Rc R c d ∧ Rc R d c)
theorem Tog.symm {R : Nat → Nat → Prop} {c d : Nat} (h : Tog R c d) : Tog R d c := h.elim (fun e => .inl e.symm) fun h => .inr ⟨h.2, h.1⟩
theorem Tog.trans {R : Nat → Nat → Prop} {c d e : Nat} (h : Tog R c d) (k : Tog R d e) : Tog R c e := by
  rcases h with rfl | ⟨h1, h2⟩
  · exact k
  · rcases k with rfl | ⟨k1, k2⟩
    · exact .inr ⟨h1, h2⟩
    · exact .inr ⟨h1.trans k1, k2.trans h2⟩
noncomputable def cmp (R : Nat → Nat → Prop) (c : Nat) : List Nat := asc (Tog R c)
/-- the places of a graph are below 128 -/
def Low (R : Nat → Nat → Prop) : Prop := ∀ a b, R a b → a < 128 ∧ b < 128
theorem Low.rc {R : Nat → Nat → Prop} (l : Low R) {a b : Nat} (h : Rc R a b) : a < 128 ∧ b < 128 := by
  obtain ⟨x, r⟩ := h.first
  obtain ⟨y, q⟩ := h.last
  exact ⟨(l _ _ r).1, (l _ _ q).2⟩
theorem Low.tog {R : Nat → Nat → Prop} (l : Low R) {c : Nat} (hc : c < 128) : ∀ d, Tog R c d → d < 128 := fun d h => by
  rcases h with rfl | h
  · exact hc
  · exact (l.rc h.1).2
theorem cmp_mem {R : Nat → Nat → Prop} (l : Low R) {c d : Nat} (hc : c < 128) : d ∈ cmp R c ↔ Tog R c d := asc_mem (l.tog hc)
theorem cmp_eq {R : Nat → Nat → Prop} (l : Low R) {c d : Nat} (hc : c < 128) (hd : d < 128) : cmp R c = cmp R d ↔ Tog R c d := by
  constructor
  · intro e
    rw [← cmp_mem l hc, e, cmp_mem l hd]
    exact .inl rfl
  · intro t
    refine asc_uniqC _ _ (asc_pw _) (asc_pw _) fun x => ?_
    rw [cmp_mem l hc, cmp_mem l hd]
    exact ⟨fun h => t.symm.trans h, fun h => t.trans h⟩
theorem cmp_ne {R : Nat → Nat → Prop} (l : Low R) {c : Nat} (hc : c < 128) : cmp R c ≠ [] := fun e => by
  have : c ∈ cmp R c := (cmp_mem l hc).mpr (.inl rfl)
  rw [e] at this
  cases this
/-- the first symbol of a component -/
def hdC (K : List Nat) : Nat := K.headD 0
theorem hdC_mem {K : List Nat} (h : K ≠ []) : hdC K ∈ K := by
  cases K with
  | nil => exact absurd rfl h
  | cons a r => exact List.mem_cons_self
/-- a component of the graph over some places -/
def IsC (R : Nat → Nat → Prop) (K : List Nat) : Prop := ∃ c, c < 128 ∧ K = cmp R c
theorem IsC.ne {R : Nat → Nat → Prop} {K : List Nat} (l : Low R) (h : IsC R K) : K ≠ [] := by
  obtain ⟨c, hc, rfl⟩ := h
  exact cmp_ne l hc
theorem IsC.low {R : Nat → Nat → Prop} {K : List Nat} (l : Low R) (h : IsC R K) : ∀ c ∈ K, c < 128 := fun c m => by
  obtain ⟨c0, hc, rfl⟩ := h
  exact l.tog hc _ ((cmp_mem l hc).mp m)
theorem IsC.of {R : Nat → Nat → Prop} {K : List Nat} (l : Low R) (h : IsC R K) {c : Nat} (m : c ∈ K) : K = cmp R c := by
  obtain ⟨c0, hc, rfl⟩ := h
  have t := (cmp_mem l hc).mp m
  exact (cmp_eq l hc (l.tog hc _ t)).mpr t
theorem IsC.one {R : Nat → Nat → Prop} {K L : List Nat} (l : Low R) (h : IsC R K) (k : IsC R L) {c : Nat} (m : c ∈ K) (n : c ∈ L) : K = L := by rw [h.of l m, k.of l n]
/-- a component that uses no other one of these -/
def okC (R : Nat → Nat → Prop) (W : List (List Nat)) (K : List Nat) : Prop := ∀ L ∈ W, L ≠ K → ¬ Rc R (hdC K) (hdC L)
open Classical in
theorem ok_any {R : Nat → Nat → Prop} (l : Low R) {W : List (List Nat)} (hW : ∀ K ∈ W, IsC R K) (ne : W ≠ []) : ∃ K ∈ W, okC R W K := by
  have key : ∀ n (K : List Nat), K ∈ W → (W.filter fun L => decide (L = K ∨ Rc R (hdC K) (hdC L))).length ≤ n → ∃ K ∈ W, okC R W K := by
    intro n
    induction n with
    | zero =>
      intro K hK h
      have : K ∈ W.filter fun L => decide (L = K ∨ Rc R (hdC K) (hdC L)) := List.mem_filter.mpr ⟨hK, decide_eq_true (.inl rfl)⟩
      have := List.length_pos_of_mem this
      omega
    | succ n ih =>
      intro K hK h
      by_cases q : okC R W K
      · exact ⟨K, hK, q⟩
      · have : ∃ L ∈ W, L ≠ K ∧ Rc R (hdC K) (hdC L) := by
          by_cases z : ∃ L ∈ W, L ≠ K ∧ Rc R (hdC K) (hdC L)
          · exact z
          · exact absurd (fun L hL ne r => z ⟨L, hL, ne, r⟩) q
        obtain ⟨L, hL, nLK, r⟩ := this
        have nb : ¬ Rc R (hdC L) (hdC K) := fun r2 => by
          refine nLK ((hW L hL).one l (hW K hK) (c := hdC K) ?_ (hdC_mem ((hW K hK).ne l)))
          rw [(hW L hL).of l (hdC_mem ((hW L hL).ne l)), cmp_mem l ((hW L hL).low l _ (hdC_mem ((hW L hL).ne l)))]
          exact .inr ⟨r2, r⟩
        refine ih L hL ?_
        have sub : ∀ M ∈ W, decide (M = L ∨ Rc R (hdC L) (hdC M)) = true → decide (M = K ∨ Rc R (hdC K) (hdC M)) = true := fun M _ e => by
          refine decide_eq_true ?_
          rcases of_decide_eq_true e with rfl | e
          · exact .inr r
          · exact .inr (r.trans e)
        have lt : ∀ V : List (List Nat), (∀ M ∈ V, M ∈ W) → (V.filter fun M => decide (M = L ∨ Rc R (hdC L) (hdC M))).length + (if K ∈ V then 1 else 0) ≤ (V.filter fun M => decide (M = K ∨ Rc R (hdC K) (hdC M))).length := by
          intro V
          induction V with
          | nil => intro _; simp
          | cons M V ihV =>
            intro hV
            have h1 := ihV fun N hN => hV N (List.mem_cons_of_mem _ hN)
            have h2 := sub M (hV M List.mem_cons_self)
            rw [List.filter_cons, List.filter_cons]
            by_cases eK : M = K
            · subst eK
              have f1 : decide (M = L ∨ Rc R (hdC L) (hdC M)) = false := decide_eq_false fun z => z.elim (fun z => nLK z.symm) nb
              have f2 : decide (M = M ∨ Rc R (hdC M) (hdC M)) = true := decide_eq_true (.inl rfl)
              rw [f1, f2, if_neg (by decide), if_pos rfl, List.length_cons, if_pos List.mem_cons_self]
              split at h1 <;> omega
            · have mem : (K ∈ M :: V) ↔ K ∈ V := ⟨fun z => (List.mem_cons.mp z).elim (fun z => absurd z.symm eK) id, List.mem_cons_of_mem _⟩
              have e3 : (if K ∈ M :: V then 1 else 0) = (if K ∈ V then 1 else 0) := by
                by_cases z : K ∈ V
                · rw [if_pos z, if_pos (mem.mpr z)]
                · rw [if_neg z, if_neg (fun y => z (mem.mp y))]
              rw [e3]
              by_cases d1 : decide (M = L ∨ Rc R (hdC L) (hdC M)) = true
              · rw [if_pos d1, if_pos (h2 d1), List.length_cons, List.length_cons]
                omega
              · rw [if_neg d1]
                by_cases d2 : decide (M = K ∨ Rc R (hdC K) (hdC M)) = true
                · rw [if_pos d2, List.length_cons]
                  omega
                · rw [if_neg d2]
                  omega
        have := lt W fun _ h => h
        rw [if_pos hK] at this
        omega
  obtain ⟨K, hK⟩ := List.exists_mem_of_ne_nil W ne
  exact key _ K hK (Nat.le_refl _)
/-- the first one of these that uses no other one -/
def FirstC (R : Nat → Nat → Prop) (W : List (List Nat)) (i : Nat) (K : List Nat) : Prop := W[i]? = some K ∧ okC R W K ∧ ∀ j L, j < i → W[j]? = some L → ¬ okC R W L
theorem FirstC.uniq {R : Nat → Nat → Prop} {W : List (List Nat)} {i j : Nat} {K L : List Nat} (h : FirstC R W i K) (k : FirstC R W j L) : K = L := by
  rcases Nat.lt_trichotomy i j with q | q | q
  · exact absurd h.2.1 (k.2.2 i K q h.1)
  · subst q
    have := h.1.symm.trans k.1
    exact Option.some.inj this
  · exact absurd k.2.1 (h.2.2 j L q k.1)
/-- the components in their order -/
inductive OrdC (R : Nat → Nat → Prop) : List (List Nat) → List (List Nat) → Prop
  | nil : OrdC R [] []
  | cons {W out : List (List Nat)} {i : Nat} {K : List Nat} : FirstC R W i K → OrdC R (W.filter fun L => !decide (L = K)) out → OrdC R W (K :: out)
theorem OrdC.uniq {R : Nat → Nat → Prop} {W a b : List (List Nat)} (h : OrdC R W a) : OrdC R W b → a = b := by
  induction h generalizing b with
  | nil =>
    intro k
    cases k with
    | nil => rfl
    | cons f _ => cases f.1
  | cons f _ ih =>
    intro k
    cases k with
    | nil => cases f.1
    | cons g k =>
      have e := f.uniq g
      subst e
      rw [ih k]
end DW
/-! what is reached in a graph that is a dict of lists -/
namespace DW
open PySem PySem.Spec PyProof.Rows L2 TL
set_option autoImplicit false
abbrev Ent : Type := Nat × Addr
def kvA (en : List Ent) : List (Key × V) := en.map fun p => (Sum.inr (one p.1), V.ref p.2)
def kvB (fs : List Nat) : List (Key × V) := fs.map fun x => (Sum.inr (one x), V.bl true)
theorem val_A {c : Nat} {a : Addr} : ∀ {en : List Ent}, (en.map (·.1)).Nodup → (c, a) ∈ en → valV (kvA en) (Sum.inr (one c)) = some (.ref a)
  | [], _, h => nomatch h
  | p :: en, nd, h => by
    obtain ⟨n1, n2⟩ := List.nodup_cons.mp (show (p.1 :: en.map (·.1)).Nodup from nd)
    show valV ((Sum.inr (one p.1), V.ref p.2) :: kvA en) _ = _
    rcases List.mem_cons.mp h with e | h
    · rw [valV_pos (inr_one.mpr (by rw [← e])), ← e]
    · rw [valV_neg (fun z => n1 (by rw [inr_one.mp z]; exact List.mem_map.mpr ⟨_, h, rfl⟩)), val_A n2 h]
theorem any_B {fs : List Nat} {c : Nat} : (valV (kvB fs) (Sum.inr (one c))).isSome = decide (c ∈ fs) := by
  induction fs with
  | nil => rfl
  | cons x fs ih =>
    show (valV ((Sum.inr (one x), V.bl true) :: kvB fs) _).isSome = _
    by_cases e : x = c
    · rw [valV_pos (inr_one.mpr e), e, decide_eq_true List.mem_cons_self]
      rfl
    · rw [valV_neg (fun z => e (inr_one.mp z)), ih]
      by_cases q : c ∈ fs
      · rw [decide_eq_true q, decide_eq_true (List.mem_cons_of_mem _ q)]
      · rw [decide_eq_false q, decide_eq_false (fun z => (List.mem_cons.mp z).elim (fun y => e y.symm) q)]
theorem put_B {fs : List Nat} {c : Nat} (h : c ∉ fs) : putK (kvB fs) (Sum.inr (one c)) (.bl true) = kvB (fs ++ [c]) := by
  unfold putK
  rw [valV_any, any_B, decide_eq_false h, if_neg (by decide)]
  unfold kvB
  rw [List.map_append]
  rfl
/-- a dict from places to lists of the places one step away -/
structure Tab (n : Nat) (H : Hp) (D : Addr) (en : List Ent) (R : Nat → Nat → Prop) : Prop where
  here : Rd H D (.dK (kvA en))
  nd : (en.map (·.1)).Nodup
  row : ∀ p ∈ en, ∃ l : List Nat, H p.2 = some (.lst ((l.map one).map V.str)) ∧ l.length ≤ n ∧ ∀ d, d ∈ l ↔ R p.1 d
theorem rd_same {H H' : Hp} {a : Addr} {o : HO} (s : Same H H') (h : Rd H a o) : Rd H' a o := h.elim (fun h => .inl (s _ _ h)) fun ⟨v, h⟩ => .inr ⟨v, s _ _ h⟩
theorem Tab.same {H H' : Hp} {D : Addr} {en : List Ent} {R : Nat → Nat → Prop} {n : Nat} (t : Tab n H D en R) (s : Same H H') : Tab n H' D en R := ⟨rd_same s t.here, t.nd, fun p hp => by
  obtain ⟨l, g, r⟩ := t.row p hp
  exact ⟨l, s _ _ g, r⟩⟩
theorem Tab.get {H : Hp} {D : Addr} {en : List Ent} {R : Nat → Nat → Prop} {n : Nat} (t : Tab n H D en R) {c : Nat} (h : c ∈ en.map (·.1)) : ∃ (a : Addr) (l : List Nat), valV (kvA en) (Sum.inr (one c)) = some (.ref a) ∧ H a = some (.lst ((l.map one).map V.str)) ∧ l.length ≤ n ∧ ∀ d, d ∈ l ↔ R c d := by
  obtain ⟨p, hp, rfl⟩ := List.mem_map.mp h
  obtain ⟨l, g, k, r⟩ := t.row p hp
  exact ⟨p.2, l, val_A t.nd (show (p.1, p.2) ∈ en from hp), g, k, r⟩
theorem Tab.at {H : Hp} {D : Addr} {en : List Ent} {R : Nat → Nat → Prop} {c : Nat} {a : Addr} {n : Nat} (t : Tab n H D en R) (h : valV (kvA en) (Sum.inr (one c)) = some (.ref a)) : DGet H D (V.str (one c)) (some (.ref a)) := by
  exact .inl ⟨_, Sum.inr (one c), t.here, rfl, h.symm⟩
theorem syms_len {l : List Nat} (nd : l.Nodup) (h : ∀ x ∈ l, symB x = true) : l.length ≤ 26 := by
  have := nodup_lenS (l.map one) syms (nodup_onesR nd) fun y hy => by
    obtain ⟨c, hc, rfl⟩ := List.mem_map.mp hy
    exact syms_all (h c hc)
  rw [List.length_map] at this
  exact this
def spRf : Sp := fun vs H Q _ => ∃ (D : Addr) (c : Nat) (en : List Ent) (R : Nat → Nat → Prop) (n : Nat), vs = [.ref D, .str (one c)] ∧ Tab n H D en R ∧ c ∈ en.map (·.1) ∧ (∀ a b, R a b → b ∈ en.map (·.1) ∧ symB b = true) ∧
  ∀ H' q (l : List Nat), Same H H' → H q = none → H' q = some (.lst ((l.map one).map V.str)) → l.Pairwise (· < ·) → (∀ d, d ∈ l ↔ Rc R c d) → Q (.ref q) H'
section
variable {P : Program} {w : World} {K : PySem.W.Frag} {mg : Str → Option Value} {base : Heap}
theorem scRf : FnScope ["steps", "start", "found", "waiting", "place", "after"] ["steps", "start"] (defScope sReachedFrom) := ⟨rfl, rfl, rfl, by decide +kernel, rfl, by decide +kernel, by decide +kernel⟩
theorem ok_rf (D : Df K mg "reached_from" sReachedFrom ["steps", "start"]) (mso : mg "sorted" = none) : FnOk P w K mg base CX0 1 D.f D.fd ["steps", "start"] spRf := by
  refine D.F.ok scRf (fun vs H Q E h => ?_) (fun cdv A outer s H vs Q E hr h => ?_)
  · obtain ⟨D0, c, en, R, n, rfl, _⟩ := h
    rfl
  · obtain ⟨T, c, en, R, n, rfl, tab, ck, rs, k⟩ := h
    refine ⟨_, PSs.nox (pss_cons (ps_set (i := 2) scRf.nd rfl (.inl rfl) pe_dnewK) (pss_cons (ps_set (i := 3) scRf.nd rfl (.inl rfl) (pe_lst (pa_cons (pv 1) pa_nil))) (pss_cons (ps_while PassesOwn.never (pt_truth (pv 3) (by intro _; rfl)) (pss_cons (ps_set (i := 4) scRf.nd rfl (.inl rfl) (pe_bm0 PySem.F.plainAttrs_list PySem.F.slot_list_pop PySem.F.type_list_pop mt_pop (pv 3))) (pss_one (ps_for PassesOwn.never rfl (pi_list (pe_dget2 (u1r hr) (pv 0) (pv 4) (pe_tup pa_nil) ⟨by rfl, by rfl, by rfl, by rfl⟩)) (pg_name (i := 5) scRf.nd rfl (.inl rfl)) (pss_one (ps_if (pt_cmp (pc_dnotin (u1r hr) (pv 5) (pv 2))) (pss_cons (ps_dput (u1r hr) (pv 2) (pv 5) pe_bl rfl) (pss_one (ps_expr (pe_bm PySem.F.plainAttrs_list PySem.F.slot_list_append PySem.F.type_list_append mt_append (pv 3) (pa_cons (pv 5) pa_nil))))) pss_nil)))))) (pss_one (ps_ret (pe_callB (call_sortedD rfl) (by rfl) mso (by decide +kernel) (pa_cons (pv 2) pa_nil))))))), ?_⟩
    refine fun F h_F => ?_
    have sF := same_upd (o := .dK []) h_F
    have gF : (upd H F (.dK [])) F = some (.dK (kvB [])) := upd_same
    generalize upd H F (.dK []) = H1 at sF gF ⊢
    refine ⟨.str (one c), rfl, by show 1 ≤ sizeLine; decide, fun W h_W => ?_⟩
    have nWF : W ≠ F := (ne_of_none gF h_W).symm
    have gF := (upd_ne (o := .lst [V.str (one c)]) nWF.symm).trans gF
    have sW := sF.trans (same_upd (o := .lst [V.str (one c)]) h_W)
    have gW : (upd H1 W (.lst [V.str (one c)])) W = some (.lst (([c].map one).map V.str)) := upd_same
    have nW : H W = none := fresh_of sF h_W
    generalize upd H1 W (.lst [V.str (one c)]) = H2 at sW gF gW ⊢
    clear sF
    dsimp only [gName, List.set]
    refine ⟨fun m σ G => ∃ (fs w : List Nat) (y4 y5 : Option V), m = 2 * (26 - fs.length) + w.length ∧ σ = [some (.ref T), some (.str (one c)), some (.ref F), some (.ref W), y4, y5] ∧ G F = some (.dK (kvB fs)) ∧ G W = some (.lst ((w.map one).map V.str)) ∧ Same H G ∧ fs.Nodup ∧ m ≤ 53 ∧ (∀ x ∈ fs, symB x = true ∧ Rc R c x) ∧ (∀ x ∈ w, x = c ∨ x ∈ fs) ∧ (∀ x, (x = c ∨ x ∈ fs) → x ∉ w → ∀ y, R x y → y ∈ fs), ⟨_, [], [c], _, _, rfl, rfl, gF, gW, sW, List.nodup_nil, (by show 2 * 26 + 1 ≤ 53; omega), fun x hx => (nomatch hx), fun x hx => .inl (List.mem_singleton.mp hx), fun x hx nx => ?_⟩, ?_⟩
    · rcases hx with rfl | hx
      · exact absurd List.mem_cons_self nx
      · cases hx
    rintro m σ G ⟨fs, w, y4, y5, hm, rfl, gF, gW, sm, nd, m53, fA, fB, fC⟩
    have f26 := syms_len nd fun x hx => (fA x hx).1
    refine ⟨.ref W, rfl, _, .inl ⟨_, SqL.of gW, rfl⟩, ?_⟩
    rcases List.eq_nil_or_concat w with rfl | ⟨w', p, rfl⟩
    · refine iteF ?_
      refine ⟨.ref F, rfl, F, _, fs.map one, rfl, .inl gF, ?_, by rw [List.length_map]; omega, fun ys q pm so hq => ?_⟩
      · unfold kvB
        rw [List.map_map, List.map_map]
        rfl
      obtain ⟨l, rfl, pw⟩ := sorted_ones ys (fun y hy => by
        obtain ⟨x, _, e⟩ := List.mem_map.mp (pm.mem_iff.mp hy)
        exact ⟨x, e.symm⟩) (pm.nodup_iff.mpr (nodup_onesR nd)) so
      have lm : ∀ x, x ∈ l ↔ x ∈ fs := fun x => by
        rw [← mem_onesR (l := l), ← mem_onesR (l := fs), pm.mem_iff]
      refine k _ q l (sm.trans (same_upd hq)) (fresh_of sm hq) upd_same pw fun d => ?_
      rw [lm]
      refine ⟨fun h => (fA d h).2, fun h => Rc.closed (P := fun x => x ∈ fs) (fun b r => fC c (.inl rfl) (fun z => nomatch z) b r) (fun x y hx r => fC x (.inr hx) (fun z => nomatch z) y r) h⟩
    · rw [List.concat_eq_append] at hm gW fB fC
      rw [List.concat_eq_append]
      refine ite2 (fun _ => ?_) (fun e => absurd (by rw [List.map_append, List.map_append]; simp) e)
      have wl : (w' ++ [p]).length = w'.length + 1 := List.length_append
      have pk : p ∈ en.map (·.1) := by
        rcases fB p (List.mem_append_right _ List.mem_cons_self) with rfl | q
        · exact ck
        · obtain ⟨b, r⟩ := (fA p q).2.last
          exact (rs _ _ r).1
      obtain ⟨la, l, va, gl, l100, lR⟩ := tab.get pk
      have nF : H F = none := h_F
      refine ⟨fun σ G => ∃ (fs w : List Nat) (y4 y5 : Option V), 2 * (26 - fs.length) + w.length < m ∧ σ = [some (.ref T), some (.str (one c)), some (.ref F), some (.ref W), y4, y5] ∧ G F = some (.dK (kvB fs)) ∧ G W = some (.lst ((w.map one).map V.str)) ∧ Same H G ∧ fs.Nodup ∧ (∀ x ∈ fs, symB x = true ∧ Rc R c x) ∧ (∀ x ∈ w, x = c ∨ x ∈ fs) ∧ (∀ x, (x = c ∨ x ∈ fs) → x ∉ w → ∀ y, R x y → y ∈ fs), ?_, ?_⟩
      · rintro σ' G' ⟨fs', w'', y4', y5', lt, e1, e2, e3, e4, e5, e6, e7, e8⟩
        exact ⟨_, lt, fs', w'', y4', y5', rfl, e1, e2, e3, e4, e5, by omega, e6, e7, e8⟩
      refine ⟨.ref W, rfl, .inl ⟨rfl, _, SqL.of gW⟩, W, _, .str (one p), rfl, rfl, gW, ?_, ?_⟩
      · rw [List.map_append, List.map_append, List.length_append]
        simp
      have gW1 : (upd G W (.lst (((w' ++ [p]).map one).map V.str).dropLast)) W = some (.lst ((w'.map one).map V.str)) := by
        rw [upd_same, List.map_append, List.map_append, List.map_cons, List.map_cons, List.map_nil, List.map_nil, List.dropLast_concat]
      have gF1 := (upd_ne (o := .lst (((w' ++ [p]).map one).map V.str).dropLast) nWF.symm).trans gF
      have sm1 : Same H (upd G W (.lst (((w' ++ [p]).map one).map V.str).dropLast)) := fun b o e => (upd_ne (ne_of_none e nW)).trans (sm b o e)
      generalize upd G W (.lst (((w' ++ [p]).map one).map V.str).dropLast) = G1 at gW1 gF1 sm1 ⊢
      dsimp only [gName, List.set]
      refine ⟨.ref T, rfl, T, rfl, .inl ⟨_, (tab.same sm1).here⟩, _, rfl, by show 0 ≤ sizeLine; decide, fun tp h_tp => ?_⟩
      have st := same_upd (o := .tup []) h_tp
      have gW2 := st _ _ gW1
      have gF2 := st _ _ gF1
      have sm2 := sm1.trans st
      generalize upd G1 tp (.tup []) = G2 at gW2 gF2 sm2 ⊢
      refine ⟨_, (tab.same sm2).at va, ?_⟩
      have wB : ∀ x ∈ w', x = c ∨ x ∈ fs := fun x hx => fB x (List.mem_append_left _ hx)
      have wC : ∀ x, (x = c ∨ x ∈ fs) → x ∉ w' → x ≠ p → ∀ y, R x y → y ∈ fs := fun x hx nx np => fC x hx fun z => (List.mem_append.mp z).elim nx fun z => np (List.mem_singleton.mp z)
      have pB : p = c ∨ p ∈ fs := fB p (List.mem_append_right _ List.mem_cons_self)
      have lt0 : 2 * (26 - fs.length) + w'.length < m := by omega
      clear fB fC gF gW hm sm1 gW1 gF1
      refine ⟨la, rfl, ⟨_, SqL.of (sm2 _ _ gl)⟩, for_it (walk_list (xs := (l.map one).map V.str)) (fun j σ G => ∃ (fs w : List Nat) (y5 : Option V), 2 * (26 - fs.length) + w.length < m ∧ σ = [some (.ref T), some (.str (one c)), some (.ref F), some (.ref W), some (.str (one p)), y5] ∧ G F = some (.dK (kvB fs)) ∧ G W = some (.lst ((w.map one).map V.str)) ∧ Same H G ∧ fs.Nodup ∧ (∀ x ∈ fs, symB x = true ∧ Rc R c x) ∧ (∀ x ∈ w, x = c ∨ x ∈ fs) ∧ (∀ x, (x = c ∨ x ∈ fs) → x ∉ w → x ≠ p → ∀ y, R x y → y ∈ fs) ∧ (p = c ∨ p ∈ fs) ∧ ∀ y ∈ l.take j, y ∈ fs) ⟨fs, w', _, lt0, rfl, gF2, gW2, sm2, nd, fA, wB, wC, pB, fun y hy => (nomatch hy)⟩ (fun _ _ _ _ ⟨_, _, _, _, _, _, _, sm, _⟩ => SqL.of (sm _ _ gl)) ?_ ?_⟩
      · rintro j x σ G3 G4 hj ⟨fs, w, y5, lt, rfl, gF, gW, sm, nd, fA, wB, wC, pB, tj⟩ ⟨rfl, hx⟩
        rw [List.length_map, List.length_map] at hj
        rw [List.getElem?_map, List.getElem?_map, List.getElem?_eq_getElem hj] at hx
        have hx : V.str (one l[j]) = x := Option.some.inj hx
        subst hx
        have f26 := syms_len nd fun x hx => (fA x hx).1
        have tk : l.take (j + 1) = l.take j ++ [l[j]] := by rw [List.take_add_one, List.getElem?_eq_getElem hj]; rfl
        have pl : R p l[j] := (lR _).mp (List.getElem_mem hj)
        have cl : Rc R c l[j] := by
          rcases pB with rfl | q
          · exact .one pl
          · exact .step (fA p q).2 pl
        dsimp only [gName, List.set]
        refine ⟨_, rfl, _, rfl, F, _, rfl, DGet.k (k := Sum.inr (one l[j])) gF, ?_⟩
        rw [any_B]
        refine ⟨_, rfl, ?_⟩
        by_cases q : l[j] ∈ fs
        · rw [decide_eq_true q]
          refine iteF ⟨fs, w, _, lt, rfl, gF, gW, sm, nd, fA, wB, wC, pB, fun y hy => ?_⟩
          rw [tk] at hy
          rcases List.mem_append.mp hy with hy | hy
          · exact tj y hy
          · rw [List.mem_singleton.mp hy]
            exact q
        · rw [decide_eq_false q]
          have fl1 : (fs ++ [l[j]]).length = fs.length + 1 := List.length_append
          have wl1 : (w ++ [l[j]]).length = w.length + 1 := List.length_append
          have nd1 : (fs ++ [l[j]]).Nodup := List.nodup_append.mpr ⟨nd, List.nodup_cons.mpr ⟨fun h => (nomatch h), List.nodup_nil⟩, fun a ha b hb e => q (by rw [← List.mem_singleton.mp hb, ← e]; exact ha)⟩
          have fA1 : ∀ x ∈ fs ++ [l[j]], symB x = true ∧ Rc R c x := fun x hx => by
            rcases List.mem_append.mp hx with hx | hx
            · exact fA x hx
            · rw [List.mem_singleton.mp hx]
              exact ⟨(rs _ _ pl).2, cl⟩
          have f261 := syms_len nd1 fun x hx => (fA1 x hx).1
          refine iteT ⟨.ref F, rfl, .str (one l[j]), rfl, F, _, rfl, DPut.k (k := Sum.inr (one l[j])) gF ?_, ?_⟩
          · unfold kvB
            rw [List.length_map, sizeLine_eq]
            omega
          rw [put_B q]
          have gW2 := (upd_ne (o := .dK (kvB (fs ++ [l[j]]))) nWF).trans gW
          have gF2 : (upd G4 F (.dK (kvB (fs ++ [l[j]])))) F = some (.dK (kvB (fs ++ [l[j]]))) := upd_same
          have sm2 : Same H (upd G4 F (.dK (kvB (fs ++ [l[j]])))) := fun b o e => (upd_ne (ne_of_none e nF)).trans (sm b o e)
          generalize upd G4 F (.dK (kvB (fs ++ [l[j]]))) = G5 at gW2 gF2 sm2 ⊢
          refine ⟨.ref W, rfl, .inl ⟨rfl, _, SqL.of gW2⟩, .str (one l[j]), rfl, W, _, _, rfl, rfl, gW2, ?_, ?_⟩
          · rw [List.length_map, List.length_map, sizeLine_eq]
            omega
          refine ⟨fs ++ [l[j]], w ++ [l[j]], _, by omega, rfl, (upd_ne nWF.symm).trans gF2, ?_, fun b o e => (upd_ne (ne_of_none e nW)).trans (sm2 b o e), nd1, fA1, fun x hx => ?_, fun x hx nx np y r => ?_, pB.imp id (List.mem_append_left _), fun y hy => ?_⟩
          · rw [upd_same, List.map_append, List.map_append]
            rfl
          · rcases List.mem_append.mp hx with hx | hx
            · exact (wB x hx).imp id (List.mem_append_left _)
            · rw [List.mem_singleton.mp hx]
              exact .inr (List.mem_append_right _ List.mem_cons_self)
          · refine List.mem_append_left _ (wC x ?_ (fun z => nx (List.mem_append_left _ z)) np y r)
            rcases hx with hx | hx
            · exact .inl hx
            · rcases List.mem_append.mp hx with hx | hx
              · exact .inr hx
              · exact absurd (List.mem_append_right _ hx) nx
          · rw [tk] at hy
            rcases List.mem_append.mp hy with hy | hy
            · exact List.mem_append_left _ (tj y hy)
            · exact List.mem_append_right _ hy
      · rintro σ G3 ⟨fs, w, y5, lt, rfl, gF, gW, sm, nd, fA, wB, wC, pB, tj⟩
        rw [List.length_map, List.length_map, List.take_length] at tj
        refine ⟨fs, w, _, y5, lt, rfl, gF, gW, sm, nd, fA, wB, fun x hx nx y r => ?_⟩
        by_cases e : x = p
        · subst e
          exact tj y ((lR y).mpr r)
        · exact wC x hx nx e y r
end
end DW
/-! the productions whose symbols all derive words -/
namespace DW
open PySem PySem.Spec PyProof.Rows L2 TL
set_option autoImplicit false
def usf (ps : List (Nat × Str)) : List (Nat × Str) := ps.filter fun p => okR (FF ps 7) p.2
theorem okR_congr {a b : Fd} (h : ∀ c, c ∈ keysF a ↔ c ∈ keysF b) (y : Str) : okR a y = okR b y := by
  unfold okR
  rw [Bool.eq_iff_iff, List.all_eq_true, List.all_eq_true]
  constructor
  · intro k c hc
    have := k c hc
    by_cases q : c ∈ keysF b
    · rw [decide_eq_true q, Bool.or_true]
    · rw [decide_eq_false (fun z => q ((h c).mp z))] at this
      rw [decide_eq_false q]
      exact this
  · intro k c hc
    have := k c hc
    by_cases q : c ∈ keysF a
    · rw [decide_eq_true q, Bool.or_true]
    · rw [decide_eq_false (fun z => q ((h c).mpr z))] at this
      rw [decide_eq_false q]
      exact this
theorem keysF_map (cs : List Nat) (f : Nat → Nat) : keysF (cs.map fun c => (c, f c)) = cs := by
  unfold keysF
  rw [List.map_map]
  exact List.map_id cs
theorem all_okR {cs : List Nat} {y : Str} {fd : Fd} (mem : ∀ x, x ∈ cs.map one ↔ ∃ c ∈ tl y, symB c = true ∧ x = (⟨#[c]⟩ : Str)) : (cs.map fun c => decide (c ∈ keysF fd)).all id = okR fd y := by
  unfold okR
  rw [Bool.eq_iff_iff, List.all_eq_true, List.all_eq_true]
  constructor
  · intro h c hc
    cases sc : symB c with
    | false => rfl
    | true =>
      have m1 := (mem (one c)).mpr ⟨c, hc, sc, rfl⟩
      obtain ⟨c', hc', e⟩ := List.mem_map.mp m1
      rw [← one_inj e]
      exact h _ (List.mem_map.mpr ⟨c', hc', rfl⟩)
  · intro h b hb
    obtain ⟨c, hc, rfl⟩ := List.mem_map.mp hb
    obtain ⟨c', h1, h2, e⟩ := (mem (one c)).mp (List.mem_map.mpr ⟨c, hc, rfl⟩)
    have q := h c' h1
    rw [h2] at q
    rw [one_inj e]
    exact q
/-- the tuples (index, symbol, items) -/
def T3 (K : PySem.W.Frag) (H : Hp) (ts : List En) : Prop := ∀ e ∈ ts, ∃ i : Int, SqT K H e.1 [.int i, .str ⟨#[e.2.1]⟩, .str e.2.2]
theorem T3.same {K : PySem.W.Frag} {H H' : Hp} {ts : List En} (h : T3 K H ts) (s : Same H H') : T3 K H' ts := fun e he => by
  obtain ⟨i, g⟩ := h e he
  exact ⟨i, same_tupG s _ _ g⟩
/-- what is asked of a grammar -/
structure GrOk (K : PySem.W.Frag) (C : Addr) (H : Hp) (g : Addr) (z : Str) (es : List En) : Prop where
  ge : GrE K C H g z es
  el : es.length ≤ 16
  yl : ∀ e ∈ es, (tl e.2.2).length ≤ 100 ∧ symB e.2.1 = true
  six : nsym (chs (es.map pE)) ≤ 6
theorem GrOk.same {K : PySem.W.Frag} {C : Addr} {H H' : Hp} {g : Addr} {z : Str} {es : List En} (h : GrOk K C H g z es) (s : Same H H') : GrOk K C H' g z es := ⟨h.ge.same s, h.el, h.yl, h.six⟩
def spPv (K : PySem.W.Frag) (C : Addr) : Sp := fun vs H Q _ => ∃ (g : Addr) (z : Str) (es : List En), vs = [.ref g] ∧ GrOk K C H g z es ∧
  ∀ H' q (ts : List En), Same H H' → H q = none → H' q = some (.lst (ts.map vE)) → T3 K H' ts → ts.map pE = usf (es.map pE) → Q (.ref q) H'
section
variable {P : Program} {w : World} {K : PySem.W.Frag} {mg : Str → Option Value} {base : Heap}
theorem scPv : FnScope ["grammar", "found", "productive", "index", "symbol", "items", "used"] ["grammar"] (defScope sProductiveProductions) := ⟨rfl, rfl, rfl, by decide +kernel, rfl, by decide +kernel, by decide +kernel⟩
theorem ok_pv (Dp : Df K mg "productive_productions" sProductiveProductions ["grammar"]) (D : DfRk K mg) (me : mg "enumerate" = none) : FnOk P w K mg base CX0 5 Dp.f Dp.fd ["grammar"] (spPv K D.gr.C) := by
  have Gs : FnOk P w K mg base CX0 2 D.sa.f D.sa.fd ["items"] spSa := ok_sa D.sa D.sy D.mso
  have GP : FnOk P w K mg base CX0 1 D.gr.p.f D.gr.p.fd ["self"] (spGrP K D.gr.C) := ok_grP D.gr D.mli
  have Gk : FnOk P w K mg base CX0 4 D.rk.f D.rk.fd ["grammar"] (spRk K D.gr.C) := ok_rk D
  refine Dp.F.ok scPv (fun vs H Q E h => ?_) (fun cdv A outer s H vs Q E hr h => ?_)
  · obtain ⟨g, z, es, rfl, _⟩ := h
    rfl
  · obtain ⟨g, z, es, rfl, ok, k⟩ := h
    have hr1 : Room 1 _ := hr.mono (by decide)
    have hr2 : Room 2 _ := hr.mono (by decide)
    have hr4 : Room 4 _ := hr
    refine ⟨_, PSs.nox (pss_cons (ps_set (i := 1) scPv.nd rfl (.inr rfl) (pe_call Gk hr4 (by rfl) D.rk.g D.rk.F.kp D.rk.b .nil pass0 (pa_cons (pv 0) pa_nil))) (pss_cons (ps_set (i := 2) scPv.nd rfl (.inl rfl) (pe_lst pa_nil)) (pss_cons (ps_for PassesOwn.never rfl (pi_enum (by rfl) me (pa_cons (pe_meth0 (pv 0) D.gr.cl D.gr.mtp GP hr1 D.gr.p.b .nil pass0) pa_nil)) (pg_tup rfl (pgs_cons (pg_name (i := 3) scPv.nd rfl (.inl rfl)) (pgs_cons (pg_tup rfl (pgs_cons (pg_name (i := 4) scPv.nd rfl (.inl rfl)) (pgs_cons (pg_name (i := 5) scPv.nd rfl (.inl rfl)) pgs_nil))) pgs_nil))) (pss_one (ps_if (pt_val (pe_callB (cr_all rfl) (by rfl) D.ma (by decide +kernel) (pa_cons (pe_lc (own := [("used", 6)]) (g := gName 6) rfl scPv.nd (pi_list (pe_call Gs hr2 (by rfl) D.sa.g D.sa.F.kp D.sa.b .nil pass0 (pa_cons (pv 5) pa_nil))) (blkOk_by (N := ["grammar", "found", "productive", "index", "symbol", "items", "used"]) (sc := defScope sProductiveProductions) (by decide +kernel)) (fun _ _ _ _ _ => pg_name (i := 6) scPv.nd rfl (Or.inl rfl)) (fun _ _ _ _ _ => pts_nil) (fun _ _ _ _ _ => (pe_cmp (pc_din (u1r hr) (pv 6) (pv 1))))) pa_nil))) (pss_one (ps_expr (pe_bm PySem.F.plainAttrs_list PySem.F.slot_list_append PySem.F.type_list_append mt_append (pv 2) (pa_cons (pe_tup (pa_cons (pv 3) (pa_cons (pv 4) (pa_cons (pv 5) pa_nil)))) pa_nil)))) pss_nil))) (pss_one (ps_ret (pv 2)))))), ?_⟩
    refine ⟨.ref g, rfl, g, z, es, rfl, ok.ge, ok.el, ok.yl, ok.six, fun H1 d cs s1 nd gd pw csm => ?_⟩
    dsimp only [gName, List.set]
    have kf := keysF_map cs (rkF (FF (es.map pE) 7))
    have okc : ∀ y, okR (cs.map fun c => (c, rkF (FF (es.map pE) 7) c)) y = okR (FF (es.map pE) 7) y := fun y => okR_congr (fun c => by rw [kf]; exact csm c) y
    generalize (cs.map fun c => (c, rkF (FF (es.map pE) 7) c)) = fd at gd kf okc
    clear kf
    refine ⟨by show 0 ≤ sizeLine; decide, fun W h_W => ?_⟩
    have nW0 : H W = none := fresh_of s1 h_W
    have s_W := same_upd (o := .lst []) h_W
    have g_W : (upd H1 W (.lst [])) W = some (.lst []) := upd_same
    generalize upd H1 W (.lst []) = H2 at s_W g_W ⊢
    have gd := s_W _ _ gd
    have s1 := s1.trans s_W
    clear s_W h_W
    dsimp only [gName, List.set]
    obtain ⟨⟨r, o, dx, ys, hx, _⟩, _⟩ := id (ok.ge.same s1)
    refine ⟨.ref g, rfl, g, dx, _, rfl, hx, flG_no _ _ _ (by decide) (by decide) (by decide), g, z, es, rfl, ok.ge.same s1, fun H3 l s3 nl gl => ?_⟩
    have nWl : l ≠ W := (ne_of_none g_W nl).symm
    have gW := s3 _ _ g_W
    have sm0 := s1.trans s3
    have re := ok.ge.2
    refine ⟨l, _, rfl, SqL.of gl, for_it (walk_enum (xs := es.map vE)) (fun i σ G => ∃ (ts : List En) (y3 y4 y5 y6 : Option V), σ = [some (.ref g), some (.ref d), some (.ref W), y3, y4, y5, y6] ∧ G W = some (.lst (ts.map vE)) ∧ T3 K G ts ∧ ts.map pE = ((es.take i).map pE).filter (fun p => okR (FF (es.map pE) 7) p.2) ∧ G l = some (.lst (es.map vE)) ∧ Same H G ∧ G d = some (.dK (kvR fd))) ⟨[], _, _, _, _, rfl, gW, fun e h => (nomatch h), rfl, gl, sm0, s3 _ _ gd⟩ (fun _ _ _ _ ⟨_, _, _, _, _, _, _, _, _, g, _⟩ => SqL.of g) ?_ ?_⟩
    · rintro i v0 σ G G' hi ⟨ts, y3, y4, y5, y6, rfl, gW, t3, et, gl, sm, gd⟩ ⟨T, c0, y', rfl, h_T, rfl, hc, hx0⟩
      rw [List.length_map] at hi
      have hc : c0 = .int (i : Int) := (Option.some.inj hc).symm
      subst hc
      have hx0 : (es.map vE)[i]? = some y' := hx0
      rw [List.getElem?_map, List.getElem?_eq_getElem hi] at hx0
      have hx0 : V.ref es[i].1 = y' := Option.some.inj hx0
      subst hx0
      have me : es[i] ∈ es := List.getElem_mem hi
      have tk : es.take (i + 1) = es.take i ++ [es[i]] := by rw [List.take_add_one, List.getElem?_eq_getElem hi]; rfl
      have yb := (ok.yl _ me).1
      have s_T := same_upd (o := .tup [V.int (i : Int), V.ref es[i].1]) h_T
      have g_T : (upd G T (.tup [V.int (i : Int), V.ref es[i].1])) T = some (.tup [V.int (i : Int), V.ref es[i].1]) := upd_same
      generalize upd G T (.tup [V.int (i : Int), V.ref es[i].1]) = G1 at s_T g_T ⊢
      have gW := s_T _ _ gW
      have t3 := t3.same s_T
      have gl := s_T _ _ gl
      have sm := sm.trans s_T
      have gd := s_T _ _ gd
      clear s_T h_T
      refine ⟨T, _, rfl, SqT.of g_T, rfl, _, _, rfl, _, _, rfl, ⟨es[i].1, _, rfl, same_tupG sm _ _ (re _ me), rfl, _, _, rfl, _, _, rfl, rfl, rfl, ?_⟩⟩
      dsimp only [gName, List.set]
      refine ⟨.str es[i].2.2, rfl, es[i].2.2, rfl, by omega, fun G3 q ys s3 nq hq nd so mem => ?_⟩
      obtain ⟨us, rfl, _⟩ := sorted_ones ys (fun y hy => by
        obtain ⟨c, _, _, e⟩ := (mem y).mp hy
        exact ⟨c, e⟩) nd so
      have ul : us.length ≤ 26 := by
        have := nodup_lenS (us.map one) syms nd fun y hy => by
          obtain ⟨c, _, h2, e⟩ := (mem y).mp hy
          rw [e]
          exact syms_all h2
        rw [List.length_map] at this
        exact this
      have gd3 := s3 _ _ gd
      refine ⟨q, rfl, ⟨_, SqL.of hq⟩, fun B hB => ?_⟩
      refine lc_it (walk_list (xs := (us.map one).map V.str)) (fun j G => G B = some (.lst (((us.take j).map fun c => decide (c ∈ keysF fd)).map V.bl)) ∧ Same G3 G) ⟨upd_same, same_upd hB⟩ (fun _ _ _ ⟨_, sm⟩ => SqL.of (sm _ _ hq)) ?_ ?_
      · rintro j x F1 F2 hj ⟨gB, sB⟩ ⟨rfl, hxx⟩
        rw [List.length_map, List.length_map] at hj
        rw [List.getElem?_map, List.getElem?_map, List.getElem?_eq_getElem hj] at hxx
        have hxx : V.str (one us[j]) = x := Option.some.inj hxx
        subst hxx
        have tkc : us.take (j + 1) = us.take j ++ [us[j]] := by rw [List.take_add_one, List.getElem?_eq_getElem hj]; rfl
        refine ⟨rfl, yes ⟨_, rfl, _, rfl, d, _, rfl, DGet.k (k := Sum.inr (one us[j])) (sB _ _ gd3), _, gB, ?_, ?_, fun b o e => (upd_ne (ne_of_none e hB)).trans (sB _ _ e)⟩⟩
        · rw [List.length_map, List.length_map, List.length_take, sizeLine_eq]
          omega
        · rw [upd_same, tkc, List.map_append, List.map_append, val_key]
          rfl
      rintro F1 ⟨gB, sB⟩
      rw [List.length_map, List.length_map, List.take_length] at gB
      refine ⟨B, us.map fun c => decide (c ∈ keysF fd), rfl, SqL.of gB, ?_⟩
      rw [all_okR mem, okc]
      have s4 := s3.trans sB
      have gW4 := s4 _ _ gW
      have gl4 := s4 _ _ gl
      have gd4 := s4 _ _ gd
      have t4 := t3.same s4
      have sm4 := sm.trans s4
      have e1 : ((es.take (i + 1)).map pE).filter (fun p => okR (FF (es.map pE) 7) p.2) = ((es.take i).map pE).filter (fun p => okR (FF (es.map pE) 7) p.2) ++ (if okR (FF (es.map pE) 7) es[i].2.2 = true then [pE es[i]] else []) := by
        rw [tk, List.map_append, List.filter_append, List.map_cons, List.map_nil, List.filter_cons]
        rfl
      have tl16 : ts.length ≤ 16 := by
        have h1 := congrArg List.length et
        rw [List.length_map] at h1
        have h2 := List.length_filter_le (fun p : Nat × Str => okR (FF (es.map pE) 7) p.2) ((es.take i).map pE)
        rw [List.length_map, List.length_take] at h2
        have := ok.el
        omega
      cases c2 : okR (FF (es.map pE) 7) es[i].2.2 with
      | false =>
        rw [c2] at e1
        refine ⟨_, rfl, iteF ⟨ts, _, _, _, _, rfl, gW4, t4, ?_, gl4, sm4, gd4⟩⟩
        rw [e1, if_neg (by decide), List.append_nil]
        exact et
      | true =>
        rw [c2] at e1
        refine ⟨_, rfl, iteT ⟨.ref W, rfl, .inl ⟨rfl, _, SqL.of gW4⟩, _, rfl, _, rfl, _, rfl, by show 3 ≤ sizeLine; decide, fun tp h_tp => ?_⟩⟩
        have st := same_upd (o := .tup [V.int (i : Int), V.str ⟨#[es[i].2.1]⟩, V.str es[i].2.2]) h_tp
        have gt : (upd F1 tp (.tup [V.int (i : Int), V.str ⟨#[es[i].2.1]⟩, V.str es[i].2.2])) tp = some (.tup [V.int (i : Int), V.str ⟨#[es[i].2.1]⟩, V.str es[i].2.2]) := upd_same
        have gW5 := st _ _ gW4
        have gl5 := st _ _ gl4
        have gd5 := st _ _ gd4
        have t5 := t4.same st
        have sm5 := sm4.trans st
        generalize upd F1 tp (.tup [V.int (i : Int), V.str ⟨#[es[i].2.1]⟩, V.str es[i].2.2]) = F2 at gt gW5 gl5 gd5 t5 sm5 ⊢
        have nd0 : d ≠ W := ne_of gd5 gW5 (by intro z; cases z)
        refine ⟨W, _, _, rfl, rfl, gW5, by rw [List.length_map, sizeLine_eq]; omega, ts ++ [(tp, pE es[i])], _, _, _, _, rfl, ?_, fun e he => ?_, ?_, (upd_ne nWl).trans gl5, fun b o h => (upd_ne (ne_of_none h nW0)).trans (sm5 b o h), (upd_ne nd0).trans gd5⟩
        · rw [upd_same, List.map_append]
          rfl
        · rcases List.mem_append.mp he with he | he
          · obtain ⟨ix, g⟩ := t5 e he
            exact ⟨ix, put_tupG gW5 _ _ g⟩
          · rw [List.mem_singleton.mp he]
            exact ⟨i, put_tupG gW5 _ _ (SqT.of gt)⟩
        · rw [e1, if_pos rfl, List.map_append, et]
          rfl
    · rintro σ G ⟨ts, y3, y4, y5, y6, rfl, gW, t3, et, gl, sm, gd⟩
      rw [List.length_map, List.take_length] at et
      exact ⟨.ref W, rfl, k _ W ts sm nW0 gW t3 et⟩
end
end DW
/-! the symbols that each symbol uses -/
namespace DW
open PySem PySem.Spec PyProof.Rows L2 TL
set_option autoImplicit false
/-- one symbol uses another one in some of these productions -/
def uR (ps : List (Nat × Str)) (c d : Nat) : Prop := ∃ p ∈ ps, p.1 = c ∧ d ∈ tl p.2 ∧ symB d = true
theorem uR_nil {c d : Nat} : ¬ uR [] c d := fun ⟨p, hp, _⟩ => nomatch hp
theorem uR_add {ps : List (Nat × Str)} {q : Nat × Str} {c d : Nat} : uR (ps ++ [q]) c d ↔ uR ps c d ∨ (q.1 = c ∧ d ∈ tl q.2 ∧ symB d = true) := by
  constructor
  · rintro ⟨p, hp, h⟩
    rcases List.mem_append.mp hp with hp | hp
    · exact .inl ⟨p, hp, h⟩
    · rw [List.mem_singleton.mp hp] at h
      exact .inr h
  · rintro (⟨p, hp, h⟩ | h)
    · exact ⟨p, List.mem_append_left _ hp, h⟩
    · exact ⟨q, List.mem_append_right _ List.mem_cons_self, h⟩
def setA (en : List Ent) (c : Nat) (a : Addr) : List Ent := en.map fun p => if p.1 = c then (p.1, a) else p
theorem setA_fst (en : List Ent) (c : Nat) (a : Addr) : (setA en c a).map (·.1) = en.map (·.1) := by
  unfold setA
  rw [List.map_map]
  refine List.map_congr_left fun p _ => ?_
  show (if p.1 = c then (p.1, a) else p).1 = p.1
  split <;> rfl
theorem any_A {en : List Ent} {c : Nat} : ((kvA en).any fun kv => decide (kv.1 = (Sum.inr (one c) : Key))) = decide (c ∈ en.map (·.1)) := by
  induction en with
  | nil => rfl
  | cons p en ih =>
    show (decide ((Sum.inr (one p.1) : Key) = Sum.inr (one c)) || (kvA en).any fun kv => decide (kv.1 = (Sum.inr (one c) : Key))) = _
    rw [ih]
    by_cases e : p.1 = c
    · rw [decide_eq_true (inr_one.mpr e), Bool.true_or, decide_eq_true]
      rw [List.map_cons, e]
      exact List.mem_cons_self
    · rw [decide_eq_false (fun z => e (inr_one.mp z)), Bool.false_or]
      by_cases q : c ∈ en.map (·.1)
      · rw [decide_eq_true q, decide_eq_true]
        rw [List.map_cons]
        exact List.mem_cons_of_mem _ q
      · rw [decide_eq_false q, decide_eq_false]
        rw [List.map_cons]
        exact fun z => (List.mem_cons.mp z).elim (fun y => e y.symm) q
theorem put_A {en : List Ent} {c : Nat} {a : Addr} (h : c ∈ en.map (·.1)) : putK (kvA en) (Sum.inr (one c)) (.ref a) = kvA (setA en c a) := by
  unfold putK
  rw [any_A, decide_eq_true h, if_pos rfl]
  unfold kvA setA
  rw [List.map_map, List.map_map]
  refine List.map_congr_left fun p _ => ?_
  show (if (Sum.inr (one p.1) : Key) = Sum.inr (one c) then ((Sum.inr (one p.1) : Key), V.ref a) else (Sum.inr (one p.1), V.ref p.2)) = _
  by_cases e : p.1 = c
  · rw [if_pos (inr_one.mpr e)]
    show _ = ((Sum.inr (one (if p.1 = c then (p.1, a) else p).1) : Key), V.ref (if p.1 = c then (p.1, a) else p).2)
    rw [if_pos e]
  · rw [if_neg (fun z => e (inr_one.mp z))]
    show _ = ((Sum.inr (one (if p.1 = c then (p.1, a) else p).1) : Key), V.ref (if p.1 = c then (p.1, a) else p).2)
    rw [if_neg e]
theorem put_new {en : List Ent} {c : Nat} {a : Addr} (h : c ∉ en.map (·.1)) : putK (kvA en) (Sum.inr (one c)) (.ref a) = kvA (en ++ [(c, a)]) := by
  unfold putK
  rw [any_A, decide_eq_false h, if_neg (by decide)]
  unfold kvA
  rw [List.map_append]
  rfl
theorem nxt_end {ps : List (Nat × Str)} (six : nsym (chs ps) ≤ 6) (sy : ∀ p ∈ ps, symB p.1 = true) : nxt ps (FF ps 7) = [] := by
  by_cases h : nxt ps (FF ps 7) = []
  · exact h
  · have all : ∀ j, j < 8 → nxt ps (FF ps j) ≠ [] := fun j hj e => by
      have := FF_stop e (7 - j)
      rw [show j + (7 - j) = 7 by omega] at this
      rw [this] at h
      exact h e
    have h1 := FF_le all
    have h2 := FF_six six sy 8
    omega
theorem usf_key {ps : List (Nat × Str)} (six : nsym (chs ps) ≤ 6) (sy : ∀ p ∈ ps, symB p.1 = true) {p : Nat × Str} (h : p ∈ usf ps) : p.1 ∈ keysF (FF ps 7) := by
  obtain ⟨h1, h2⟩ := List.mem_filter.mp h
  by_cases q : p.1 ∈ keysF (FF ps 7)
  · exact q
  · have m : p.1 ∈ nxt ps (FF ps 7) := List.mem_map.mpr ⟨p, List.mem_filter.mpr ⟨h1, by rw [decide_eq_false q, h2]; rfl⟩, rfl⟩
    rw [nxt_end six sy] at m
    cases m
theorem usf_sub {ps : List (Nat × Str)} {p : Nat × Str} (h : p ∈ usf ps) : p ∈ ps := (List.mem_filter.mp h).1
theorem usf_sym {ps : List (Nat × Str)} {p : Nat × Str} (h : p ∈ usf ps) {d : Nat} (hd : d ∈ tl p.2) (sd : symB d = true) : d ∈ keysF (FF ps 7) := by
  have h2 : okR (FF ps 7) p.2 = true := (List.mem_filter.mp h).2
  unfold okR at h2
  have := List.all_eq_true.mp h2 d hd
  rw [sd] at this
  exact of_decide_eq_true this
/-- the productive symbols -/
def pS (ps : List (Nat × Str)) (c : Nat) : Prop := c ∈ keysF (FF ps 7)
def spUs (K : PySem.W.Frag) (C : Addr) : Sp := fun vs H Q _ => ∃ (g : Addr) (z : Str) (es : List En), vs = [.ref g] ∧ GrOk K C H g z es ∧
  ∀ H' D (en : List Ent), Same H H' → H D = none → H' D = some (.dK (kvA en)) → Tab 1000 H' D en (uR (usf (es.map pE))) → (en.map (·.1)).Pairwise (· < ·) → (∀ c, c ∈ en.map (·.1) ↔ pS (es.map pE) c) → Q (.ref D) H'
section
variable {P : Program} {w : World} {K : PySem.W.Frag} {mg : Str → Option Value} {base : Heap}
theorem scUs : FnScope ["grammar", "symbol", "used", "index", "items"] ["grammar"] (defScope sUsedSymbols) := ⟨rfl, rfl, rfl, by decide +kernel, rfl, by decide +kernel, by decide +kernel⟩
theorem ok_us (Du : Df K mg "used_symbols" sUsedSymbols ["grammar"]) (Dp : Df K mg "productive_productions" sProductiveProductions ["grammar"]) (D : DfRk K mg) (me : mg "enumerate" = none) : FnOk P w K mg base CX0 6 Du.f Du.fd ["grammar"] (spUs K D.gr.C) := by
  have Gs : FnOk P w K mg base CX0 2 D.sa.f D.sa.fd ["items"] spSa := ok_sa D.sa D.sy D.mso
  have Gk : FnOk P w K mg base CX0 4 D.rk.f D.rk.fd ["grammar"] (spRk K D.gr.C) := ok_rk D
  have Gp : FnOk P w K mg base CX0 5 Dp.f Dp.fd ["grammar"] (spPv K D.gr.C) := ok_pv Dp D me
  refine Du.F.ok scUs (fun vs H Q E h => ?_) (fun cdv A outer s H vs Q E hr h => ?_)
  · obtain ⟨g, z, es, rfl, _⟩ := h
    rfl
  · obtain ⟨g, z, es, rfl, ok, k⟩ := h
    have hr2 : Room 2 _ := hr.mono (by decide)
    have hr4 : Room 4 _ := hr.mono (by decide)
    have hr5 : Room 5 _ := hr
    refine ⟨_, PSs.nox (pss_cons (PK.ps_setDc (i := 2) (own := [("symbol", 1)]) (g := gName 1) rfl scUs.nd rfl rfl (PK.sw_trueD rfl rfl rfl (by decide +kernel)) (PK.pi_keysL (pe_call Gk hr4 (by rfl) D.rk.g D.rk.F.kp D.rk.b .nil pass0 (pa_cons (pv 0) pa_nil))) (blkOk_by (N := ["grammar", "symbol", "used", "index", "items"]) (sc := defScope sUsedSymbols) (by decide +kernel)) (fun _ _ _ _ _ => pg_name (i := 1) scUs.nd rfl (Or.inl rfl)) (fun _ _ _ _ _ => pts_nil) (fun _ _ _ _ _ => (pv 1)) (fun _ _ _ _ _ => (pe_lst pa_nil))) (pss_cons (ps_for PassesOwn.never rfl (pi_list (pe_call Gp hr5 (by rfl) Dp.g Dp.F.kp Dp.b .nil pass0 (pa_cons (pv 0) pa_nil))) (pg_tup rfl (pgs_cons (pg_name (i := 3) scUs.nd rfl (.inl rfl)) (pgs_cons (pg_name (i := 1) scUs.nd rfl (.inl rfl)) (pgs_cons (pg_name (i := 4) scUs.nd rfl (.inl rfl)) pgs_nil)))) (pss_one (ps_dput (u1r hr) (pv 2) (pv 1) (pe_op op_cat (pe_dget (u1r hr) (pv 2) (pv 1) (fun _ _ => rfl)) (pe_call Gs hr2 (by rfl) D.sa.g D.sa.F.kp D.sa.b .nil pass0 (pa_cons (pv 4) pa_nil))) rfl))) (pss_one (ps_ret (pv 2))))), ?_⟩
    refine ⟨.ref g, rfl, g, z, es, rfl, ok.ge, ok.el, ok.yl, ok.six, fun H1 d cs s1 nd gd pw csm => ?_⟩
    refine ⟨d, _, rfl, gd, fun od => ?_⟩
    have kf : kvR (cs.map fun c => (c, rkF (FF (es.map pE) 7) c)) = (cs.map fun c => ((Sum.inr (one c) : Key), V.int (rkF (FF (es.map pE) 7) c : Int))) := by
      rw [kvR_eq, List.map_map]
      rfl
    rw [kf]
    have s2 : Same H (upd H1 d (.frz od (.dK (cs.map fun c => ((Sum.inr (one c) : Key), V.int (rkF (FF (es.map pE) 7) c : Int)))))) := fun b o e => (upd_ne (ne_of_none e nd)).trans (s1 b o e)
    have gf : (upd H1 d (.frz od (.dK (cs.map fun c => ((Sum.inr (one c) : Key), V.int (rkF (FF (es.map pE) 7) c : Int)))))) d = some (.frz od (.dK (cs.map fun c => ((Sum.inr (one c) : Key), V.int (rkF (FF (es.map pE) 7) c : Int))))) := upd_same
    generalize upd H1 d (.frz od (.dK (cs.map fun c => ((Sum.inr (one c) : Key), V.int (rkF (FF (es.map pE) 7) c : Int))))) = H2 at s2 gf ⊢
    refine ⟨d, od, rfl, .inl ⟨_, gf, fun W hW => ?_⟩⟩
    have sy : ∀ p ∈ es.map pE, symB p.1 = true := fun p hp => by
      obtain ⟨e, he, rfl⟩ := List.mem_map.mp hp
      exact (ok.yl e he).2
    have csl : cs.length ≤ 26 := syms_len (pw_nd pw) fun c hc => by
      obtain ⟨p, hp, rfl⟩ := FF_sub ((csm c).mp hc)
      exact sy p hp
    refine dc_it (walk_keys (d := d) (o := od)) (fun j F => ∃ en : List Ent, F W = some (.dK (kvA en)) ∧ en.map (·.1) = cs.take j ∧ (∀ p ∈ en, F p.2 = some (.lst [])) ∧ Same H2 F) ⟨[], upd_same, rfl, fun p hp => (nomatch hp), same_upd hW⟩ (fun _ _ _ ⟨_, _, _, _, sm⟩ => sm _ _ gf) ?_ ?_
    · rintro j x F1 F2 hj ⟨en, gW, ee, rows, sm⟩ ⟨rfl, kk, v, hx, rfl⟩
      rw [List.length_map] at hj
      rw [List.getElem?_map, List.getElem?_eq_getElem hj] at hx
      have hk : kk = Sum.inr (one cs[j]) := (congrArg Prod.fst (Option.some.inj hx)).symm
      subst hk
      have tk : cs.take (j + 1) = cs.take j ++ [cs[j]] := by rw [List.take_add_one, List.getElem?_eq_getElem hj]; rfl
      have ni : cs[j] ∉ cs.take j := fun h => by
        obtain ⟨i, hi⟩ := List.mem_iff_getElem?.mp h
        rw [List.getElem?_take] at hi
        split at hi
        · rename_i lt
          obtain ⟨hi1, hi2⟩ := List.getElem?_eq_some_iff.mp hi
          have := List.pairwise_iff_getElem.mp pw i j hi1 hj lt
          omega
        · cases hi
      refine ⟨rfl, yes ⟨_, rfl, by show 0 ≤ sizeLine; decide, fun p h_p => ?_⟩⟩
      have sp := same_upd (o := .lst []) h_p
      have gp : (upd F2 p (.lst [])) p = some (.lst []) := upd_same
      have gW2 := sp _ _ gW
      have ro2 : ∀ q ∈ en, (upd F2 p (.lst [])) q.2 = some (.lst []) := fun q hq => sp _ _ (rows q hq)
      have sm2 := sm.trans sp
      generalize upd F2 p (.lst []) = F3 at gp gW2 ro2 sm2 ⊢
      have nn : cs[j] ∉ en.map (·.1) := by rw [ee]; exact ni
      have nW : ∀ b, F3 b = some (.lst []) → b ≠ W := fun b hb e => by
        rw [e, gW2] at hb
        cases hb
      refine ⟨_, Sum.inr (one cs[j]), rfl, gW2, ?_, en ++ [(cs[j], p)], ?_, ?_, fun q hq => ?_, fun b o e => (upd_ne (ne_of_none e hW)).trans (sm2 _ _ e)⟩
      · unfold kvA
        have := congrArg List.length ee
        rw [List.length_map, List.length_take] at this
        rw [List.length_map, sizeLine_eq]
        omega
      · rw [upd_same, put_new nn]
      · rw [List.map_append, ee, tk]
        rfl
      · rcases List.mem_append.mp hq with hq | hq
        · exact (upd_ne (nW _ (ro2 q hq))).trans (ro2 q hq)
        · rw [List.mem_singleton.mp hq]
          exact (upd_ne (nW _ gp)).trans gp
    rintro F ⟨en, gW, ee, rows, sm⟩
    rw [List.length_map, List.take_length] at ee
    dsimp only [gName, List.set]
    have nW0 : H W = none := fresh_of s2 hW
    have s3 := s2.trans sm
    clear gf gd s1 nd sm hW
    refine ⟨.ref g, rfl, g, z, es, rfl, ok.same s3, fun F1 l ts s4 nl gl t3 et => ?_⟩
    have gW1 := s4 _ _ gW
    have rows1 : ∀ p ∈ en, F1 p.2 = some (.lst []) := fun p hp => s4 _ _ (rows p hp)
    have sm1 := s3.trans s4
    have tsl : ts.length ≤ 16 := by
      have h1 := congrArg List.length et
      unfold usf at h1
      have h2 := List.length_filter_le (fun p : Nat × Str => okR (FF (es.map pE) 7) p.2) (es.map pE)
      rw [List.length_map] at h1 h2
      have := ok.el
      omega
    have nlW : l ≠ W := (ne_of_none gW nl).symm
    refine ⟨l, rfl, ⟨_, SqL.of gl⟩, for_it (walk_list (xs := ts.map vE)) (fun i σ G => ∃ (en : List Ent) (y1 y3 y4 : Option V), σ = [some (.ref g), y1, some (.ref W), y3, y4] ∧ G W = some (.dK (kvA en)) ∧ en.map (·.1) = cs ∧ G l = some (.lst (ts.map vE)) ∧ T3 K G ts ∧ Same H G ∧ ∀ p ∈ en, ∃ L : List Nat, G p.2 = some (.lst ((L.map one).map V.str)) ∧ L.length ≤ 26 * i ∧ ∀ d, d ∈ L ↔ uR ((ts.take i).map pE) p.1 d) ⟨en, _, _, _, rfl, gW1, ee, gl, t3, sm1, fun p hp => ⟨[], rows1 p hp, Nat.zero_le _, fun d => ⟨fun h => (nomatch h), fun h => absurd h uR_nil⟩⟩⟩ (fun _ _ _ _ ⟨_, _, _, _, _, _, _, g, _⟩ => SqL.of g) ?_ ?_⟩
    · rintro i x σ G G' hi ⟨en, y1, y3, y4, rfl, gW, ee, gl, t3, sm, rows⟩ ⟨rfl, hx⟩
      rw [List.length_map] at hi
      rw [List.getElem?_map, List.getElem?_eq_getElem hi] at hx
      have hx : V.ref ts[i].1 = x := Option.some.inj hx
      subst hx
      have me : ts[i] ∈ ts := List.getElem_mem hi
      have mu : pE ts[i] ∈ usf (es.map pE) := by
        rw [← et]
        exact List.mem_map.mpr ⟨_, me, rfl⟩
      have ck : ts[i].2.1 ∈ cs := (csm _).mpr (usf_key ok.six sy mu)
      have yb : (tl ts[i].2.2).length ≤ 100 := by
        obtain ⟨e, he, q⟩ := List.mem_map.mp (usf_sub mu)
        have := (ok.yl e he).1
        rw [show e.2.2 = ts[i].2.2 from congrArg Prod.snd q] at this
        exact this
      have tk : ts.take (i + 1) = ts.take i ++ [ts[i]] := by rw [List.take_add_one, List.getElem?_eq_getElem hi]; rfl
      obtain ⟨ix, gt⟩ := t3 _ me
      refine ⟨ts[i].1, _, rfl, gt, rfl, _, _, rfl, _, _, rfl, _, _, rfl, rfl, ?_⟩
      dsimp only [gName, List.set]
      have endd : (en.map (·.1)).Nodup := by rw [ee]; exact pw_nd pw
      have ck' : ts[i].2.1 ∈ en.map (·.1) := by rw [ee]; exact ck
      obtain ⟨⟨c0, la⟩, hla, ec⟩ := List.mem_map.mp ck'
      have ec : c0 = ts[i].2.1 := ec
      subst ec
      obtain ⟨L, gL, lL, mL⟩ := rows _ hla
      have gL : G' la = some (.lst ((L.map one).map V.str)) := gL
      have dg := DGet.k (k := Sum.inr (one ts[i].2.1)) gW
      rw [val_A endd hla] at dg
      refine ⟨.ref W, rfl, .str (one ts[i].2.1), rfl, W, .ref la, rfl, dg, .str ts[i].2.2, rfl, ts[i].2.2, rfl, by omega, fun G3 q ys s3 nq hq nd so mem => ?_⟩
      obtain ⟨us, rfl, _⟩ := sorted_ones ys (fun y hy => by
        obtain ⟨c, _, _, e⟩ := (mem y).mp hy
        exact ⟨c, e⟩) nd so
      have usl : us.length ≤ 26 := by
        have := nodup_lenS (us.map one) syms nd fun y hy => by
          obtain ⟨c, _, h2, e⟩ := (mem y).mp hy
          rw [e]
          exact syms_all h2
        rw [List.length_map] at this
        exact this
      have um : ∀ d, d ∈ us ↔ d ∈ tl ts[i].2.2 ∧ symB d = true := fun d => by
        rw [← mem_onesR (l := us), mem]
        constructor
        · rintro ⟨c, h1, h2, e⟩
          rw [one_inj e]
          exact ⟨h1, h2⟩
        · rintro ⟨h1, h2⟩
          exact ⟨d, h1, h2, rfl⟩
      refine ⟨la, q, _, _, rfl, rfl, s3 _ _ gL, hq, by rw [List.length_map, List.length_map, List.length_map, List.length_map, sizeLine_eq]; omega, fun p h_p => ?_⟩
      have eL : (L.map one).map V.str ++ (us.map one).map V.str = ((L ++ us).map one).map V.str := by rw [List.map_append, List.map_append]
      rw [eL]
      have sp := s3.trans (same_upd (o := .lst (((L ++ us).map one).map V.str)) h_p)
      have gp : (upd G3 p (.lst (((L ++ us).map one).map V.str))) p = some (.lst (((L ++ us).map one).map V.str)) := upd_same
      generalize upd G3 p (.lst (((L ++ us).map one).map V.str)) = G4 at sp gp ⊢
      have gW4 := sp _ _ gW
      refine ⟨.ref W, rfl, .str (one ts[i].2.1), rfl, W, _, rfl, DPut.k (k := Sum.inr (one ts[i].2.1)) gW4 ?_, ?_⟩
      · have h1 := congrArg List.length ee
        rw [List.length_map] at h1
        unfold kvA
        rw [List.length_map, sizeLine_eq]
        omega
      rw [put_A ck']
      have neW : ∀ {b : Addr} {xs : List V}, G4 b = some (.lst xs) → b ≠ W := fun hb e => by
        rw [e, gW4] at hb
        cases hb
      have t34 := t3.same sp
      refine ⟨setA en ts[i].2.1 p, _, _, _, rfl, upd_same, by rw [setA_fst]; exact ee, (upd_ne (neW (sp _ _ gl))).trans (sp _ _ gl), fun e he => ?_, fun b o e => (upd_ne (ne_of_none e nW0)).trans (sp _ _ (sm _ _ e)), fun r hr => ?_⟩
      · obtain ⟨j, g⟩ := t34 e he
        refine ⟨j, ?_⟩
        rcases g with (g | ⟨v, g⟩) | g
        · exact .inl (.inl ((upd_ne (fun z => by rw [z, gW4] at g; cases g)).trans g))
        · exact .inl (.inr ⟨v, (upd_ne (fun z => by rw [z, gW4] at g; cases g)).trans g⟩)
        · exact .inr g
      · obtain ⟨r0, hr0, rfl⟩ := List.mem_map.mp hr
        by_cases e : r0.1 = ts[i].2.1
        · rw [if_pos e]
          refine ⟨L ++ us, (upd_ne (neW gp)).trans gp, by rw [List.length_append]; omega, fun d => ?_⟩
          rw [List.mem_append, mL, um, tk, List.map_append, List.map_cons, List.map_nil, uR_add]
          show _ ↔ uR _ r0.1 d ∨ (ts[i].2.1 = r0.1 ∧ _)
          rw [e]
          exact ⟨fun h => h.imp id fun h => ⟨rfl, h⟩, fun h => h.imp id fun h => h.2⟩
        · rw [if_neg e]
          obtain ⟨L0, g0, l0, m0⟩ := rows r0 hr0
          refine ⟨L0, (upd_ne (neW (sp _ _ g0))).trans (sp _ _ g0), by omega, fun d => ?_⟩
          rw [m0, tk, List.map_append, List.map_cons, List.map_nil, uR_add]
          exact ⟨.inl, fun h => h.elim id fun h => absurd h.1.symm e⟩
    · rintro σ G ⟨en, y1, y3, y4, rfl, gW, ee, gl, t3, sm, rows⟩
      rw [List.length_map, List.take_length, et] at rows
      refine ⟨.ref W, rfl, k _ W en sm nW0 gW ⟨.inl gW, by rw [ee]; exact pw_nd pw, fun p hp => ?_⟩ (by rw [ee]; exact pw) (fun c => by rw [ee]; exact csm c)⟩
      obtain ⟨L, g, l0, m⟩ := rows p hp
      exact ⟨L, g, by omega, m⟩
end
end DW
/-! the component of a symbol; the first component that uses no other one -/
namespace DW
open PySem PySem.Spec PyProof.Rows L2 TL
set_option autoImplicit false
theorem inV_one {c : Nat} {l : List Nat} : inV (.str (one c)) ((l.map one).map V.str) = decide (c ∈ l) := by
  refine Bool.eq_iff_iff.mpr ?_
  rw [decide_eq_true_iff]
  unfold inV
  rw [List.any_eq_true]
  constructor
  · rintro ⟨v, hv, e⟩
    obtain ⟨w, hw, rfl⟩ := List.mem_map.mp hv
    have e : w = one c := eq_of_beq (show (w == one c) = true from e)
    rw [e] at hw
    exact mem_onesR.mp hw
  · intro h
    exact ⟨_, List.mem_map.mpr ⟨one c, mem_onesR.mpr h, rfl⟩, show (one c == one c) = true from beq_self_eq_true _⟩
theorem flatV_ones (l : List Nat) : ((l.map one).map V.str).all flatV = true := by
  rw [List.all_eq_true]
  intro v hv
  obtain ⟨x, _, rfl⟩ := List.mem_map.mp hv
  rfl
def cD (l : List Nat) : PyData := .tuple ((l.map one).map PyData.str)
theorem ones_eqvC : ∀ a b : List Nat, PyData.eqvAll ((a.map one).map PyData.str) ((b.map one).map PyData.str) = decide (a = b)
  | [], [] => by simp [PyData.eqvAll]
  | [], _ :: _ => by simp [PyData.eqvAll]
  | _ :: _, [] => by simp [PyData.eqvAll]
  | x :: a, y :: b => by
    have e : (one x == one y) = decide (x = y) := by
      rw [Bool.eq_iff_iff, decide_eq_true_eq]
      exact ⟨fun h => one_inj (eq_of_beq h), fun h => by rw [h]; exact beq_self_eq_true _⟩
    simp only [List.map_cons, PyData.eqvAll, PyData.eqv, ones_eqvC a b, e]
    rw [Bool.eq_iff_iff]
    simp
theorem cD_eqv (a b : List Nat) : PyData.eqv (cD a) (cD b) = decide (a = b) := by
  unfold cD PyData.eqv
  exact ones_eqvC a b
theorem cD_shaped {cs : List Nat} (h : ∀ c ∈ cs, c < 128) : SeqAt.shaped (cD cs) = true := by
  obtain ⟨h1, h2⟩ := ones_lay cs h
  unfold SeqAt.shaped cD
  rw [Bool.and_eq_true]
  exact ⟨by simp only [PyData.canLay0, h1], decide_eq_true (by simp only [PyData.depth, h2]; omega)⟩
theorem cD_dp {K : PySem.W.Frag} {H : Hp} {a : Addr} {l : List Nat} (g : SqT K H a ((l.map one).map V.str)) : Dp K H (.ref a) (cD l) := .tup g (strs_dpR _)
theorem same_sqlG {H H' : Hp} {K : PySem.W.Frag} (s : Same H H') {b : Addr} {xs : List V} (h : SqL K H b xs) : SqL K H' b xs := h.elim (fun h => .inl (rd_same s h)) .inr
theorem hd_at {l : List Nat} (h : l ≠ []) : ((l.map one).map V.str)[0]? = some (.str (one (hdC l))) := by
  cases l with
  | nil => exact absurd rfl h
  | cons a r => rfl
/-- what is asked of a graph: its places are symbols, and stand in the dict -/
def Gph (R : Nat → Nat → Prop) (ks : List Nat) : Prop := (∀ k ∈ ks, symB k = true) ∧ ∀ a b, R a b → a ∈ ks ∧ b ∈ ks
theorem Gph.low {R : Nat → Nat → Prop} {ks : List Nat} (g : Gph R ks) : Low R := fun a b r => ⟨sym_low (g.1 _ (g.2 _ _ r).1), sym_low (g.1 _ (g.2 _ _ r).2)⟩
theorem Gph.key {R : Nat → Nat → Prop} {ks : List Nat} (g : Gph R ks) {a b : Nat} (r : Rc R a b) : a ∈ ks ∧ b ∈ ks := by
  obtain ⟨x, h⟩ := r.first
  obtain ⟨y, k⟩ := r.last
  exact ⟨(g.2 _ _ h).1, (g.2 _ _ k).2⟩
def spCo (K : PySem.W.Frag) : Sp := fun vs H Q _ => ∃ (c : Nat) (D : Addr) (en : List Ent) (R : Nat → Nat → Prop) (n : Nat), vs = [.str (one c), .ref D] ∧ Tab n H D en (Rc R) ∧ Gph R (en.map (·.1)) ∧ c ∈ en.map (·.1) ∧ n ≤ 1000 ∧
  ∀ H' q, Same H H' → H q = none → H' q = some (.tup (((cmp R c).map one).map V.str)) → Q (.ref q) H'
/-- a list of components -/
structure WL (K : PySem.W.Frag) (R : Nat → Nat → Prop) (ks : List Nat) (H : Hp) (w : Addr) (ws : List (Addr × List Nat)) : Prop where
  here : SqL K H w (ws.map fun q => V.ref q.1)
  tup : ∀ q ∈ ws, SqT K H q.1 ((q.2.map one).map V.str)
  isc : ∀ q ∈ ws, IsC R q.2 ∧ hdC q.2 ∈ ks
def spFc (K : PySem.W.Frag) : Sp := fun vs H Q _ => ∃ (w D : Addr) (en : List Ent) (R : Nat → Nat → Prop) (n : Nat) (ws : List (Addr × List Nat)), vs = [.ref w, .ref D] ∧ Tab n H D en (Rc R) ∧ Gph R (en.map (·.1)) ∧ WL K R (en.map (·.1)) H w ws ∧ ws ≠ [] ∧ ws.length ≤ 100 ∧
  ∀ H' i q, Same H H' → ws[i]? = some q → FirstC R (ws.map (·.2)) i q.2 → Q (.ref q.1) H'
section
variable {P : Program} {w : World} {K : PySem.W.Frag} {mg : Str → Option Value} {base : Heap}
theorem scCo : FnScope ["symbol", "reached", "together", "other"] ["symbol", "reached"] (defScope sComponentOf) := ⟨rfl, rfl, rfl, by decide +kernel, rfl, by decide +kernel, by decide +kernel⟩
theorem ok_co (Dc : Df K mg "component_of" sComponentOf ["symbol", "reached"]) (mso : mg "sorted" = none) (ms : mg "set" = none) (mt : mg "tuple" = none) : FnOk P w K mg base CX0 1 Dc.f Dc.fd ["symbol", "reached"] (spCo K) := by
  refine Dc.F.ok scCo (fun vs H Q E h => ?_) (fun cdv A outer s H vs Q E hr h => ?_)
  · obtain ⟨c, D, en, R, n, rfl, _⟩ := h
    rfl
  · obtain ⟨c, D, en, R, n, rfl, tab, gp, ck, n1, k⟩ := h
    refine ⟨_, PSs.nox (pss_cons (ps_setLc (i := 2) (own := [("other", 3)]) (g := gName 3) rfl scCo.nd rfl rfl (sw_true rfl rfl rfl (by decide +kernel)) (pi_list (pe_dget (u1r hr) (pv 1) (pv 0) (fun _ _ => rfl))) (blkOk_by (N := ["symbol", "reached", "together", "other"]) (sc := defScope sComponentOf) (by decide +kernel)) (fun _ _ _ _ _ => pg_name (i := 3) scCo.nd rfl (Or.inl rfl)) (fun _ _ _ _ _ => (pts_one (pt_cmpR (r := rIn K false) op_in_seq (pv 0) (pe_dget (u1r hr) (pv 1) (pv 3) (fun _ _ => rfl)) rfl))) (fun _ _ _ _ _ => (pv 3))) (pss_one (ps_ret (pe_callTy call_tuple_of (by rfl) mt (by decide +kernel) (pa_cons (pe_callB (TX.cr_sortTx rfl) (by rfl) mso (by decide +kernel) (pa_cons (pe_callTy (TX.cr_setL rfl) (by rfl) ms (by decide +kernel) (pa_cons (pe_lst (pa_cons (pv 0) (ND.pa_starL (pv 2)))) pa_nil)) pa_nil)) pa_nil))))), ?_⟩
    obtain ⟨la, l, va, gl, ll, lm⟩ := tab.get ck
    refine ⟨.ref D, rfl, .str (one c), rfl, D, .ref la, rfl, tab.at va, la, rfl, ⟨_, SqL.of gl⟩, fun L hL => ?_⟩
    refine lc_it (walk_list (xs := (l.map one).map V.str)) (fun j G => ∃ us : List Nat, G L = some (.lst ((us.map one).map V.str)) ∧ us.length ≤ j ∧ (∀ d, d ∈ us ↔ d ∈ l.take j ∧ Rc R d c) ∧ Same H G) ⟨[], upd_same, Nat.le_refl _, fun d => ⟨fun h => (nomatch h), fun h => (nomatch h.1)⟩, same_upd hL⟩ (fun _ _ _ ⟨_, _, _, _, sm⟩ => SqL.of (sm _ _ gl)) ?_ ?_
    · rintro j x F1 F2 hj ⟨us, gL, ul, um, sm⟩ ⟨rfl, hx⟩
      rw [List.length_map, List.length_map] at hj
      rw [List.getElem?_map, List.getElem?_map, List.getElem?_eq_getElem hj] at hx
      have hx : V.str (one l[j]) = x := Option.some.inj hx
      subst hx
      have tk : l.take (j + 1) = l.take j ++ [l[j]] := by rw [List.take_add_one, List.getElem?_eq_getElem hj]; rfl
      have ok0 : l[j] ∈ en.map (·.1) := (gp.key ((lm _).mp (List.getElem_mem hj))).2
      obtain ⟨lb, m, vb, gm, ml, mm⟩ := tab.get ok0
      refine ⟨rfl, .str (one c), rfl, .ref D, rfl, .str (one l[j]), rfl, D, .ref lb, rfl, (tab.same sm).at vb, lb, _, rfl, .inl (SqL.of (sm _ _ gm)), rfl, flatV_ones m, ?_⟩
      rw [inV_one]
      have step : ∀ d, (d ∈ us ∨ (d = l[j] ∧ Rc R d c)) ↔ d ∈ l.take (j + 1) ∧ Rc R d c := fun d => by
        rw [tk, List.mem_append, List.mem_singleton, um]
        constructor
        · rintro (⟨h1, h2⟩ | ⟨h1, h2⟩)
          · exact ⟨.inl h1, h2⟩
          · exact ⟨.inr h1, h2⟩
        · rintro ⟨h1 | h1, h2⟩
          · exact .inl ⟨h1, h2⟩
          · exact .inr ⟨h1, h2⟩
      refine ⟨_, rfl, ite2 (fun e => ⟨_, rfl, _, gL, ?_, us ++ [l[j]], ?_, ?_, fun d => ?_, fun b o h => (upd_ne (ne_of_none h hL)).trans (sm b o h)⟩) (fun e => ⟨us, gL, by omega, fun d => ?_, sm⟩)⟩
      · rw [List.length_map, List.length_map, sizeLine_eq]
        omega
      · rw [upd_same, List.map_append, List.map_append]
        rfl
      · rw [List.length_append]
        show _ + 1 ≤ _
        omega
      · have r := (mm c).mp (of_decide_eq_true e)
        rw [← step, List.mem_append, List.mem_singleton]
        exact ⟨fun h => h.imp id fun h => ⟨h, by rw [h]; exact r⟩, fun h => h.imp id fun h => h.1⟩
      · rw [← step]
        exact ⟨.inl, fun h => h.elim id fun ⟨h1, h2⟩ => absurd (decide_eq_true ((mm c).mpr (by rw [← h1]; exact h2))) e⟩
    rintro G ⟨us, gL, ul, um, sm⟩
    rw [List.length_map, List.length_map] at ul
    have um : ∀ d, d ∈ us ↔ Rc R c d ∧ Rc R d c := fun d => by
      rw [um, List.length_map, List.length_map, List.take_length, lm]
    have tog : ∀ d, d ∈ c :: us ↔ Tog R c d := fun d => by
      rw [List.mem_cons, um]
      rfl
    have syT : ∀ d ∈ c :: us, symB d = true := fun d hd => by
      rcases (tog d).mp hd with h | h
      · rw [h]
        exact gp.1 _ ck
      · exact gp.1 _ (gp.key h.1).2
    dsimp only [gName, List.set]
    refine ⟨.str (one c), rfl, .ref L, rfl, L, _, rfl, SqL.of gL, ?_, fun M h_M => ?_⟩
    · show ((us.map one).map V.str).length + 1 ≤ sizeLine
      rw [List.length_map, List.length_map, sizeLine_eq]
      omega
    have sM := sm.trans (same_upd (o := .lst (V.str (one c) :: (us.map one).map V.str)) h_M)
    refine ⟨M, (c :: us).map one, rfl, SqL.of upd_same, ?_, fun sa ls nsa nd mem len => ?_⟩
    · rw [List.length_map, List.length_cons]
      exact Nat.lt_of_le_of_lt (show _ ≤ 1002 by omega) (by decide)
    have s2 := sM.trans (same_upd (o := TX.SetTx P w sa ls) nsa)
    have lsl : ls.length ≤ 26 := by
      have := nodup_lenS ls syms nd fun y hy => by
        obtain ⟨d, hd, rfl⟩ := List.mem_map.mp ((mem y).mp hy)
        exact syms_all (syT d hd)
      exact this
    refine ⟨sa, ls, rfl, upd_same, by omega, fun ys p pm so hp => ?_⟩
    obtain ⟨cs, rfl, pw⟩ := sorted_ones ys (fun y hy => by
      obtain ⟨d, _, e⟩ := List.mem_map.mp ((mem y).mp (pm.mem_iff.mp hy))
      exact ⟨d, e.symm⟩) (pm.nodup_iff.mpr nd) so
    have ec : cs = cmp R c := asc_of (gp.low.tog (sym_low (gp.1 _ ck))) pw fun d => by
      rw [← tog, ← mem_onesR (l := cs), pm.mem_iff, mem]
      exact mem_onesR
    subst ec
    refine ⟨p, _, rfl, .inl ⟨SqL.of upd_same, fun q hq => ?_⟩⟩
    have s3 := s2.trans (same_upd (o := .lst (((cmp R c).map one).map V.str)) hp)
    exact k _ q (s3.trans (same_upd hq)) (fresh_of s3 hq) upd_same
theorem scFc : FnScope ["waiting", "reached", "component", "later", "other", "symbol"] ["waiting", "reached"] (defScope sFirstComponent) := ⟨rfl, rfl, rfl, by decide +kernel, rfl, by decide +kernel, by decide +kernel⟩
theorem ok_fc (Df0 : Df K mg "first_component" sFirstComponent ["waiting", "reached"]) (mn : mg "any" = none) : FnOk P w K mg base CX0 1 Df0.f Df0.fd ["waiting", "reached"] (spFc K) := by
  refine Df0.F.ok scFc (fun vs H Q E h => ?_) (fun cdv A outer s H vs Q E hr h => ?_)
  · obtain ⟨w, D, en, R, n, ws, rfl, _⟩ := h
    rfl
  · obtain ⟨wa, D, en, R, n, ws, rfl, tab, gp, wl, ne, wl100, k⟩ := h
    refine ⟨_, PSs.nox (pss_cons (ps_for PassesOwn.never rfl (pi_list (pv 0)) (pg_name (i := 2) scFc.nd rfl (.inr rfl)) (pss_cons (ps_setLc (i := 3) (own := [("other", 4)]) (g := gName 4) rfl scFc.nd rfl rfl (sw_true rfl rfl rfl (by decide +kernel)) (pi_list (pv 0)) (blkOk_by (N := ["waiting", "reached", "component", "later", "other", "symbol"]) (sc := defScope sFirstComponent) (by decide +kernel)) (fun _ _ _ _ _ => pg_name (i := 4) scFc.nd rfl (Or.inl rfl)) (fun _ _ _ _ _ => (pts_one (pt_cmpR (r := rNeD K) (by exact op_neD hr.units) (pv 4) (pv 2) (nomark _)))) (fun _ _ _ _ _ => (pe_ix (r := rIxT K) (by exact ix_tup) (pv 4) pe_int (fun _ _ => rfl)))) (pss_one (ps_if (pt_not (pt_val (pe_callB (cr_any rfl) (by rfl) mn (by decide +kernel) (pa_cons (pe_lc (own := [("symbol", 5)]) (g := gName 5) rfl scFc.nd (pi_list (pv 3)) (blkOk_by (N := ["waiting", "reached", "component", "later", "other", "symbol"]) (sc := defScope sFirstComponent) (by decide +kernel)) (fun _ _ _ _ _ => pg_name (i := 5) scFc.nd rfl (Or.inl rfl)) (fun _ _ _ _ _ => pts_nil) (fun _ _ _ _ _ => (pe_cmpR (r := rIn K false) op_in_seq (pv 5) (pe_dget (u1r hr) (pv 1) (pe_ix (r := rIxT K) (by exact ix_tup) (pv 2) pe_int (fun _ _ => rfl)) (fun _ _ => rfl)) rfl))) pa_nil)))) (pss_one (ps_ret (pv 2))) pss_nil)))) (pss_one (ps_ret pe_non))), ?_⟩
    have ocx := ok_any gp.low (W := ws.map (·.2)) (fun K hK => by
      obtain ⟨q, hq, rfl⟩ := List.mem_map.mp hK
      exact (wl.isc q hq).1) (fun e => ne (List.map_eq_nil_iff.mp e))
    refine ⟨.ref wa, rfl, wa, rfl, ⟨_, wl.here⟩, for_it (walk_list (xs := ws.map fun q => V.ref q.1)) (fun i σ G => ∃ (y2 y3 y4 y5 : Option V), σ = [some (.ref wa), some (.ref D), y2, y3, y4, y5] ∧ Same H G ∧ ∀ j L, j < i → (ws.map (·.2))[j]? = some L → ¬ okC R (ws.map (·.2)) L) ⟨_, _, _, _, rfl, fun _ _ e => e, fun j L hj => absurd hj (Nat.not_lt_zero _)⟩ (fun _ _ _ _ ⟨_, _, _, _, _, sm, _⟩ => ?_) ?_ ?_⟩
    · exact same_sqlG sm wl.here
    · rintro i x σ G G' hi ⟨y2, y3, y4, y5, rfl, sm, inv⟩ ⟨rfl, hx⟩
      rw [List.length_map] at hi
      rw [List.getElem?_map, List.getElem?_eq_getElem hi] at hx
      have hx : V.ref ws[i].1 = x := Option.some.inj hx
      subst hx
      have mq : ws[i] ∈ ws := List.getElem_mem hi
      have atq : ws[i]? = some ws[i] := List.getElem?_eq_getElem hi
      generalize ws[i] = q at mq atq ⊢
      obtain ⟨isq, hk⟩ := wl.isc q mq
      have neq := isq.ne gp.low
      have tq := wl.tup q mq
      obtain ⟨lb, m, vb, gm, ml, mm⟩ := tab.get hk
      dsimp only [gName, List.set]
      refine ⟨.ref wa, rfl, wa, rfl, ⟨_, same_sqlG sm wl.here⟩, fun L hL => ?_⟩
      refine lc_it (walk_list (xs := ws.map fun q => V.ref q.1)) (fun j F => ∃ us : List Nat, F L = some (.lst ((us.map one).map V.str)) ∧ us.length ≤ j ∧ (∀ d, d ∈ us ↔ ∃ r ∈ ws.take j, r.2 ≠ q.2 ∧ d = hdC r.2) ∧ Same G' F) ⟨[], upd_same, Nat.le_refl _, fun d => ⟨fun h => (nomatch h), fun ⟨r, hr, _⟩ => nomatch hr⟩, same_upd hL⟩ (fun _ _ _ ⟨_, _, _, _, s2⟩ => same_sqlG (sm.trans s2) wl.here) ?_ ?_
      · rintro j x F1 F2 hj ⟨us, gL, ul, um, s2⟩ ⟨rfl, hx⟩
        rw [List.length_map] at hj
        rw [List.getElem?_map, List.getElem?_eq_getElem hj] at hx
        have hx : V.ref ws[j].1 = x := Option.some.inj hx
        subst hx
        have tk : ws.take (j + 1) = ws.take j ++ [ws[j]] := by rw [List.take_add_one, List.getElem?_eq_getElem hj]; rfl
        have mr : ws[j] ∈ ws := List.getElem_mem hj
        generalize ws[j] = r at mr tk ⊢
        obtain ⟨isr, hkr⟩ := wl.isc r mr
        have s3 := sm.trans s2
        have tr := same_tupG s3 _ _ (wl.tup r mr)
        have step : ∀ d, (d ∈ us ∨ (r.2 ≠ q.2 ∧ d = hdC r.2)) ↔ ∃ t ∈ ws.take (j + 1), t.2 ≠ q.2 ∧ d = hdC t.2 := fun d => by
          rw [tk, um]
          constructor
          · rintro (⟨t, h1, h2⟩ | h)
            · exact ⟨t, List.mem_append_left _ h1, h2⟩
            · exact ⟨r, List.mem_append_right _ List.mem_cons_self, h⟩
          · rintro ⟨t, h1, h2⟩
            rcases List.mem_append.mp h1 with h1 | h1
            · exact .inl ⟨t, h1, h2⟩
            · rw [List.mem_singleton.mp h1] at h2
              exact .inr h2
        refine ⟨rfl, .ref r.1, rfl, .ref q.1, rfl, cD r.2, cD q.2, cD_dp tr, cD_dp (same_tupG s3 _ _ tq), cD_shaped (isr.low gp.low), cD_shaped (isq.low gp.low), ?_⟩
        rw [cD_eqv]
        refine ⟨_, rfl, ite2 (fun e => ⟨.ref r.1, rfl, r.1, _, 0, .str (one (hdC r.2)), rfl, rfl, tr, at_of (j := 0) rfl (hd_at (isr.ne gp.low)), _, gL, ?_, us ++ [hdC r.2], ?_, ?_, fun d => ?_, fun b o h => (upd_ne (ne_of_none h hL)).trans (s2 b o h)⟩) (fun e => ⟨us, gL, by omega, fun d => ?_, s2⟩)⟩
        · rw [List.length_map, List.length_map, sizeLine_eq]
          omega
        · rw [upd_same, List.map_append, List.map_append]
          rfl
        · rw [List.length_append]
          show _ + 1 ≤ _
          omega
        · have nq : r.2 ≠ q.2 := fun z => by
            rw [decide_eq_true z] at e
            cases e
          rw [← step, List.mem_append, List.mem_singleton]
          exact ⟨fun h => h.imp id fun h => ⟨nq, h⟩, fun h => h.imp id fun h => h.2⟩
        · rw [← step]
          exact ⟨.inl, fun h => h.elim id fun ⟨h1, h2⟩ => absurd (show (!decide (r.2 = q.2)) = true by rw [decide_eq_false h1]; rfl) e⟩
      rintro F ⟨us, gL, ul, um, s2⟩
      rw [List.length_map] at ul
      have um : ∀ d, d ∈ us ↔ ∃ r ∈ ws, r.2 ≠ q.2 ∧ d = hdC r.2 := fun d => by rw [um, List.length_map, List.take_length]
      dsimp only [gName, List.set]
      have s3 := sm.trans s2
      refine ⟨.ref L, rfl, L, rfl, ⟨_, SqL.of gL⟩, fun B hB => ?_⟩
      refine lc_it (walk_list (xs := (us.map one).map V.str)) (fun j G => G B = some (.lst (((us.take j).map fun d => decide (d ∈ m)).map V.bl)) ∧ Same F G) ⟨upd_same, same_upd hB⟩ (fun _ _ _ ⟨_, sm⟩ => SqL.of (sm _ _ gL)) ?_ ?_
      · rintro j x F1 F2 hj ⟨gB, sB⟩ ⟨rfl, hxx⟩
        rw [List.length_map, List.length_map] at hj
        rw [List.getElem?_map, List.getElem?_map, List.getElem?_eq_getElem hj] at hxx
        have hxx : V.str (one us[j]) = x := Option.some.inj hxx
        subst hxx
        have s4 := s3.trans sB
        refine ⟨rfl, yes ⟨.str (one us[j]), rfl, .ref D, rfl, .ref q.1, rfl, q.1, _, 0, .str (one (hdC q.2)), rfl, rfl, same_tupG s4 _ _ tq, at_of (j := 0) rfl (hd_at neq), D, .ref lb, rfl, (tab.same s4).at vb, lb, _, rfl, .inl (SqL.of (s4 _ _ gm)), rfl, flatV_ones m, _, gB, ?_, ?_, fun b o e => (upd_ne (ne_of_none e hB)).trans (sB _ _ e)⟩⟩
        · rw [List.length_map, List.length_map, List.length_take, sizeLine_eq]
          omega
        · rw [upd_same, List.take_add_one, List.getElem?_eq_getElem hj, List.map_append, List.map_append]
          show _ = some (HO.lst (_ ++ [V.bl (decide (us[j] ∈ m))]))
          rw [← inV_one]
          rfl
      rintro F1 ⟨gB, sB⟩
      rw [List.length_map, List.length_map, List.take_length] at gB
      refine ⟨B, us.map fun d => decide (d ∈ m), rfl, SqL.of gB, ?_⟩
      have iff1 : (us.map fun d => decide (d ∈ m)).any id = true ↔ ¬ okC R (ws.map (·.2)) q.2 := by
        rw [List.any_eq_true]
        constructor
        · rintro ⟨b, hb, e⟩ ok
          obtain ⟨d, hd, rfl⟩ := List.mem_map.mp hb
          obtain ⟨r, hr, n1, rfl⟩ := (um d).mp hd
          exact ok r.2 (List.mem_map.mpr ⟨r, hr, rfl⟩) n1 ((mm _).mp (of_decide_eq_true e))
        · intro no
          by_cases z : ∃ r ∈ ws, r.2 ≠ q.2 ∧ Rc R (hdC q.2) (hdC r.2)
          · obtain ⟨r, hr, n1, rc⟩ := z
            exact ⟨true, List.mem_map.mpr ⟨hdC r.2, (um _).mpr ⟨r, hr, n1, rfl⟩, decide_eq_true ((mm _).mpr rc)⟩, rfl⟩
          · refine absurd (fun L hL n1 rc => ?_) no
            obtain ⟨r, hr, rfl⟩ := List.mem_map.mp hL
            exact z ⟨r, hr, n1, rc⟩
      refine ⟨_, rfl, ite2 (fun e => ?_) (fun e => ?_)⟩
      · refine ⟨.ref q.1, rfl, k F1 i q (s3.trans sB) atq ⟨by rw [List.getElem?_map, atq]; rfl, ?_, inv⟩⟩
        by_cases o : okC R (ws.map (·.2)) q.2
        · exact o
        · rw [iff1.mpr o] at e
          cases e
      · refine ⟨_, _, _, _, rfl, s3.trans sB, fun j L hj hL => ?_⟩
        by_cases ji : j < i
        · exact inv j L ji hL
        · have ej : j = i := by omega
          subst ej
          rw [List.getElem?_map, atq] at hL
          have hL : q.2 = L := Option.some.inj hL
          rw [← hL]
          refine iff1.mp ?_
          cases h : (us.map fun d => decide (d ∈ m)).any id with
          | true => rfl
          | false =>
            rw [h] at e
            exact absurd rfl e
    · rintro σ G ⟨y2, y3, y4, y5, rfl, sm, inv⟩
      obtain ⟨L, hL, ok⟩ := ocx
      obtain ⟨j, hj⟩ := List.mem_iff_getElem?.mp hL
      refine absurd ok (inv j L ?_ hj)
      have := (List.getElem?_eq_some_iff.mp hj).1
      rw [List.length_map] at this ⊢
      exact this
end
end DW
/-! sets of components: put, sorted -/
namespace DW
open PySem PySem.Spec PyProof.Rows L2 TL
open ND (NK NKs)
set_option autoImplicit false
theorem u16c {k : Nat} {A : Around} (hr : Room k A) : A.units + 16 < cLine := by
  have := hr.un
  omega
theorem u66c {k : Nat} {A : Around} (hr : Room k A) : A.units + 66 < cLine := by
  have := hr.un
  omega
theorem unmapC {α β : Type} (f : α → β) : ∀ {l m : List β}, l.Perm m → ∀ T : List α, T.map f = l → ∃ T' : List α, T'.Perm T ∧ T'.map f = m := by
  intro l m p
  induction p with
  | nil => exact fun T h => ⟨T, List.Perm.refl _, h⟩
  | cons x _ ih =>
    intro T h
    match T, h with
    | t :: T, h =>
      rw [List.map_cons] at h
      injection h with h1 h2
      obtain ⟨T', p1, e1⟩ := ih T h2
      exact ⟨t :: T', p1.cons t, by rw [List.map_cons, h1, e1]⟩
  | swap x y l =>
    intro T h
    match T, h with
    | t :: u :: T, h =>
      rw [List.map_cons, List.map_cons] at h
      injection h with h1 h2
      injection h2 with h2 h3
      exact ⟨u :: t :: T, List.Perm.swap t u T, by rw [List.map_cons, List.map_cons, h1, h2, h3]⟩
  | trans _ _ ih1 ih2 =>
    intro T h
    obtain ⟨T1, p1, e1⟩ := ih1 T h
    obtain ⟨T2, p2, e2⟩ := ih2 T1 e1
    exact ⟨T2, p2.trans p1, e2⟩
abbrev AC : Type := Addr × List Nat
def ckN (l : List Nat) : NestedKey := .tup (l.map fun c => NestedKey.text (one c))
def ckK (t : AC) : NSet.KIt := (t.1, ckN t.2)
theorem ckN_datas : ∀ l : List Nat, NestedKey.datas (l.map fun c => NestedKey.text (one c)) = (l.map one).map PyData.str
  | [] => by simp [NestedKey.datas]
  | c :: l => by
    rw [List.map_cons, NestedKey.datas, ckN_datas l, NestedKey.data]
    rfl
theorem ckN_data (l : List Nat) : (ckN l).data = .tuple ((l.map one).map PyData.str) := by
  unfold ckN
  rw [NestedKey.data, ckN_datas]
theorem ckN_inj : ∀ {a b : List Nat}, ckN a = ckN b → a = b := by
  intro a b h
  unfold ckN at h
  injection h with h
  exact List.map_inj_right (f := fun c => NestedKey.text (one c)) (fun x y e => by injection e with e; exact one_inj e) |>.mp h
theorem depthAll_ck : ∀ l : List Nat, NestedKey.depthAll (l.map fun c => NestedKey.text (one c)) ≤ 2
  | [] => by simp [NestedKey.depthAll]
  | c :: l => by
    have := depthAll_ck l
    simp only [List.map_cons, NestedKey.depthAll, NestedKey.depth]
    omega
theorem ckN_depth (l : List Nat) : (ckN l).depth ≤ 8 := by
  have := depthAll_ck l
  unfold ckN
  simp only [NestedKey.depth]
  omega
theorem ck_nks {K : PySem.W.Frag} {H : Hp} : ∀ l : List Nat, NKs K H (l.map fun c => NestedKey.text (one c)) ((l.map one).map V.str)
  | [] => .nil
  | _ :: l => .cons (.text _) (ck_nks l)
theorem ck_nk {K : PySem.W.Frag} {H : Hp} {a : Addr} {l : List Nat} (g : SqT K H a ((l.map one).map V.str)) : NK K H (ckN l) (.ref a) := .tup g (ck_nks l)
theorem ck_alikeAll : ∀ a b : List Nat, PySem.W.alikeAll ((a.map one).map PyData.str) ((b.map one).map PyData.str) = true
  | [], _ => by simp [PySem.W.alikeAll]
  | _ :: _, [] => by simp [PySem.W.alikeAll]
  | x :: a, y :: b => by
    rw [List.map_cons, List.map_cons, List.map_cons, List.map_cons, PySem.W.alikeAll, ck_alikeAll a b]
    simp [PySem.W.alike]
theorem ck_alike (a b : List Nat) : PySem.W.alike (ckN a).data (ckN b).data = true := by
  rw [ckN_data, ckN_data]
  simp only [PySem.W.alike]
  exact ck_alikeAll a b
theorem ck_lt {a b : List Nat} (ha : a ≠ []) (hb : b ≠ []) (h : hdC a ≠ hdC b) : PySem.W.dataLt (ckN a).data (ckN b).data = decide (hdC a < hdC b) := by
  match a, b, ha, hb, h with
  | [], _, ha, _, _ => exact absurd rfl ha
  | _ :: _, [], _, hb, _ => exact absurd rfl hb
  | x :: a, y :: b, _, _, h =>
    have h : x ≠ y := h
    rw [ckN_data, ckN_data, PySem.W.dataLt_tuple]
    show PyProof.Rows.lexLt PyProof.Rows.itemOrd (PySem.W.keyToksAll (PyData.str (one x) :: _)) (PySem.W.keyToksAll (PyData.str (one y) :: _)) = decide (x < y)
    rw [PySem.W.dataLt_cons (by simp [PySem.W.alike])]
    have ne : PyData.eqv (.str (one x)) (.str (one y)) = false := by
      show (one x == one y) = false
      exact beq_false_of_ne fun e => h (one_inj e)
    rw [ne, if_neg (by decide), PySem.W.dataLt_str]
    show decide ([x] < [y]) = decide (x < y)
    rw [decide_eq_decide, List.cons_lt_cons_iff]
    simp
theorem leN_ck {a b : List Nat} {p q : Addr} (ha : a ≠ []) (hb : b ≠ []) (h : hdC a ≠ hdC b) : NSet.leN (p, ckN a) (q, ckN b) = decide (hdC a < hdC b) := by
  show PySem.W.dataLe false (fun z : NSet.KIt => z.2.data) (p, ckN a) (q, ckN b) = _
  rw [PySem.W.dataLe_eq]
  show (!PySem.W.dataLt (ckN b).data (ckN a).data) = _
  rw [ck_lt hb ha (Ne.symm h)]
  by_cases q : hdC a < hdC b
  · rw [decide_eq_true q, decide_eq_false (by omega)]
    rfl
  · rw [decide_eq_false q, decide_eq_true (by omega)]
    rfl
/-- a set of components -/
structure SetC (w : World) (K : PySem.W.Frag) (H : Hp) (D : Addr) (A : List (List Nat)) (T : List AC) : Prop where
  at_ : H D = some (NSet.SetO w D (T.map ckK))
  tup : ∀ t ∈ T, SqT K H t.1 ((t.2.map one).map V.str)
  mem : ∀ l, l ∈ T.map (·.2) ↔ l ∈ A
  nd : (T.map (·.2)).Nodup
  len : T.length ≤ A.length
theorem SetC.nks {w : World} {K : PySem.W.Frag} {H : Hp} {D : Addr} {A : List (List Nat)} {T : List AC} (h : SetC w K H D A T) : NSet.NKs1 K H (T.map ckK) := fun z hz => by
  obtain ⟨t, ht, rfl⟩ := List.mem_map.mp hz
  exact ⟨ck_nk (h.tup t ht), ckN_depth _⟩
theorem SetC.same {w : World} {K : PySem.W.Frag} {H H' : Hp} {D : Addr} {A : List (List Nat)} {T : List AC} (h : SetC w K H D A T) (s : Same H H') : SetC w K H' D A T := ⟨s _ _ h.at_, fun t ht => same_tupG s _ _ (h.tup t ht), h.mem, h.nd, h.len⟩
theorem SetC.put {w : World} {K : PySem.W.Frag} {H : Hp} {D : Addr} {A : List (List Nat)} {T : List AC} (h : SetC w K H D A T) {l : List Nat} {b : Addr} (hb : SqT K H b ((l.map one).map V.str)) (n60 : A.length ≤ 60) {N : Hp → Prop}
    (k : ∀ H' T', (∀ c o, c ≠ D → H c = some o → H' c = some o) → SetC w K H' D (A ++ [l]) T' → N H') : NSet.putN1 w K D (.ref b) H N := by
  have keys : (T.map ckK).map (·.2) = (T.map (·.2)).map ckN := by rw [List.map_map, List.map_map]; rfl
  have inK : ckN l ∈ (T.map ckK).map (·.2) ↔ l ∈ T.map (·.2) := by
    rw [keys]
    constructor
    · intro h
      obtain ⟨e, he, q⟩ := List.mem_map.mp h
      rw [← ckN_inj q]
      exact he
    · exact fun h => List.mem_map_of_mem h
  have nt : ∀ o b xs, SqT K H b xs → SqT K (upd H D o) b xs := fun o b xs q => by
    rcases q with (q | ⟨u, q⟩) | q
    · exact .inl (.inl ((upd_ne fun z => by rw [z, h.at_] at q; cases q).trans q))
    · exact .inl (.inr ⟨u, (upd_ne fun z => by rw [z, h.at_] at q; cases q).trans q⟩)
    · exact .inr q
  have al : (A ++ [l]).length = A.length + 1 := List.length_append
  have := h.len
  refine ⟨b, ckN l, T.map ckK, rfl, h.at_, h.nks, ck_nk hb, ckN_depth _, ?_, fun L' c1 c2 => ?_⟩
  · rw [List.length_map]
    omega
  · by_cases m : l ∈ T.map (·.2)
    · rw [c1 (inK.mpr m)]
      refine k _ T (fun c o ne e => (upd_ne ne).trans e) ⟨upd_same, fun t ht => nt _ _ _ (h.tup t ht), fun e => ?_, h.nd, by omega⟩
      rw [h.mem, List.mem_append, List.mem_singleton]
      exact ⟨.inl, fun z => z.elim id fun z => by rw [z, ← h.mem]; exact m⟩
    · obtain ⟨T', p1, e1⟩ := unmapC ckK (c2 fun z => m (inK.mp z)).symm ((b, l) :: T) rfl
      rw [← e1]
      refine k _ T' (fun c o ne e => (upd_ne ne).trans e) ⟨upd_same, fun t ht => ?_, fun e => ?_, (p1.map (·.2)).nodup_iff.mpr (List.nodup_cons.mpr ⟨m, h.nd⟩), ?_⟩
      · rcases List.mem_cons.mp (p1.mem_iff.mp ht) with z | z
        · rw [z]
          exact nt _ _ _ hb
        · exact nt _ _ _ (h.tup t z)
      · rw [(p1.map (·.2)).mem_iff, List.map_cons, List.mem_cons, h.mem, List.mem_append, List.mem_singleton]
        exact ⟨Or.symm, Or.symm⟩
      · rw [p1.length_eq, List.length_cons]
        omega
/-- sorted of it: by the first symbols -/
theorem SetC.sorted {w : World} {K : PySem.W.Frag} {R : Nat → Nat → Prop} {H : Hp} {D : Addr} {A : List (List Nat)} {T : List AC} {Q : VK} (h : SetC w K H D A T) (low : Low R) (isc : ∀ l ∈ A, IsC R l)
    (k : ∀ H' p (ws : List AC), Same H H' → H p = none → H' p = some (.lst (ws.map fun t => V.ref t.1)) → (∀ t ∈ ws, SqT K H' t.1 ((t.2.map one).map V.str)) → (ws.map (·.2)).Pairwise (fun a b => hdC a < hdC b) → (∀ l, l ∈ ws.map (·.2) ↔ l ∈ A) → ws.length ≤ A.length → Q (.ref p) H') : NSet.rSortN K w [.ref D] H Q := by
  refine ⟨D, T.map ckK, rfl, h.at_, h.nks, fun y hy z hz => ?_, fun z hz => ?_, fun M0 p pm nd fw hp => ?_⟩
  · obtain ⟨t, _, rfl⟩ := List.mem_map.mp hy
    obtain ⟨u, _, rfl⟩ := List.mem_map.mp hz
    exact ck_alike _ _
  · obtain ⟨t, _, rfl⟩ := List.mem_map.mp hz
    exact ⟨_, rfl⟩
  · obtain ⟨T1, p1, e1⟩ := unmapC ckK (pm.symm.trans (List.mergeSort_perm M0 NSet.leN).symm) T rfl
    have tot : PySem.W.TotalLe NSet.leN := PySem.W.sortLe_total _ false _
    have pw0 := List.pairwise_mergeSort (le := NSet.leN) (fun a b c h1 h2 => tot.trans a b c h1 h2) (fun a b => Bool.or_eq_true_iff.mpr (tot.total a b)) M0
    have nd1 : (T1.map (·.2)).Nodup := (p1.map (·.2)).nodup_iff.mpr h.nd
    have ev : ((T1.map ckK).map fun z => V.ref z.1) = T1.map fun t => V.ref t.1 := by rw [List.map_map]; rfl
    rw [← e1] at pw0
    rw [← e1, ev]
    have s1 := same_upd (o := .lst (T1.map fun t => V.ref t.1)) hp
    have inA : ∀ t ∈ T1, IsC R t.2 := fun t ht => isc _ ((h.mem _).mp (List.mem_map.mpr ⟨t, p1.mem_iff.mp ht, rfl⟩))
    refine k _ p T1 s1 hp upd_same (fun t ht => same_tupG s1 _ _ (h.tup t (p1.mem_iff.mp ht))) ?_ (fun l => ?_) ?_
    · have nd2 : T1.Pairwise fun a b => a.2 ≠ b.2 := List.pairwise_map.mp nd1
      rw [List.pairwise_map] at pw0 ⊢
      refine List.Pairwise.imp_of_mem (R := fun a b => NSet.leN (ckK a) (ckK b) = true ∧ a.2 ≠ b.2) (fun {a b} ha hb z => ?_) (pw0.and nd2)
      have ia := inA a ha
      have ib := inA b hb
      have ne : hdC a.2 ≠ hdC b.2 := fun e => z.2 (ia.one low ib (hdC_mem (ia.ne low)) (by rw [e]; exact hdC_mem (ib.ne low)))
      have := z.1
      unfold ckK at this
      rw [leN_ck (ia.ne low) (ib.ne low) ne] at this
      exact of_decide_eq_true this
    · rw [(p1.map (·.2)).mem_iff, h.mem]
    · rw [p1.length_eq]
      exact h.len
theorem hd_uniq : ∀ (a b : List (List Nat)), a.Pairwise (fun x y => hdC x < hdC y) → b.Pairwise (fun x y => hdC x < hdC y) → (∀ l, l ∈ a ↔ l ∈ b) → a = b
  | [], [], _, _, _ => rfl
  | [], y :: b, _, _, h => nomatch (h y).mpr List.mem_cons_self
  | x :: a, [], _, _, h => nomatch (h x).mp List.mem_cons_self
  | x :: a, y :: b, pa, pb, h => by
    obtain ⟨ha, pa'⟩ := List.pairwise_cons.mp pa
    obtain ⟨hb, pb'⟩ := List.pairwise_cons.mp pb
    have e : x = y := by
      rcases List.mem_cons.mp ((h x).mp List.mem_cons_self) with q | q
      · exact q
      · rcases List.mem_cons.mp ((h y).mpr List.mem_cons_self) with p | p
        · exact p.symm
        · have := hb x q
          have := ha y p
          omega
    subst e
    rw [hd_uniq a b pa' pb' fun v => ⟨fun m => ?_, fun m => ?_⟩]
    · rcases List.mem_cons.mp ((h v).mp (List.mem_cons_of_mem _ m)) with q | q
      · have := ha v m
        rw [q] at this
        omega
      · exact q
    · rcases List.mem_cons.mp ((h v).mpr (List.mem_cons_of_mem _ m)) with q | q
      · have := hb v m
        rw [q] at this
        omega
      · exact q
end DW
/-! components -/
namespace DW
open PySem PySem.Spec PyProof.Rows L2 TL
set_option autoImplicit false
theorem uR_keys {ps : List (Nat × Str)} (six : nsym (chs ps) ≤ 6) (sy : ∀ p ∈ ps, symB p.1 = true) {a b : Nat} (r : uR (usf ps) a b) : pS ps a ∧ pS ps b := by
  obtain ⟨p, hp, rfl, hd, sd⟩ := r
  exact ⟨usf_key six sy hp, usf_sym hp hd sd⟩
theorem kvA_at {en : List Ent} {j : Nat} (hj : j < en.length) {k : Key} {v : V} (h : (kvA en)[j]? = some (k, v)) : k = Sum.inr (one en[j].1) := by
  unfold kvA at h
  rw [List.getElem?_map, List.getElem?_eq_getElem hj] at h
  exact (congrArg Prod.fst (Option.some.inj h)).symm
theorem kvA_len (en : List Ent) : (kvA en).length = en.length := List.length_map _
theorem take_fst {en : List Ent} {j : Nat} (hj : j < en.length) : (en.map (·.1)).take (j + 1) = (en.map (·.1)).take j ++ [en[j].1] := by
  rw [List.take_add_one, List.getElem?_map, List.getElem?_eq_getElem hj]
  rfl
theorem not_take {l : List Nat} (nd : l.Nodup) {j : Nat} (hj : j < l.length) : l[j] ∉ l.take j := fun h => by
  have e : l.take (j + 1) = l.take j ++ [l[j]] := by rw [List.take_add_one, List.getElem?_eq_getElem hj]; rfl
  have n2 := List.Nodup.sublist (List.take_sublist (j + 1) l) nd
  rw [e] at n2
  exact (List.nodup_append.mp n2).2.2 _ h _ List.mem_cons_self rfl
structure DfCs (K : PySem.W.Frag) (mg : Str → Option Value) where
  cs : Df K mg "components" sComponents ["grammar"]
  us : Df K mg "used_symbols" sUsedSymbols ["grammar"]
  pv : Df K mg "productive_productions" sProductiveProductions ["grammar"]
  rk : DfRk K mg
  rf : Df K mg "reached_from" sReachedFrom ["steps", "start"]
  co : Df K mg "component_of" sComponentOf ["symbol", "reached"]
  fc : Df K mg "first_component" sFirstComponent ["waiting", "reached"]
  me : mg "enumerate" = none
  ms : mg "set" = none
  mt : mg "tuple" = none
  mn : mg "any" = none
abbrev gR (es : List En) : Nat → Nat → Prop := uR (usf (es.map pE))
/-- the components of a grammar, in their order -/
def CsOf (es : List En) (out : List (List Nat)) : Prop := ∃ W : List (List Nat), W.Pairwise (fun a b => hdC a < hdC b) ∧ (∀ l, l ∈ W ↔ ∃ c, pS (es.map pE) c ∧ l = cmp (gR es) c) ∧ OrdC (gR es) W out
theorem CsOf.uniq {es : List En} {a b : List (List Nat)} (h : CsOf es a) (k : CsOf es b) : a = b := by
  obtain ⟨W, w1, w2, o1⟩ := h
  obtain ⟨X, x1, x2, o2⟩ := k
  have e : W = X := hd_uniq W X w1 x1 fun l => by rw [w2, x2]
  subst e
  exact o1.uniq o2
def spCs (K : PySem.W.Frag) (C : Addr) : Sp := fun vs H Q _ => ∃ (g : Addr) (z : Str) (es : List En), vs = [.ref g] ∧ GrOk K C H g z es ∧
  ∀ H' l (ws : List AC), Same H H' → H l = none → H' l = some (.lst (ws.map fun t => V.ref t.1)) → (∀ t ∈ ws, SqT K H' t.1 ((t.2.map one).map V.str)) → CsOf es (ws.map (·.2)) → Q (.ref l) H'
section
variable {P : Program} {w : World} {K : PySem.W.Frag} {mg : Str → Option Value} {base : Heap}
theorem scCs : FnScope ["grammar", "used", "symbol", "reached", "waiting", "listed", "component", "other"] ["grammar"] (defScope sComponents) := ⟨rfl, rfl, rfl, by decide +kernel, rfl, by decide +kernel, by decide +kernel⟩
theorem ok_cs (D : DfCs K mg) : FnOk P w K mg base CX0 7 D.cs.f D.cs.fd ["grammar"] (spCs K D.rk.gr.C) := by
  have Gu : FnOk P w K mg base CX0 6 D.us.f D.us.fd ["grammar"] (spUs K D.rk.gr.C) := ok_us D.us D.pv D.rk D.me
  have Gf : FnOk P w K mg base CX0 1 D.rf.f D.rf.fd ["steps", "start"] spRf := ok_rf D.rf D.rk.mso
  have Go : FnOk P w K mg base CX0 1 D.co.f D.co.fd ["symbol", "reached"] (spCo K) := ok_co D.co D.rk.mso D.ms D.mt
  have Gh : FnOk P w K mg base CX0 1 D.fc.f D.fc.fd ["waiting", "reached"] (spFc K) := ok_fc D.fc D.mn
  refine D.cs.F.ok scCs (fun vs H Q E h => ?_) (fun cdv A outer s H vs Q E hr h => ?_)
  · obtain ⟨g, z, es, rfl, _⟩ := h
    rfl
  · obtain ⟨g, z, es, rfl, ok, k⟩ := h
    have hr1 : Room 1 _ := hr.mono (by decide)
    have hr6 : Room 6 _ := hr
    refine ⟨_, PSs.nox (pss_cons (ps_set (i := 1) scCs.nd rfl (.inr rfl) (pe_call Gu hr6 (by rfl) D.us.g D.us.F.kp D.us.b .nil pass0 (pa_cons (pv 0) pa_nil))) (pss_cons (ps_set (i := 3) scCs.nd rfl (.inr rfl) (pe_dc (own := [("symbol", 2)]) (g := gName 2) rfl scCs.nd (PK.pi_keysL (pv 1)) (blkOk_by (N := ["grammar", "used", "symbol", "reached", "waiting", "listed", "component", "other"]) (sc := defScope sComponents) (by decide +kernel)) (fun _ _ _ _ _ => pg_name (i := 2) scCs.nd rfl (Or.inl rfl)) (fun _ _ _ _ _ => pts_nil) (fun _ _ _ _ _ => (pv 2)) (fun _ _ _ _ _ => (pe_call Gf hr1 (by rfl) D.rf.g D.rf.F.kp D.rf.b .nil pass0 (pa_cons (pv 1) (pa_cons (pv 2) pa_nil)))))) (pss_cons (ps_set (i := 4) scCs.nd rfl (.inl rfl) (pe_callB (NSet.cr_sortN rfl (u66c hr)) (by rfl) D.rk.mso (by decide +kernel) (pa_cons (NSet.pe_sc (own := [("symbol", 2)]) (g := gName 2) (tt := tYes) (NSet.adds_N _ _ _) (NSet.setO_fresh _ _) (u16c hr) rfl scCs.nd (PK.pi_keysL (pv 3)) (blkOk_by (N := ["grammar", "used", "symbol", "reached", "waiting", "listed", "component", "other"]) (sc := defScope sComponents) (by decide +kernel)) (fun _ _ _ _ _ => pg_name (i := 2) scCs.nd rfl (Or.inl rfl)) (fun _ _ _ _ _ => pts_nil) (fun _ _ _ _ _ => (pe_call Go hr1 (by rfl) D.co.g D.co.F.kp D.co.b .nil pass0 (pa_cons (pv 2) (pa_cons (pv 3) pa_nil))))) pa_nil))) (pss_cons (ps_set (i := 5) scCs.nd rfl (.inl rfl) (pe_lst pa_nil)) (pss_cons (ps_while PassesOwn.never (pt_truth (pv 4) (by intro _; rfl)) (pss_cons (ps_set (i := 6) scCs.nd rfl (.inr rfl) (pe_call Gh hr1 (by rfl) D.fc.g D.fc.F.kp D.fc.b .nil pass0 (pa_cons (pv 4) (pa_cons (pv 3) pa_nil)))) (pss_cons (ps_expr (pe_bm PySem.F.plainAttrs_list PySem.F.slot_list_append PySem.F.type_list_append mt_append (pv 5) (pa_cons (pv 6) pa_nil))) (pss_one (ps_setLc (i := 4) (own := [("other", 7)]) (g := gName 7) rfl scCs.nd rfl rfl (sw_true rfl rfl rfl (by decide +kernel)) (pi_list (pv 4)) (blkOk_by (N := ["grammar", "used", "symbol", "reached", "waiting", "listed", "component", "other"]) (sc := defScope sComponents) (by decide +kernel)) (fun _ _ _ _ _ => pg_name (i := 7) scCs.nd rfl (Or.inl rfl)) (fun _ _ _ _ _ => (pts_one (pt_cmpR (r := rNeD K) (by exact op_neD hr.units) (pv 7) (pv 6) (nomark _)))) (fun _ _ _ _ _ => (pv 7))))))) (pss_one (ps_ret (pv 5)))))))), ?_⟩
    refine ⟨.ref g, rfl, g, z, es, rfl, ok, fun H1 D0 en s1 nD gD tab pw csm => ?_⟩
    dsimp only [gName, List.set]
    have sy : ∀ p ∈ es.map pE, symB p.1 = true := fun p hp => by
      obtain ⟨e, he, rfl⟩ := List.mem_map.mp hp
      exact (ok.yl e he).2
    have ksy : ∀ c ∈ en.map (·.1), symB c = true := fun c hc => by
      obtain ⟨p, hp, rfl⟩ := FF_sub ((csm c).mp hc)
      exact sy p hp
    have enl : en.length ≤ 26 := by
      have := syms_len (pw_nd pw) ksy
      rwa [List.length_map] at this
    have gp : Gph (gR es) (en.map (·.1)) := ⟨ksy, fun a b r => by
      rw [csm, csm]
      exact uR_keys ok.six sy r⟩
    refine ⟨.ref D0, rfl, D0, _, rfl, gD, fun od => ?_⟩
    have s2 : Same H (upd H1 D0 (.frz od (.dK (kvA en)))) := fun b o e => (upd_ne (ne_of_none e nD)).trans (s1 b o e)
    have tab2 : Tab 1000 (upd H1 D0 (.frz od (.dK (kvA en)))) D0 en (gR es) := ⟨.inr ⟨od, upd_same⟩, tab.nd, fun p hp => by
      obtain ⟨l, g, r⟩ := tab.row p hp
      exact ⟨l, (upd_ne (fun z => by rw [z, gD] at g; cases g)).trans g, r⟩⟩
    have gf : (upd H1 D0 (.frz od (.dK (kvA en)))) D0 = some (.frz od (.dK (kvA en))) := upd_same
    generalize upd H1 D0 (.frz od (.dK (kvA en))) = H2 at s2 tab2 gf ⊢
    refine ⟨D0, od, rfl, .inl ⟨_, gf, fun W hW => ?_⟩⟩
    refine dc_it (walk_keys (d := D0) (o := od)) (fun j F => ∃ e2 : List Ent, F W = some (.dK (kvA e2)) ∧ e2.map (·.1) = (en.map (·.1)).take j ∧ (∀ p ∈ e2, ∃ l : List Nat, F p.2 = some (.lst ((l.map one).map V.str)) ∧ l.length ≤ 1000 ∧ ∀ d, d ∈ l ↔ Rc (gR es) p.1 d) ∧ Same H2 F) ⟨[], upd_same, rfl, fun p hp => (nomatch hp), same_upd hW⟩ (fun _ _ _ ⟨_, _, _, _, sm⟩ => sm _ _ gf) ?_ ?_
    · rintro j x F1 F2 hj ⟨e2, gW, ee, rows, sm⟩ ⟨rfl, kk, v, hx, rfl⟩
      rw [kvA_len] at hj
      have hk := kvA_at hj hx
      subst hk
      have ck : en[j].1 ∈ en.map (·.1) := List.mem_map.mpr ⟨_, List.getElem_mem hj, rfl⟩
      refine ⟨rfl, yes ⟨_, rfl, .ref D0, rfl, .str (one en[j].1), rfl, D0, en[j].1, en, gR es, 1000, rfl, tab2.same sm, ck, fun a b r => ⟨(gp.2 _ _ r).2, ksy _ (gp.2 _ _ r).2⟩, fun F3 q l s3 nq gq pwl ml => ?_⟩⟩
      have ll : l.length ≤ 26 := syms_len (pw_nd pwl) fun d hd => by
        obtain ⟨b, r⟩ := ((ml d).mp hd).last
        exact ksy _ (gp.2 _ _ r).2
      have gW3 := s3 _ _ gW
      have nn : en[j].1 ∉ e2.map (·.1) := by
        rw [ee]
        have := not_take (l := en.map (·.1)) (pw_nd pw) (j := j) (by rw [List.length_map]; exact hj)
        rwa [List.getElem_map] at this
      have nW : ∀ {b : Addr} {xs : List V}, F3 b = some (.lst xs) → b ≠ W := fun hb e => by
        rw [e, gW3] at hb
        cases hb
      refine ⟨_, Sum.inr (one en[j].1), rfl, gW3, ?_, e2 ++ [(en[j].1, q)], ?_, ?_, fun r hr => ?_, fun b o e => (upd_ne (ne_of_none e hW)).trans ((sm.trans s3) _ _ e)⟩
      · rw [kvA_len]
        have := congrArg List.length ee
        rw [List.length_map, List.length_take] at this
        rw [sizeLine_eq]
        omega
      · rw [upd_same, put_new nn]
      · rw [List.map_append, ee, take_fst hj]
        rfl
      · rcases List.mem_append.mp hr with hr | hr
        · obtain ⟨l', g', r'⟩ := rows r hr
          exact ⟨l', (upd_ne (nW (s3 _ _ g'))).trans (s3 _ _ g'), r'⟩
        · rw [List.mem_singleton.mp hr]
          exact ⟨l, (upd_ne (nW gq)).trans gq, by omega, ml⟩
    rintro F ⟨e2, gW, ee, rows, sm⟩
    have ee : e2.map (·.1) = en.map (·.1) := by rw [ee, kvA_len, List.take_of_length_le (by rw [List.length_map]; exact Nat.le_refl _)]
    have e2l : e2.length = en.length := by
      have := congrArg List.length ee
      rwa [List.length_map, List.length_map] at this
    have nW0 : H W = none := fresh_of s2 hW
    have sF := s2.trans sm
    dsimp only [gName, List.set]
    clear gf gD tab tab2 s1 s2 sm hW nD
    refine ⟨.ref W, rfl, W, _, rfl, gW, fun od2 => ?_⟩
    have s3 : Same H (upd F W (.frz od2 (.dK (kvA e2)))) := fun b o e => (upd_ne (ne_of_none e nW0)).trans (sF b o e)
    have tab3 : Tab 1000 (upd F W (.frz od2 (.dK (kvA e2)))) W e2 (Rc (gR es)) := ⟨.inr ⟨od2, upd_same⟩, by rw [ee]; exact pw_nd pw, fun p hp => by
      obtain ⟨l, g, r⟩ := rows p hp
      exact ⟨l, (upd_ne (fun z => by rw [z, gW] at g; cases g)).trans g, r⟩⟩
    have gf : (upd F W (.frz od2 (.dK (kvA e2)))) W = some (.frz od2 (.dK (kvA e2))) := upd_same
    generalize upd F W (.frz od2 (.dK (kvA e2))) = G0 at s3 tab3 gf ⊢
    have gp2 : Gph (gR es) (e2.map (·.1)) := by rw [ee]; exact gp
    refine ⟨W, od2, rfl, .inl ⟨_, gf, fun S hS => ?_⟩⟩
    refine NSet.sc_it (so := fun D => NSet.SetO w D []) (put := NSet.putN1 w K) (walk_keys (d := W) (o := od2)) (fun j F => ∃ T, SetC w K F S (((e2.map (·.1)).take j).map (cmp (gR es))) T ∧ Same G0 F) ⟨[], ⟨upd_same, fun t h => (nomatch h), fun e => ⟨fun h => (nomatch h), fun h => (nomatch h)⟩, List.nodup_nil, Nat.le_refl _⟩, same_upd hS⟩ (fun _ _ _ ⟨_, _, sm⟩ => sm _ _ gf) ?_ ?_
    · rintro j x F1 F2 hj ⟨T, sT, sm⟩ ⟨rfl, kk, v, hx, rfl⟩
      rw [kvA_len] at hj
      have hk := kvA_at hj hx
      subst hk
      have ck : e2[j].1 ∈ e2.map (·.1) := List.mem_map.mpr ⟨_, List.getElem_mem hj, rfl⟩
      refine ⟨rfl, yes ⟨.str (one e2[j].1), rfl, .ref W, rfl, e2[j].1, W, e2, gR es, 1000, rfl, tab3.same sm, gp2, ck, by omega, fun F3 q s4 nq gq => ?_⟩⟩
      refine (sT.same s4).put (.inl (.inl gq)) ?_ fun H' T' kp sT' => ⟨T', ?_, fun c o e => kp c o (ne_of_none e hS) ((sm.trans s4) _ _ e)⟩
      · rw [List.length_map, List.length_take, List.length_map]
        omega
      · rw [take_fst hj, List.map_append]
        exact sT'
    rintro F1 ⟨T, sT, smT⟩
    rw [kvA_len, List.take_of_length_le (by rw [List.length_map]; exact Nat.le_refl _), ee] at sT
    have isA : ∀ l ∈ (en.map (·.1)).map (cmp (gR es)), IsC (gR es) l := fun l hl => by
      obtain ⟨c, hc, rfl⟩ := List.mem_map.mp hl
      exact ⟨c, sym_low (ksy c hc), rfl⟩
    unfold tNil
    refine SetC.sorted sT gp.low isA fun F2 p0 ws0 s5 np0 gp0 tup0 pw0 mem0 len0 => ?_
    rw [List.length_map, List.length_map] at len0
    have s6 := s3.trans (smT.trans s5)
    have tab6 := tab3.same (smT.trans s5)
    dsimp only [gName, List.set]
    refine ⟨by show 0 ≤ sizeLine; decide, fun L h_L => ?_⟩
    have nL : H L = none := fresh_of s6 h_L
    have isW : ∀ t ∈ ws0, IsC (gR es) t.2 ∧ hdC t.2 ∈ e2.map (·.1) := fun t ht => by
      obtain ⟨c, hc, e⟩ := List.mem_map.mp ((mem0 t.2).mp (List.mem_map.mpr ⟨t, ht, rfl⟩))
      have ic : IsC (gR es) t.2 := ⟨c, sym_low (ksy c hc), e.symm⟩
      have hm := hdC_mem (ic.ne gp.low)
      generalize hdC t.2 = d at hm ⊢
      rw [← e] at hm
      refine ⟨ic, ?_⟩
      rw [ee]
      rcases (cmp_mem gp.low (sym_low (ksy c hc))).mp hm with h | h
      · rw [h]
        exact hc
      · exact (gp.key h.1).2
    refine ⟨fun m σ G => ∃ (rest out : List AC) (wl : Addr) (y2 y6 y7 : Option V), m = rest.length ∧ σ = [some (.ref g), some (.ref D0), y2, some (.ref W), some (.ref wl), some (.ref L), y6, y7] ∧ G wl = some (.lst (rest.map fun t => V.ref t.1)) ∧ wl ≠ L ∧ G L = some (.lst (out.map fun t => V.ref t.1)) ∧ Same F2 G ∧ (∀ t ∈ rest, t ∈ ws0) ∧ (∀ t ∈ out, t ∈ ws0) ∧ (∀ tail, OrdC (gR es) (rest.map (·.2)) tail → OrdC (gR es) (ws0.map (·.2)) (out.map (·.2) ++ tail)) ∧ rest.length + out.length ≤ 26, ⟨_, ws0, [], p0, _, _, _, rfl, rfl, (same_upd h_L) _ _ gp0, (ne_of_none gp0 h_L), upd_same, same_upd h_L, fun _ h => h, fun _ h => (nomatch h), fun _ h => h, by show ws0.length + 0 ≤ 26; omega⟩, ?_⟩
    rintro m σ G ⟨rest, out, wl, y2, y6, y7, hm, rfl, gw, nwL, gL, sm, rin, oin, ordr, ln⟩
    refine ⟨.ref wl, rfl, _, .inl ⟨_, SqL.of gw, rfl⟩, ?_⟩
    cases rest with
    | nil =>
      refine iteF ⟨.ref L, rfl, k _ L out (s6.trans sm) nL gL (fun t ht => same_tupG sm _ _ (tup0 t (oin t ht))) ⟨ws0.map (·.2), pw0, fun l => ?_, ?_⟩⟩
      · rw [mem0, List.mem_map]
        exact ⟨fun ⟨c, h1, h2⟩ => ⟨c, (csm c).mp h1, h2.symm⟩, fun ⟨c, h1, h2⟩ => ⟨c, (csm c).mpr h1, h2.symm⟩⟩
      · have := ordr [] .nil
        rwa [List.append_nil] at this
    | cons t0 rest0 =>
      have ne : t0 :: rest0 ≠ [] := fun e => nomatch e
      generalize t0 :: rest0 = rest at hm gw rin ordr ln ne ⊢
      refine ite2 (fun _ => ?_) (fun e => ?_)
      rotate_left
      · cases rest with
        | nil => exact absurd rfl ne
        | cons a b => exact absurd (by rfl) e
      refine ⟨fun σ G => ∃ (rest out : List AC) (wl : Addr) (y2 y6 y7 : Option V), rest.length < m ∧ σ = [some (.ref g), some (.ref D0), y2, some (.ref W), some (.ref wl), some (.ref L), y6, y7] ∧ G wl = some (.lst (rest.map fun t => V.ref t.1)) ∧ wl ≠ L ∧ G L = some (.lst (out.map fun t => V.ref t.1)) ∧ Same F2 G ∧ (∀ t ∈ rest, t ∈ ws0) ∧ (∀ t ∈ out, t ∈ ws0) ∧ (∀ tail, OrdC (gR es) (rest.map (·.2)) tail → OrdC (gR es) (ws0.map (·.2)) (out.map (·.2) ++ tail)) ∧ rest.length + out.length ≤ 26, ?_, ?_⟩
      · rintro σ' G' ⟨rest', out', wl', y2', y6', y7', lt, e1, e2, e3, e4, e5, e6, e7, e8, e9⟩
        exact ⟨_, lt, rest', out', wl', y2', y6', y7', rfl, e1, e2, e3, e4, e5, e6, e7, e8, e9⟩
      refine ⟨.ref wl, rfl, .ref W, rfl, wl, W, e2, gR es, 1000, rest, rfl, tab6.same sm, gp2, ⟨SqL.of gw, fun q hq => same_tupG sm _ _ (tup0 q (rin q hq)), fun q hq => isW q (rin q hq)⟩, ne, by omega, fun G1 i q s1 atq fq => ?_⟩
      have mq := List.mem_of_getElem? atq
      have q0 := rin q mq
      have gw := s1 _ _ gw
      have gL := s1 _ _ gL
      have sm := sm.trans s1
      dsimp only [gName, List.set]
      refine ⟨.ref L, rfl, .inl ⟨rfl, _, SqL.of gL⟩, .ref q.1, rfl, L, _, _, rfl, rfl, gL, ?_, ?_⟩
      · rw [List.length_map, sizeLine_eq]
        omega
      have eo : (out.map fun t => V.ref t.1) ++ [V.ref q.1] = (out ++ [q]).map fun t => V.ref t.1 := by rw [List.map_append]; rfl
      rw [eo]
      have gw := (upd_ne (o := .lst ((out ++ [q]).map fun t => V.ref t.1)) nwL).trans gw
      have sm : Same F2 (upd G1 L (.lst ((out ++ [q]).map fun t => V.ref t.1))) := fun b o e => (upd_ne (ne_of_none e h_L)).trans (sm b o e)
      have gL : (upd G1 L (.lst ((out ++ [q]).map fun t => V.ref t.1))) L = some (.lst ((out ++ [q]).map fun t => V.ref t.1)) := upd_same
      generalize upd G1 L (.lst ((out ++ [q]).map fun t => V.ref t.1)) = G2 at gw sm gL ⊢
      refine ⟨.ref wl, rfl, wl, rfl, ⟨_, SqL.of gw⟩, fun B hB => ?_⟩
      refine lc_it (walk_list (xs := rest.map fun t => V.ref t.1)) (fun j F => F B = some (.lst (((rest.take j).filter fun r => !decide (r.2 = q.2)).map fun t => V.ref t.1)) ∧ Same G2 F) ⟨upd_same, same_upd hB⟩ (fun _ _ _ ⟨_, s2⟩ => SqL.of (s2 _ _ gw)) ?_ ?_
      · rintro j x F4 F5 hj ⟨gB, s2⟩ ⟨rfl, hx⟩
        rw [List.length_map] at hj
        rw [List.getElem?_map, List.getElem?_eq_getElem hj] at hx
        have hx : V.ref rest[j].1 = x := Option.some.inj hx
        subst hx
        have tk : rest.take (j + 1) = rest.take j ++ [rest[j]] := by rw [List.take_add_one, List.getElem?_eq_getElem hj]; rfl
        have r0 := rin _ (List.getElem_mem hj)
        generalize rest[j] = r at r0 tk ⊢
        have s3 := sm.trans s2
        refine ⟨rfl, .ref r.1, rfl, .ref q.1, rfl, cD r.2, cD q.2, cD_dp (same_tupG s3 _ _ (tup0 r r0)), cD_dp (same_tupG s3 _ _ (tup0 q q0)), cD_shaped ((isW r r0).1.low gp.low), cD_shaped ((isW q q0).1.low gp.low), ?_⟩
        rw [cD_eqv]
        refine ⟨_, rfl, ite2 (fun e => ⟨.ref r.1, rfl, _, gB, ?_, ?_, fun b o h => (upd_ne (ne_of_none h hB)).trans (s2 b o h)⟩) (fun e => ⟨?_, s2⟩)⟩
        · rw [List.length_map, sizeLine_eq]
          have := List.length_filter_le (fun r : AC => !decide (r.2 = q.2)) (rest.take j)
          rw [List.length_take] at this
          omega
        · rw [upd_same, tk, List.filter_append, List.map_append]
          have f1 : List.filter (fun r : AC => !decide (r.2 = q.2)) [r] = [r] := List.filter_cons_of_pos e
          rw [f1]
          rfl
        · rw [tk, List.filter_append]
          have f1 : List.filter (fun r : AC => !decide (r.2 = q.2)) [r] = [] := List.filter_cons_of_neg e
          rw [f1, List.append_nil]
          exact gB
      rintro F4 ⟨gB, s2⟩
      rw [List.length_map, List.take_length] at gB
      have eC : (rest.filter fun r => !decide (r.2 = q.2)).map (·.2) = (rest.map (·.2)).filter fun L => !decide (L = q.2) := by
        rw [List.filter_map]
        rfl
      have lt : (rest.filter fun r => !decide (r.2 = q.2)).length < rest.length := by
        refine List.length_filter_lt_length_iff_exists.mpr ⟨q, mq, ?_⟩
        rw [decide_eq_true rfl]
        decide
      have ol : (out ++ [q]).length = out.length + 1 := List.length_append
      dsimp only [gName, List.set]
      refine ⟨_, out ++ [q], B, _, _, _, by omega, rfl, gB, (ne_of_none gL hB).symm, s2 _ _ gL, sm.trans s2, fun t ht => rin t (List.mem_filter.mp ht).1, fun t ht => ?_, fun tail o => ?_, by omega⟩
      · rcases List.mem_append.mp ht with h | h
        · exact oin t h
        · rw [List.mem_singleton.mp h]
          exact q0
      · rw [eC] at o
        have := ordr (q.2 :: tail) (.cons fq o)
        rw [List.map_append, List.append_assoc]
        exact this
end
end DW
/-! the kinds of components -/
namespace DW
open PySem PySem.Spec PyProof.Rows L2 TL
set_option autoImplicit false
/-- the items of a text that stand in a component -/
def inC (l : List Nat) (y : Str) : List Nat := (tl y).filter fun d => decide (d ∈ l)
def nsC (ps : List (Nat × Str)) (l : List Nat) : List Nat := (ps.filter fun p => decide (p.1 ∈ l)).map fun p => (inC l p.2).length
def kindS (ps : List (Nat × Str)) (l : List Nat) : Str := if (nsC ps l).all (fun n => decide (n = 0)) = true then "single" else if (nsC ps l).all (fun n => decide (n ≤ 1)) = true then "linear" else "branching"
theorem FF_from {ps : List (Nat × Str)} {c : Nat} : ∀ {n : Nat}, c ∈ keysF (FF ps n) → ∃ p ∈ ps, p.1 = c ∧ ∃ m, m < n ∧ okR (FF ps m) p.2 = true
  | 0, h => nomatch h
  | n + 1, h => by
    rcases stp_keys.mp h with q | q
    · obtain ⟨p, h1, h2, m, h3, h4⟩ := FF_from q
      exact ⟨p, h1, h2, m, by omega, h4⟩
    · obtain ⟨p, hp, e⟩ := List.mem_map.mp q
      obtain ⟨h1, h2⟩ := List.mem_filter.mp hp
      rw [Bool.and_eq_true] at h2
      exact ⟨p, h1, e, n, by omega, h2.2⟩
theorem FF_up {ps : List (Nat × Str)} {c : Nat} {n : Nat} (h : c ∈ keysF (FF ps n)) : ∀ m, c ∈ keysF (FF ps (n + m))
  | 0 => h
  | m + 1 => stp_keys.mpr (.inl (FF_up h m))
theorem okR_up {a b : Fd} (h : ∀ c, c ∈ keysF a → c ∈ keysF b) {y : Str} (k : okR a y = true) : okR b y = true := by
  unfold okR at k ⊢
  rw [List.all_eq_true] at k ⊢
  intro c hc
  have := k c hc
  rw [Bool.or_eq_true] at this ⊢
  exact this.imp id fun q => decide_eq_true (h c (of_decide_eq_true q))
theorem pS_usf {ps : List (Nat × Str)} {c : Nat} (h : pS ps c) : ∃ p ∈ usf ps, p.1 = c := by
  obtain ⟨p, h1, h2, m, h3, h4⟩ := FF_from h
  refine ⟨p, List.mem_filter.mpr ⟨h1, okR_up (fun c q => ?_) h4⟩, h2⟩
  have := FF_up q (7 - m)
  rwa [show m + (7 - m) = 7 by omega] at this
theorem OrdC.mem {R : Nat → Nat → Prop} {W out : List (List Nat)} (h : OrdC R W out) {l : List Nat} (hl : l ∈ out) : l ∈ W := by
  induction h with
  | nil => cases hl
  | cons f _ ih =>
    rcases List.mem_cons.mp hl with e | e
    · rw [e]
      exact List.mem_of_getElem? f.1
    · exact (List.mem_filter.mp (ih e)).1
theorem OrdC.len {R : Nat → Nat → Prop} {W out : List (List Nat)} (h : OrdC R W out) : out.length ≤ W.length := by
  induction h with
  | nil => exact Nat.le_refl _
  | @cons W out i K f _ ih =>
    have := List.length_filter_lt_length_iff_exists (p := fun L => !decide (L = K)) (l := W) |>.mpr ⟨K, List.mem_of_getElem? f.1, by rw [decide_eq_true rfl]; decide⟩
    rw [List.length_cons]
    omega
theorem gR_gph {es : List En} {ks : List Nat} (six : nsym (chs (es.map pE)) ≤ 6) (sy : ∀ p ∈ es.map pE, symB p.1 = true) (km : ∀ c, c ∈ ks ↔ pS (es.map pE) c) : Gph (gR es) ks := ⟨fun c hc => by
    obtain ⟨p, hp, rfl⟩ := FF_sub ((km c).mp hc)
    exact sy p hp, fun a b r => by
    rw [km, km]
    exact uR_keys six sy r⟩
theorem gR_low {es : List En} (six : nsym (chs (es.map pE)) ≤ 6) (sy : ∀ p ∈ es.map pE, symB p.1 = true) : Low (gR es) := (gR_gph (ks := keysF (FF (es.map pE) 7)) six sy fun _ => Iff.rfl).low
theorem CsOf.usf {es : List En} {out : List (List Nat)} (h : CsOf es out) (six : nsym (chs (es.map pE)) ≤ 6) (sy : ∀ p ∈ es.map pE, symB p.1 = true) {l : List Nat} (hl : l ∈ out) : ∃ p ∈ usf (es.map pE), p.1 ∈ l := by
  obtain ⟨W, w1, w2, o⟩ := h
  obtain ⟨c, hc, rfl⟩ := (w2 l).mp (o.mem hl)
  obtain ⟨p, hp, e⟩ := pS_usf hc
  refine ⟨p, hp, ?_⟩
  have g := gR_gph (ks := keysF (FF (es.map pE) 7)) six sy fun _ => Iff.rfl
  rw [cmp_mem g.low (sym_low (g.1 c hc)), e]
  exact .inl rfl
theorem hd_nodup {W : List (List Nat)} (h : W.Pairwise fun a b => hdC a < hdC b) : (W.map hdC).Nodup := by
  rw [List.nodup_iff_pairwise_ne, List.pairwise_map]
  exact h.imp fun q e => by rw [e] at q; exact Nat.lt_irrefl _ q
theorem CsOf.len {es : List En} {out : List (List Nat)} (h : CsOf es out) (six : nsym (chs (es.map pE)) ≤ 6) (sy : ∀ p ∈ es.map pE, symB p.1 = true) : out.length ≤ 26 := by
  obtain ⟨W, w1, w2, o⟩ := h
  have g := gR_gph (ks := keysF (FF (es.map pE) 7)) six sy fun _ => Iff.rfl
  have := syms_len (hd_nodup w1) fun d hd => by
    obtain ⟨l, hl, rfl⟩ := List.mem_map.mp hd
    obtain ⟨c, hc, rfl⟩ := (w2 l).mp hl
    have hm := hdC_mem (cmp_ne g.low (sym_low (g.1 c hc)))
    generalize hdC (cmp (gR es) c) = d at hm ⊢
    rcases (cmp_mem g.low (sym_low (g.1 c hc))).mp hm with e | e
    · rw [e]
      exact g.1 c hc
    · exact g.1 d (g.key e.1).2
  rw [List.length_map] at this
  have := o.len
  omega
def spIc (K : PySem.W.Frag) (C : Addr) : Sp := fun vs H Q _ => ∃ (g c : Addr) (z : Str) (es : List En) (l : List Nat), vs = [.ref g, .ref c] ∧ GrOk K C H g z es ∧ SqT K H c ((l.map one).map V.str) ∧
  ∀ H' q, Same H H' → H q = none → H' q = some (.lst (((usf (es.map pE)).filter fun p => decide (p.1 ∈ l)).map fun p => V.str p.2)) → Q (.ref q) H'
def spInn (K : PySem.W.Frag) : Sp := fun vs H Q _ => ∃ (y : Str) (c : Addr) (l : List Nat), vs = [.str y, .ref c] ∧ SqT K H c ((l.map one).map V.str) ∧ (tl y).length ≤ 1000 ∧
  ∀ H' q, Same H H' → H q = none → H' q = some (.lst (((inC l y).map one).map V.str)) → Q (.ref q) H'
def spCk (K : PySem.W.Frag) (C : Addr) : Sp := fun vs H Q _ => ∃ (g c : Addr) (z : Str) (es : List En) (l : List Nat), vs = [.ref g, .ref c] ∧ GrOk K C H g z es ∧ SqT K H c ((l.map one).map V.str) ∧ (∃ p ∈ usf (es.map pE), p.1 ∈ l) ∧
  ∀ H', Same H H' → Q (.str (kindS (usf (es.map pE)) l)) H'
def spCks (K : PySem.W.Frag) (C : Addr) : Sp := fun vs H Q _ => ∃ (g : Addr) (z : Str) (es : List En), vs = [.ref g] ∧ GrOk K C H g z es ∧
  ∀ H' q (out : List (List Nat)), Same H H' → H q = none → H' q = some (.lst (out.map fun l => V.str (kindS (usf (es.map pE)) l))) → CsOf es out → Q (.ref q) H'
def rLenC (K : PySem.W.Frag) : List V → Hp → VK → Prop := fun xs H Q => ∃ p ys, xs = [V.ref p] ∧ (SqL K H p ys ∨ SqT K H p ys) ∧ Q (V.int ↑ys.length) H
structure DfCk (K : PySem.W.Frag) (mg : Str → Option Value) where
  c : DfCs K mg
  ic : Df K mg "items_of_component" sItemsOfComponent ["grammar", "component"]
  inn : Df K mg "inner_items" sInnerItems ["items", "component"]
  ck : Df K mg "component_kind" sComponentKind ["grammar", "component"]
  cks : Df K mg "component_kinds" sComponentKinds ["grammar"]
  mm : mg "max" = none
  ml : mg "len" = none
section
variable {P : Program} {w : World} {K : PySem.W.Frag} {mg : Str → Option Value} {base : Heap}
theorem scIc : FnScope ["grammar", "component", "index", "symbol", "items"] ["grammar", "component"] (defScope sItemsOfComponent) := ⟨rfl, rfl, rfl, by decide +kernel, rfl, by decide +kernel, by decide +kernel⟩
theorem ok_ic (D : DfCs K mg) (Di : Df K mg "items_of_component" sItemsOfComponent ["grammar", "component"]) : FnOk P w K mg base CX0 6 Di.f Di.fd ["grammar", "component"] (spIc K D.rk.gr.C) := by
  have Gp : FnOk P w K mg base CX0 5 D.pv.f D.pv.fd ["grammar"] (spPv K D.rk.gr.C) := ok_pv D.pv D.rk D.me
  refine Di.F.ok scIc (fun vs H Q E h => ?_) (fun cdv A outer s H vs Q E hr h => ?_)
  · obtain ⟨g, c, z, es, l, rfl, _⟩ := h
    rfl
  · obtain ⟨g, c, z, es, l, rfl, ok, hc, k⟩ := h
    have hr5 : Room 5 _ := hr
    refine ⟨_, PSs.nox (pss_one (ps_ret (pe_lc (own := [("index", 2), ("symbol", 3), ("items", 4)]) (g := gTup K 3 (gCons (gName 2) (gCons (gName 3) (gCons (gName 4) gNil)))) rfl scIc.nd (pi_list (pe_call Gp hr5 (by rfl) D.pv.g D.pv.F.kp D.pv.b .nil pass0 (pa_cons (pv 0) pa_nil))) (blkOk_by (N := ["grammar", "component", "index", "symbol", "items"]) (sc := defScope sItemsOfComponent) (by decide +kernel)) (fun _ _ _ _ _ => (pg_tup rfl (pgs_cons (pg_name (i := 2) scIc.nd rfl (.inl rfl)) (pgs_cons (pg_name (i := 3) scIc.nd rfl (.inl rfl)) (pgs_cons (pg_name (i := 4) scIc.nd rfl (.inl rfl)) pgs_nil))))) (fun _ _ _ _ _ => (pts_one (pt_cmpR (r := rIn K false) op_in_seq (pv 3) (pv 1) rfl))) (fun _ _ _ _ _ => (pv 4))))), ?_⟩
    refine ⟨.ref g, rfl, g, z, es, rfl, ok, fun H1 q ts s1 nq gq t3 et => ?_⟩
    refine ⟨q, rfl, ⟨_, SqL.of gq⟩, fun L hL => ?_⟩
    have tl16 : ts.length ≤ 16 := by
      have h1 := congrArg List.length et
      unfold usf at h1
      have h2 := List.length_filter_le (fun p : Nat × Str => okR (FF (es.map pE) 7) p.2) (es.map pE)
      rw [List.length_map] at h1 h2
      have := ok.el
      omega
    refine lc_it (walk_list (xs := ts.map vE)) (fun j F => F L = some (.lst ((((ts.take j).map pE).filter fun p => decide (p.1 ∈ l)).map fun p => V.str p.2)) ∧ Same H1 F) ⟨upd_same, same_upd hL⟩ (fun _ _ _ ⟨_, sm⟩ => SqL.of (sm _ _ gq)) ?_ ?_
    · rintro j x F1 F2 hj ⟨gL, sm⟩ ⟨rfl, hx⟩
      rw [List.length_map] at hj
      rw [List.getElem?_map, List.getElem?_eq_getElem hj] at hx
      have hx : V.ref ts[j].1 = x := Option.some.inj hx
      subst hx
      have tk : ts.take (j + 1) = ts.take j ++ [ts[j]] := by rw [List.take_add_one, List.getElem?_eq_getElem hj]; rfl
      obtain ⟨ix, gt⟩ := t3.same sm _ (List.getElem_mem hj)
      generalize ts[j] = t at gt tk ⊢
      refine ⟨t.1, _, rfl, gt, rfl, _, _, rfl, _, _, rfl, _, _, rfl, rfl, rfl, .str (one t.2.1), rfl, .ref c, rfl, c, _, rfl, .inr (same_tupG (s1.trans sm) _ _ hc), rfl, flatV_ones l, ?_⟩
      rw [inV_one]
      refine ⟨_, rfl, ite2 (fun e => ⟨.str t.2.2, rfl, _, gL, ?_, ?_, fun b o h => (upd_ne (ne_of_none h hL)).trans (sm b o h)⟩) (fun e => ⟨?_, sm⟩)⟩
      · rw [List.length_map, sizeLine_eq]
        have := List.length_filter_le (fun p : Nat × Str => decide (p.1 ∈ l)) ((ts.take j).map pE)
        rw [List.length_map, List.length_take] at this
        omega
      · have f1 : List.filter (fun p : Nat × Str => decide (p.1 ∈ l)) [pE t] = [pE t] := List.filter_cons_of_pos e
        rw [upd_same, tk, List.map_append, List.filter_append, List.map_append, List.map_cons, List.map_nil, f1]
        rfl
      · have f1 : List.filter (fun p : Nat × Str => decide (p.1 ∈ l)) [pE t] = [] := List.filter_cons_of_neg e
        rw [tk, List.map_append, List.filter_append, List.map_cons, List.map_nil, f1, List.append_nil]
        exact gL
    rintro F ⟨gL, sm⟩
    rw [List.length_map, List.take_length, et] at gL
    exact k F L (s1.trans sm) (fresh_of s1 hL) gL
theorem scInn : FnScope ["items", "component", "item"] ["items", "component"] (defScope sInnerItems) := ⟨rfl, rfl, rfl, by decide +kernel, rfl, by decide +kernel, by decide +kernel⟩
theorem ok_inn (Dn : Df K mg "inner_items" sInnerItems ["items", "component"]) : FnOk P w K mg base CX0 1 Dn.f Dn.fd ["items", "component"] (spInn K) := by
  refine Dn.F.ok scInn (fun vs H Q E h => ?_) (fun cdv A outer s H vs Q E hr h => ?_)
  · obtain ⟨y, c, l, rfl, _⟩ := h
    rfl
  · obtain ⟨y, c, l, rfl, hc, yl, k⟩ := h
    refine ⟨_, PSs.nox (pss_one (ps_ret (pe_lc (own := [("item", 2)]) (g := gName 2) rfl scInn.nd (pi_str (pv 0)) (blkOk_by (N := ["items", "component", "item"]) (sc := defScope sInnerItems) (by decide +kernel)) (fun _ _ _ _ _ => pg_name (i := 2) scInn.nd rfl (Or.inl rfl)) (fun _ _ _ _ _ => (pts_one (pt_cmpR (r := rIn K false) op_in_seq (pv 2) (pv 1) rfl))) (fun _ _ _ _ _ => (pv 2))))), ?_⟩
    refine ⟨.str y, rfl, y, rfl, fun L hL => ?_⟩
    refine lc_it (walk_str (z := y)) (fun j F => F L = some (.lst (((((tl y).take j).filter fun d => decide (d ∈ l)).map one).map V.str)) ∧ Same H F) ⟨upd_same, same_upd hL⟩ (fun _ _ _ _ => trivial) ?_ ?_
    · rintro j x F1 F2 hj ⟨gL, sm⟩ ⟨rfl, c0, hx, rfl⟩
      have hx : (tl y)[j]? = some c0 := by
        rw [← hx]
        exact Array.getElem?_toList
      have tk : (tl y).take (j + 1) = (tl y).take j ++ [c0] := by rw [List.take_add_one, hx]; rfl
      have hj : j < (tl y).length := hj
      refine ⟨rfl, .str (one c0), rfl, .ref c, rfl, c, _, rfl, .inr (same_tupG sm _ _ hc), rfl, flatV_ones l, ?_⟩
      rw [inV_one]
      refine ⟨_, rfl, ite2 (fun e => ⟨.str (one c0), rfl, _, gL, ?_, ?_, fun b o h => (upd_ne (ne_of_none h hL)).trans (sm b o h)⟩) (fun e => ⟨?_, sm⟩)⟩
      · rw [List.length_map, List.length_map, sizeLine_eq]
        have := List.length_filter_le (fun d => decide (d ∈ l)) ((tl y).take j)
        rw [List.length_take] at this
        omega
      · have f1 : List.filter (fun d => decide (d ∈ l)) [c0] = [c0] := List.filter_cons_of_pos e
        rw [upd_same, tk, List.filter_append, List.map_append, List.map_append, f1]
        rfl
      · have f1 : List.filter (fun d => decide (d ∈ l)) [c0] = [] := List.filter_cons_of_neg e
        rw [tk, List.filter_append, f1, List.append_nil]
        exact gL
    rintro F ⟨gL, sm⟩
    rw [List.take_of_length_le (show (tl y).length ≤ y.cps.size from Nat.le_refl _)] at gL
    exact k F L sm hL gL
theorem scCk : FnScope ["grammar", "component", "items", "many"] ["grammar", "component"] (defScope sComponentKind) := ⟨rfl, rfl, rfl, by decide +kernel, rfl, by decide +kernel, by decide +kernel⟩
theorem ok_ck (D : DfCk K mg) : FnOk P w K mg base CX0 7 D.ck.f D.ck.fd ["grammar", "component"] (spCk K D.c.rk.gr.C) := by
  have Gi : FnOk P w K mg base CX0 6 D.ic.f D.ic.fd ["grammar", "component"] (spIc K D.c.rk.gr.C) := ok_ic D.c D.ic
  have Gn : FnOk P w K mg base CX0 1 D.inn.f D.inn.fd ["items", "component"] (spInn K) := ok_inn D.inn
  refine D.ck.F.ok scCk (fun vs H Q E h => ?_) (fun cdv A outer s H vs Q E hr h => ?_)
  · obtain ⟨g, c, z, es, l, rfl, _⟩ := h
    rfl
  · obtain ⟨g, c, z, es, l, rfl, ok, hc, ne, k⟩ := h
    have hr1 : Room 1 _ := hr.mono (by decide)
    have hr6 : Room 6 _ := hr
    refine ⟨_, PSs.nox (pss_cons (ps_set (i := 3) scCk.nd rfl (.inl rfl) (pe_callB (cr_max rfl) (by rfl) D.mm (by decide +kernel) (pa_cons (pe_lc (own := [("items", 2)]) (g := gName 2) rfl scCk.nd (pi_list (pe_call Gi hr6 (by rfl) D.ic.g D.ic.F.kp D.ic.b .nil pass0 (pa_cons (pv 0) (pa_cons (pv 1) pa_nil)))) (blkOk_by (N := ["grammar", "component", "items", "many"]) (sc := defScope sComponentKind) (by decide +kernel)) (fun _ _ _ _ _ => pg_name (i := 2) scCk.nd rfl (Or.inl rfl)) (fun _ _ _ _ _ => pts_nil) (fun _ _ _ _ _ => (pe_callB (r := rLenC K) call_len_seq (by rfl) D.ml PySem.boot_len (pa_cons (pe_call Gn hr1 (by rfl) D.inn.g D.inn.F.kp D.inn.b .nil pass0 (pa_cons (pv 2) (pa_cons (pv 1) pa_nil))) pa_nil)))) pa_nil))) (pss_cons (ps_if (pt_cmp (pc_eqI (pv 3) pe_int)) (pss_one (ps_ret pe_str)) pss_nil) (pss_one (ps_ret (pe_ifExp (pt_cmp (pc_eqI (pv 3) pe_int)) pe_str pe_str))))), ?_⟩
    refine ⟨.ref g, rfl, .ref c, rfl, g, c, z, es, l, rfl, ok, hc, fun H1 q s1 nq gq => ?_⟩
    have yl : ∀ p ∈ usf (es.map pE), (tl p.2).length ≤ 100 := fun p hp => by
      obtain ⟨e, he, rfl⟩ := List.mem_map.mp (usf_sub hp)
      exact (ok.yl e he).1
    have ul : (usf (es.map pE)).length ≤ 16 := by
      unfold usf
      have h2 := List.length_filter_le (fun p : Nat × Str => okR (FF (es.map pE) 7) p.2) (es.map pE)
      rw [List.length_map] at h2
      have := ok.el
      omega
    have nsE : nsC (usf (es.map pE)) l = ((usf (es.map pE)).filter fun p => decide (p.1 ∈ l)).map fun p => (inC l p.2).length := rfl
    generalize eS : ((usf (es.map pE)).filter fun p => decide (p.1 ∈ l)) = S at gq nsE
    have Sy : ∀ p ∈ S, (tl p.2).length ≤ 100 := fun p hp => by
      rw [← eS] at hp
      exact yl p (List.mem_filter.mp hp).1
    have Sl : S.length ≤ 16 := by
      rw [← eS]
      exact Nat.le_trans (List.length_filter_le _ _) ul
    have S0 : S ≠ [] := fun e => by
      obtain ⟨p, h1, h2⟩ := ne
      have : p ∈ S := by rw [← eS]; exact List.mem_filter.mpr ⟨h1, decide_eq_true h2⟩
      rw [e] at this
      cases this
    refine ⟨q, rfl, ⟨_, SqL.of gq⟩, fun L hL => ?_⟩
    refine lc_it (walk_list (xs := S.map fun p => V.str p.2)) (fun j F => F L = some (.lst ((((S.take j).map fun p => ((inC l p.2).length : Int))).map V.int)) ∧ Same H1 F) ⟨upd_same, same_upd hL⟩ (fun _ _ _ ⟨_, sm⟩ => SqL.of (sm _ _ gq)) ?_ ?_
    · rintro j x F1 F2 hj ⟨gL, sm⟩ ⟨rfl, hx⟩
      rw [List.length_map] at hj
      rw [List.getElem?_map, List.getElem?_eq_getElem hj] at hx
      have hx : V.str S[j].2 = x := Option.some.inj hx
      subst hx
      have tk : S.take (j + 1) = S.take j ++ [S[j]] := by rw [List.take_add_one, List.getElem?_eq_getElem hj]; rfl
      have yb := Sy _ (List.getElem_mem hj)
      generalize S[j] = p at yb tk ⊢
      refine ⟨rfl, yes ⟨.str p.2, rfl, .ref c, rfl, p.2, c, l, rfl, same_tupG (s1.trans sm) _ _ hc, by omega, fun F3 r s3 nr gr => ⟨r, _, rfl, .inl (SqL.of gr), _, s3 _ _ gL, ?_, ?_, fun b o h => (upd_ne (ne_of_none h hL)).trans ((sm.trans s3) b o h)⟩⟩⟩
      · rw [List.length_map, List.length_map, List.length_take, sizeLine_eq]
        omega
      · rw [upd_same, tk, List.map_append, List.map_append, List.length_map, List.length_map]
        rfl
    rintro F ⟨gL, sm⟩
    rw [List.length_map, List.take_length] at gL
    refine ⟨L, _, rfl, SqL.of gL, by rw [List.length_map]; exact List.length_pos_iff.mpr S0, fun m hm mx => ?_⟩
    obtain ⟨p0, hp0, e0⟩ := List.mem_map.mp hm
    have k := k F (s1.trans sm)
    have all0 : (nsC (usf (es.map pE)) l).all (fun n => decide (n = 0)) = decide (m = 0) := by
      rw [nsE, Bool.eq_iff_iff, List.all_eq_true, decide_eq_true_eq]
      constructor
      · intro h
        have := of_decide_eq_true (h _ (List.mem_map.mpr ⟨p0, hp0, rfl⟩))
        rw [← e0, this]
        rfl
      · intro h n hn
        obtain ⟨p, hp, rfl⟩ := List.mem_map.mp hn
        have := mx _ (List.mem_map.mpr ⟨p, hp, rfl⟩)
        exact decide_eq_true (by omega)
    have all1 : (nsC (usf (es.map pE)) l).all (fun n => decide (n ≤ 1)) = decide (m ≤ 1) := by
      rw [nsE, Bool.eq_iff_iff, List.all_eq_true, decide_eq_true_eq]
      constructor
      · intro h
        have := of_decide_eq_true (h _ (List.mem_map.mpr ⟨p0, hp0, rfl⟩))
        omega
      · intro h n hn
        obtain ⟨p, hp, rfl⟩ := List.mem_map.mp hn
        have := mx _ (List.mem_map.mpr ⟨p, hp, rfl⟩)
        exact decide_eq_true (by omega)
    have m0 : 0 ≤ m := by omega
    unfold kindS at k
    rw [all0, all1] at k
    dsimp only [gName, List.set]
    by_cases q0 : m = 0
    · rw [decide_eq_true q0, if_pos rfl] at k
      exact ⟨.int m, rfl, m, 0, rfl, rfl, _, rfl, ite2 (fun _ => k) (fun e => absurd (decide_eq_true q0) e)⟩
    · rw [decide_eq_false q0, if_neg (by decide)] at k
      refine ⟨.int m, rfl, m, 0, rfl, rfl, _, rfl, ite2 (fun e => absurd (of_decide_eq_true e) q0) (fun _ => ?_)⟩
      refine ⟨.int m, rfl, m, 1, rfl, rfl, _, rfl, ite2 (fun e => ?_) (fun e => ?_)⟩
      · have := of_decide_eq_true e
        rw [decide_eq_true (by omega), if_pos rfl] at k
        exact k
      · have : ¬ m = 1 := fun z => e (decide_eq_true z)
        rw [decide_eq_false (by omega), if_neg (by decide)] at k
        exact k
theorem scCks : FnScope ["grammar", "component"] ["grammar"] (defScope sComponentKinds) := ⟨rfl, rfl, rfl, by decide +kernel, rfl, by decide +kernel, by decide +kernel⟩
theorem ok_cks (D : DfCk K mg) : FnOk P w K mg base CX0 8 D.cks.f D.cks.fd ["grammar"] (spCks K D.c.rk.gr.C) := by
  have Gc : FnOk P w K mg base CX0 7 D.c.cs.f D.c.cs.fd ["grammar"] (spCs K D.c.rk.gr.C) := ok_cs D.c
  have Gk : FnOk P w K mg base CX0 7 D.ck.f D.ck.fd ["grammar", "component"] (spCk K D.c.rk.gr.C) := ok_ck D
  refine D.cks.F.ok scCks (fun vs H Q E h => ?_) (fun cdv A outer s H vs Q E hr h => ?_)
  · obtain ⟨g, z, es, rfl, _⟩ := h
    rfl
  · obtain ⟨g, z, es, rfl, ok, k⟩ := h
    have hr7 : Room 7 _ := hr
    refine ⟨_, PSs.nox (pss_one (ps_ret (pe_lc (own := [("component", 1)]) (g := gName 1) rfl scCks.nd (pi_list (pe_call Gc hr7 (by rfl) D.c.cs.g D.c.cs.F.kp D.c.cs.b .nil pass0 (pa_cons (pv 0) pa_nil))) (blkOk_by (N := ["grammar", "component"]) (sc := defScope sComponentKinds) (by decide +kernel)) (fun _ _ _ _ _ => pg_name (i := 1) scCks.nd rfl (Or.inl rfl)) (fun _ _ _ _ _ => pts_nil) (fun _ _ _ _ _ => (pe_call Gk hr7 (by rfl) D.ck.g D.ck.F.kp D.ck.b .nil pass0 (pa_cons (pv 0) (pa_cons (pv 1) pa_nil))))))), ?_⟩
    refine ⟨.ref g, rfl, g, z, es, rfl, ok, fun H1 q ws s1 nq gq tup cso => ?_⟩
    have sy : ∀ p ∈ es.map pE, symB p.1 = true := fun p hp => by
      obtain ⟨e, he, rfl⟩ := List.mem_map.mp hp
      exact (ok.yl e he).2
    refine ⟨q, rfl, ⟨_, SqL.of gq⟩, fun L hL => ?_⟩
    refine lc_it (walk_list (xs := ws.map fun t => V.ref t.1)) (fun j F => F L = some (.lst (((ws.map (·.2)).take j).map fun l => V.str (kindS (usf (es.map pE)) l))) ∧ Same H1 F) ⟨upd_same, same_upd hL⟩ (fun _ _ _ ⟨_, sm⟩ => SqL.of (sm _ _ gq)) ?_ ?_
    · rintro j x F1 F2 hj ⟨gL, sm⟩ ⟨rfl, hx⟩
      rw [List.length_map] at hj
      rw [List.getElem?_map, List.getElem?_eq_getElem hj] at hx
      have hx : V.ref ws[j].1 = x := Option.some.inj hx
      subst hx
      have tk : (ws.map (·.2)).take (j + 1) = (ws.map (·.2)).take j ++ [ws[j].2] := by rw [List.take_add_one, List.getElem?_map, List.getElem?_eq_getElem hj]; rfl
      have mt := List.getElem_mem hj
      generalize ws[j] = t at mt tk ⊢
      obtain ⟨p, hp, hpl⟩ := cso.usf ok.six sy (List.mem_map.mpr ⟨t, mt, rfl⟩)
      refine ⟨rfl, yes ⟨.ref g, rfl, .ref t.1, rfl, g, t.1, z, es, t.2, rfl, ok.same (s1.trans sm), same_tupG sm _ _ (tup t mt), ⟨p, hp, hpl⟩, fun F3 s3 => ⟨_, s3 _ _ gL, ?_, ?_, fun b o h => (upd_ne (ne_of_none h hL)).trans ((sm.trans s3) b o h)⟩⟩⟩
      · have := cso.len ok.six sy
        rw [List.length_map] at this
        rw [List.length_map, List.length_take, List.length_map, sizeLine_eq]
        omega
      · rw [upd_same, tk, List.map_append]
        rfl
    rintro F ⟨gL, sm⟩
    rw [List.length_map, List.take_of_length_le (by rw [List.length_map]; exact Nat.le_refl _)] at gL
    exact k F L _ (s1.trans sm) (fresh_of s1 hL) gL cso
end
end DW
/-! the law: useful productions, what is reached by them -/
namespace DW
open PySem PySem.Spec PyProof.Rows L2 TL
set_option autoImplicit false
def inUsl : Scope := { kind := .function, names := [(".0", .local), ("_law_symbol", .local), ("_law_items", .local), ("_law_names_of", .globalImplicit), ("_law_known", .cell)], isGenerator := false, isCoroutine := false }
/-- a list of productions of the law's own -/
structure UsL (K : PySem.W.Frag) (H : Hp) (a : Addr) (us : List En) : Prop where
  here : H a = some (.lst (us.map vE))
  re : RE K H us
theorem UsL.same {K : PySem.W.Frag} {H H' : Hp} {a : Addr} {us : List En} (h : UsL K H a us) (s : Same H H') : UsL K H' a us := ⟨s _ _ h.here, h.re.same s⟩
def spUsl (K : PySem.W.Frag) : Sp := fun vs H Q _ => ∃ (a : Addr) (es : List En), vs = [.ref a] ∧ H a = some (.lst (es.map vE)) ∧ RE K H es ∧ es.length ≤ 16 ∧ (∀ e ∈ es, (tl e.2.2).length ≤ 100 ∧ symB e.2.1 = true) ∧ nsym (chs (es.map pE)) ≤ 6 ∧
  ∀ H' q (us : List En), Same H H' → H q = none → UsL K H' q us → us.map pE = usf (es.map pE) → Q (.ref q) H'
section
variable {P : Program} {w : World} {K : PySem.W.Frag} {mg : Str → Option Value} {base : Heap}
theorem scUsl : FnScope ["_law_rules_here", "_law_known", "_law_symbol", "_law_items", "_law_name"] ["_law_rules_here"] (defScope sLUseful) := ⟨rfl, rfl, rfl, by decide +kernel, rfl, by decide +kernel, by decide +kernel⟩
theorem ok_usl (D : Df K mg "_law_useful" sLUseful ["_law_rules_here"]) (Dh : Df K mg "_law_heights" sLHeights ["_law_rules_here"]) (Dn : Df K mg "_law_names_of" sLNamesOf ["_law_text"]) (md : mg "dict" = none) (ml : mg "list" = none) : FnOk P w K mg base CX0 3 D.f D.fd ["_law_rules_here"] (spUsl K) := by
  have Gn : FnOk P w K mg base CX0 1 Dn.f Dn.fd ["_law_text"] spNms := ok_nms Dn
  have Gh : FnOk P w K mg base CX0 2 Dh.f Dh.fd ["_law_rules_here"] (spHts K) := ok_hts Dh Dn md ml
  refine D.F.ok scUsl (fun vs H Q E h => ?_) (fun cdv A outer s H vs Q E hr h => ?_)
  · obtain ⟨a, es, rfl, _⟩ := h
    rfl
  · obtain ⟨a, es, rfl, ha, re, el, yl, six, k⟩ := h
    have hr1 : Room 1 _ := hr.mono (by decide)
    have hr2 : Room 2 _ := hr
    refine ⟨_, PSs.nox (pss_cons (ps_set (i := 1) scUsl.nd rfl (.inr rfl) (pe_call Gh hr2 (by rfl) Dh.g Dh.F.kp Dh.b .nil pass0 (pa_cons (pv 0) pa_nil))) (pss_one (ps_ret (pe_lc (own := [("_law_symbol", 2), ("_law_items", 3)]) (g := gTup K 2 (gCons (gName 2) (gCons (gName 3) gNil))) (tt := (tTest (tOp (rEqD K) (tLc (iList K (tCall spNms [] E0 (tCons (tVar 3) tNil))) (gName 4) (tB (tDNotIn (tVar 4) (tVar 1))) (tVar 4) [4]) (tLst tNil)))) rfl scUsl.nd (pi_list (pv 0)) (blkOk_by (N := ["_law_rules_here", "_law_known", "_law_symbol", "_law_items", "_law_name"]) (sc := defScope sLUseful) (by decide +kernel)) (fun _ _ _ _ _ => (pg_tup rfl (pgs_cons (pg_name (i := 2) scUsl.nd rfl (.inl rfl)) (pgs_cons (pg_name (i := 3) scUsl.nd rfl (.inl rfl)) pgs_nil)))) (fun _ _ _ _ _ => (pts_one (pt_cmpR (op_eqD hr.units) (pe_lc (own := [("_law_name", 4)]) (g := gName 4) rfl scUsl.nd (pi_list (pe_call Gn hr1 (by rfl) Dn.g Dn.F.kp Dn.b .nil pass0 (pa_cons (pv 3) pa_nil))) (blkOk_by (N := ["_law_rules_here", "_law_known", "_law_symbol", "_law_items", "_law_name"]) (sc := inUsl) (by decide +kernel)) (fun _ _ _ _ _ => pg_name (i := 4) scUsl.nd rfl (Or.inl rfl)) (fun _ _ _ _ _ => (pts_one (pt_cmp (pc_dnotin (u1r hr) (pv 4) (pv 1))))) (fun _ _ _ _ _ => (pv 4))) (pe_lst pa_nil) (nomark _)))) (fun _ _ _ _ _ => (pe_tup (pa_cons (pv 2) (pa_cons (pv 3) pa_nil)))))))), ?_⟩
    refine ⟨.ref a, rfl, a, es, rfl, ha, re, el, yl, six, fun H1 d s1 nd gd => ?_⟩
    dsimp only [gName, List.set]
    have okr0 := fun y : Str => okR_iff (fd := FF (es.map pE) 7) (y := y)
    have us0 : usf (es.map pE) = (es.map pE).filter fun p => okR (FF (es.map pE) 7) p.2 := rfl
    generalize FF (es.map pE) 7 = fd at gd okr0 us0
    refine ⟨.ref a, rfl, a, rfl, ⟨_, SqL.of (s1 _ _ ha)⟩, fun L hL => ?_⟩
    refine lc_it (walk_list (xs := es.map vE)) (fun j F => ∃ us : List En, F L = some (.lst (us.map vE)) ∧ RE K F us ∧ us.map pE = ((es.take j).map pE).filter (fun p => okR fd p.2) ∧ Same H1 F) ⟨[], upd_same, fun e h => (nomatch h), rfl, same_upd hL⟩ (fun _ _ _ ⟨_, _, _, _, sm⟩ => SqL.of (sm _ _ (s1 _ _ ha))) ?_ ?_
    · rintro j x F1 F2 hj ⟨us, gL, ru, eu, sm⟩ ⟨rfl, hx⟩
      rw [List.length_map] at hj
      rw [List.getElem?_map, List.getElem?_eq_getElem hj] at hx
      have hx : V.ref es[j].1 = x := Option.some.inj hx
      subst hx
      have tk : es.take (j + 1) = es.take j ++ [es[j]] := by rw [List.take_add_one, List.getElem?_eq_getElem hj]; rfl
      have me : es[j] ∈ es := List.getElem_mem hj
      generalize es[j] = e at me tk ⊢
      refine ⟨e.1, _, rfl, same_tupG (s1.trans sm) _ _ (re _ me), rfl, _, _, rfl, _, _, rfl, rfl, rfl, ?_⟩
      have yb := (yl _ me).1
      have okr := okr0 e.2.2
      refine ⟨.str e.2.2, rfl, e.2.2, rfl, yb, fun G3 q s3 hq => ?_⟩
      have gd4 := s3 _ _ (sm _ _ gd)
      refine ⟨q, rfl, ⟨_, SqL.of hq⟩, fun B hB => ?_⟩
      have smc : ∀ c ∈ (tl e.2.2).filter symB, c < 128 := fun c hc => sym_low (List.mem_filter.mp hc).2
      have cl : ((tl e.2.2).filter symB).length ≤ 100 := Nat.le_trans (List.length_filter_le _ _) yb
      generalize (tl e.2.2).filter symB = cs at hq smc cl okr ⊢
      refine lc_it (walk_list (xs := (cs.map one).map V.str)) (fun j G => G B = some (.lst ((((cs.take j).filter fun c => !decide (c ∈ keysF fd)).map one).map V.str)) ∧ Same G3 G) ⟨upd_same, same_upd hB⟩ (fun _ _ _ ⟨_, sm⟩ => SqL.of (sm _ _ hq)) ?_ ?_
      · rintro j x F1 F2 hj ⟨gB, sB⟩ ⟨rfl, hxx⟩
        rw [List.length_map, List.length_map] at hj
        rw [List.getElem?_map, List.getElem?_map, List.getElem?_eq_getElem hj] at hxx
        have hxx : V.str (one cs[j]) = x := Option.some.inj hxx
        subst hxx
        have tkc : cs.take (j + 1) = cs.take j ++ [cs[j]] := by rw [List.take_add_one, List.getElem?_eq_getElem hj]; rfl
        refine ⟨rfl, _, rfl, _, rfl, d, _, rfl, DGet.k (k := Sum.inr (one cs[j])) (sB _ _ gd4), ?_⟩
        rw [val_key]
        refine ⟨_, rfl, ite2 (fun e => ⟨_, rfl, _, gB, ?_, ?_, fun b o h => (upd_ne (ne_of_none h hB)).trans (sB b o h)⟩) (fun e => ⟨?_, sB⟩)⟩
        · rw [List.length_map, List.length_map]
          refine Nat.lt_of_le_of_lt (List.length_filter_le _ _) ?_
          rw [List.length_take, sizeLine_eq]
          omega
        · have e : (!decide (cs[j] ∈ keysF fd)) = true := e
          rw [upd_same, tkc, List.filter_append, List.map_append, List.map_append, List.filter_cons, if_pos e]
          rfl
        · have e : ¬ (!decide (cs[j] ∈ keysF fd)) = true := e
          rw [gB, tkc, List.filter_append, List.filter_cons, if_neg e, List.filter_nil, List.append_nil]
      rintro F1 ⟨gB, sB⟩
      rw [List.length_map, List.length_map, List.take_length] at gB
      refine ⟨by show 0 ≤ sizeLine; decide, fun n1 h_n1 => ?_⟩
      have sn := same_upd (o := .lst []) h_n1
      refine ⟨.list (((cs.filter fun c => !decide (c ∈ keysF fd)).map one).map PyData.str), .list [], .lst (SqL.of (sn _ _ gB)) (strs_dpR _), .lst (SqL.of upd_same) .nil, ones_shaped (fun c hc => smc c (List.mem_filter.mp hc).1), by decide +kernel, ?_⟩
      rw [eqv_nilR, okr]
      refine ⟨_, rfl, ?_⟩
      have s4 := (s3.trans sB).trans sn
      have gL4 := s4 _ _ gL
      have ru4 := ru.same s4
      have sm4 := sm.trans s4
      cases c2 : okR fd e.2.2 with
      | false =>
        refine iteF ⟨us, gL4, ru4, ?_, sm4⟩
        have f1 : List.filter (fun p : Nat × Str => okR fd p.2) [pE e] = [] := List.filter_cons_of_neg (by show ¬ okR fd e.2.2 = true; rw [c2]; decide)
        rw [tk, List.map_append, List.filter_append, List.map_cons, List.map_nil, f1, List.append_nil]
        exact eu
      | true =>
        refine iteT ⟨_, rfl, _, rfl, by show 2 ≤ sizeLine; decide, fun p h_p => ?_⟩
        have sp := same_upd (o := .tup [V.str ⟨#[e.2.1]⟩, V.str e.2.2]) h_p
        have ul := congrArg List.length eu
        have fl := List.length_filter_le (fun p : Nat × Str => okR fd p.2) ((es.take j).map pE)
        rw [List.length_map] at ul
        rw [List.length_map, List.length_take] at fl
        refine ⟨_, sp _ _ gL4, by rw [List.length_map, sizeLine_eq]; omega, us ++ [(p, e.2)], by rw [upd_same, List.map_append]; rfl, fun r hr => ?_, ?_, fun b o h => (upd_ne (ne_of_none h hL)).trans (sp _ _ (sm4 b o h))⟩
        · refine put_tupG (sp _ _ gL4) r.1 _ ?_
          rcases List.mem_append.mp hr with hr | hr
          · exact same_tupG sp _ _ (ru4 r hr)
          · rw [List.mem_singleton.mp hr]
            exact SqT.of upd_same
        · have f1 : List.filter (fun p : Nat × Str => okR fd p.2) [pE e] = [pE e] := List.filter_cons_of_pos (by show okR fd e.2.2 = true; exact c2)
          rw [tk, List.map_append, List.map_append, List.filter_append, List.map_cons, List.map_nil, List.map_cons, List.map_nil, f1, eu]
          rfl
    rintro F ⟨us, gL, ru, eu, sm⟩
    rw [List.length_map, List.take_length] at eu
    exact k F L us (s1.trans sm) (fresh_of s1 hL) ⟨gL, ru⟩ (by rw [eu, us0])
end
end DW
/-! the law: what is reached -/
namespace DW
open PySem PySem.Spec PyProof.Rows L2 TL
set_option autoImplicit false
def cntS (l : List Nat) : Nat := ((List.range 128).filter fun d => decide (d ∈ l)).length
theorem cntS_mem {l : List Nat} {d : Nat} : d ∈ ((List.range 128).filter fun d => decide (d ∈ l)) ↔ d < 128 ∧ d ∈ l := by
  rw [List.mem_filter, List.mem_range, decide_eq_true_eq]
theorem cntS_26 {l : List Nat} (h : ∀ d ∈ l, symB d = true) : cntS l ≤ 26 := syms_len (List.Nodup.sublist List.filter_sublist List.nodup_range) fun d hd => h d (cntS_mem.mp hd).2
theorem cntS_up {l m : List Nat} {d : Nat} (hd : d ∈ m) (nl : d ∉ l) (d128 : d < 128) : cntS l + 1 ≤ cntS (l ++ m) := by
  have := nodup_lenS (d :: (List.range 128).filter fun d => decide (d ∈ l)) ((List.range 128).filter fun d => decide (d ∈ l ++ m)) (List.nodup_cons.mpr ⟨fun h => nl (cntS_mem.mp h).2, List.Nodup.sublist List.filter_sublist List.nodup_range⟩) fun x hx => by
    rw [cntS_mem]
    rcases List.mem_cons.mp hx with e | e
    · rw [e]
      exact ⟨d128, List.mem_append_right _ hd⟩
    · exact ⟨(cntS_mem.mp e).1, List.mem_append_left _ (cntS_mem.mp e).2⟩
  rw [List.length_cons] at this
  exact this
theorem tOr_read {t u : TT} {σ : L2.St} {H : Hp} {Q : Bool → Hp → Prop} {p q : Prop} (h : p ∨ q → Q true H) (h2 : ¬ (p ∨ q) → Q false H) (ht : ∀ R : Bool → Hp → Prop, (p → R true H) → (¬ p → R false H) → t σ H R) (hu : ∀ R : Bool → Hp → Prop, (q → R true H) → (¬ q → R false H) → u σ H R) : tOr t u σ H Q :=
  ht _ (fun hp => by
    show if true = true then Q true H else _
    rw [if_pos rfl]
    exact h (.inl hp)) fun np => by
    show if false = true then _ else u σ H Q
    rw [if_neg (by decide)]
    exact hu _ (fun hq => h (.inr hq)) fun nq => h2 fun z => z.elim np nq
def spRch (K : PySem.W.Frag) : Sp := fun vs H Q _ => ∃ (u : Addr) (c : Nat) (us : List En), vs = [.ref u, .str (one c)] ∧ UsL K H u us ∧ us.length ≤ 16 ∧ (∀ e ∈ us, (tl e.2.2).length ≤ 100) ∧
  ∀ H' q (l : List Nat), Same H H' → H q = none → H' q = some (.lst ((l.map one).map V.str)) → l.Pairwise (· < ·) → (∀ d, d ∈ l ↔ Rc (uR (us.map pE)) c d) → Q (.ref q) H'
section
variable {P : Program} {w : World} {K : PySem.W.Frag} {mg : Str → Option Value} {base : Heap}
theorem scRch : FnScope ["_law_useful_here", "_law_symbol", "_law_found", "_law_many", "_law_name", "_law_items", "_law_other"] ["_law_useful_here", "_law_symbol"] (defScope sLReached) := ⟨rfl, rfl, rfl, by decide +kernel, rfl, by decide +kernel, by decide +kernel⟩
theorem ok_rch (D : Df K mg "_law_reached" sLReached ["_law_useful_here", "_law_symbol"]) (Dn : Df K mg "_law_names_of" sLNamesOf ["_law_text"]) (mso : mg "sorted" = none) (ms : mg "set" = none) (mle : mg "len" = none) : FnOk P w K mg base CX0 2 D.f D.fd ["_law_useful_here", "_law_symbol"] (spRch K) := by
  have Gn : FnOk P w K mg base CX0 1 Dn.f Dn.fd ["_law_text"] spNms := ok_nms Dn
  refine D.F.ok scRch (fun vs H Q E h => ?_) (fun cdv A outer s H vs Q E hr h => ?_)
  · obtain ⟨u, c, us, rfl, _⟩ := h
    rfl
  · obtain ⟨u, c, us, rfl, ul, u16, yl, k⟩ := h
    have hr1 : Room 1 _ := hr
    have sl := sizeLine_eq
    refine ⟨_, PSs.nox (pss_cons (ps_asg (pe_tup (pa_cons (pe_lst pa_nil) (pa_cons (pe_un un_neg pe_int) pa_nil))) (pg_tup rfl (pgs_cons (pg_name (i := 2) scRch.nd rfl (.inr rfl)) (pgs_cons (pg_name (i := 3) scRch.nd rfl (.inl rfl)) pgs_nil)))) (pss_cons (ps_while PassesOwn.never (pt_cmpR op_lt (pv 3) (pe_callB (r := rLenC K) call_len_seq (by rfl) mle PySem.boot_len (pa_cons (pv 2) pa_nil)) (nomark _)) (pss_cons (ps_set (i := 3) scRch.nd rfl (.inl rfl) (pe_callB (r := rLenC K) call_len_seq (by rfl) mle PySem.boot_len (pa_cons (pv 2) pa_nil))) (pss_one (ps_for PassesOwn.never rfl (pi_list (pv 0)) (pg_tup rfl (pgs_cons (pg_name (i := 4) scRch.nd rfl (.inl rfl)) (pgs_cons (pg_name (i := 5) scRch.nd rfl (.inl rfl)) pgs_nil))) (pss_one (ps_if (pw_or (pt_cmpR op_eq (pv 4) (pv 1) (nomark _)) (pw_or1 (pt_cmpR (r := rIn K false) op_in_seq (pv 4) (pv 2) rfl))).pt (pss_one (ps_set (i := 2) scRch.nd rfl (.inr rfl) (pe_op op_cat (pv 2) (pe_lc (own := [("_law_other", 6)]) (g := gName 6) rfl scRch.nd (pi_list (pe_call Gn hr1 (by rfl) Dn.g Dn.F.kp Dn.b .nil pass0 (pa_cons (pv 5) pa_nil))) (blkOk_by (N := ["_law_useful_here", "_law_symbol", "_law_found", "_law_many", "_law_name", "_law_items", "_law_other"]) (sc := defScope sLReached) (by decide +kernel)) (fun _ _ _ _ _ => pg_name (i := 6) scRch.nd rfl (Or.inl rfl)) (fun _ _ _ _ _ => (pts_one (pt_cmpR (r := rIn K true) op_notIn_seq (pv 6) (pv 2) rfl))) (fun _ _ _ _ _ => (pv 6)))))) pss_nil)))))) (pss_one (ps_ret (pe_callB (TX.cr_sortTx rfl) (by rfl) mso (by decide +kernel) (pa_cons (pe_callTy (TX.cr_setL rfl) (by rfl) ms (by decide +kernel) (pa_cons (pv 2) pa_nil)) pa_nil)))))), ?_⟩
    have eR : ∀ e ∈ us, ∀ d ∈ tl e.2.2, symB d = true → uR (us.map pE) e.2.1 d := fun e he d hd sd => ⟨pE e, List.mem_map.mpr ⟨e, he, rfl⟩, rfl, hd, sd⟩
    have Re : ∀ {a b : Nat}, uR (us.map pE) a b → ∃ e ∈ us, e.2.1 = a ∧ b ∈ tl e.2.2 ∧ symB b = true := fun ⟨p, hp, h1, h2, h3⟩ => by
      obtain ⟨e, he, rfl⟩ := List.mem_map.mp hp
      exact ⟨e, he, h1, h2, h3⟩
    generalize uR (us.map pE) = R at eR Re k
    refine ⟨by show 0 ≤ sizeLine; decide, fun f0 h_f0 => ⟨1, rfl, by show 2 ≤ sizeLine; decide, fun tp h_tp => ?_⟩⟩
    have sm0 := (same_upd (o := .lst []) h_f0).trans (same_upd (o := .tup [V.ref f0, V.int (-1)]) h_tp)
    have gf0 : (upd (upd H f0 (.lst [])) tp (.tup [V.ref f0, V.int (-1)])) f0 = some (.lst []) := (upd_ne (ne_of_none upd_same h_tp)).trans upd_same
    refine ⟨tp, _, rfl, SqT.of upd_same, rfl, _, _, rfl, _, _, rfl, rfl, ?_⟩
    dsimp only [gName, List.set]
    refine ⟨fun m σ G => ∃ (f : Addr) (fs : List Nat) (many : Int) (y4 y5 y6 : Option V), m = (2600 - many).toNat ∧ σ = [some (.ref u), some (.str (one c)), some (.ref f), some (.int many), y4, y5, y6] ∧ G f = some (.lst ((fs.map one).map V.str)) ∧ Same H G ∧ (∀ d ∈ fs, symB d = true ∧ Rc R c d) ∧ fs.length ≤ 100 * cntS fs ∧ many ≤ fs.length ∧ (many = fs.length → ∀ e ∈ us, (e.2.1 = c ∨ e.2.1 ∈ fs) → ∀ d ∈ tl e.2.2, symB d = true → d ∈ fs), ⟨_, f0, [], -1, _, _, _, rfl, rfl, gf0, sm0, fun d h => (nomatch h), Nat.zero_le _, by decide, fun h => absurd h (by decide)⟩, ?_⟩
    rintro m σ G ⟨f, fs, many, y4, y5, y6, hm, rfl, gf, sm, so, fl, ml, cls⟩
    have c26 := cntS_26 fun d hd => (so d hd).1
    refine ⟨_, rfl, _, rfl, f, _, rfl, .inl (SqL.of gf), ?_⟩
    refine ⟨many, (fs.length : Int), rfl, by rw [List.length_map, List.length_map], _, rfl, ite2 (fun e => ?_) (fun e => ?_)⟩
    rotate_left
    · have em : many = fs.length := by
        have : ¬ many < fs.length := fun q => e (decide_eq_true q)
        omega
      have cl := cls em
      refine ⟨.ref f, rfl, f, fs.map one, rfl, SqL.of gf, ?_, fun sa ls nsa nd mem len => ?_⟩
      · rw [List.length_map]
        exact Nat.lt_of_le_of_lt (show _ ≤ 2601 by omega) (by decide)
      have s2 := sm.trans (same_upd (o := TX.SetTx P w sa ls) nsa)
      have lsl : ls.length ≤ 26 := nodup_lenS ls syms nd fun y hy => by
        obtain ⟨d, hd, rfl⟩ := List.mem_map.mp ((mem y).mp hy)
        exact syms_all (so d hd).1
      refine ⟨sa, ls, rfl, upd_same, by omega, fun ys p pm srt hp => ?_⟩
      obtain ⟨cs, rfl, pw⟩ := sorted_ones ys (fun y hy => by
        obtain ⟨d, _, e⟩ := List.mem_map.mp ((mem y).mp (pm.mem_iff.mp hy))
        exact ⟨d, e.symm⟩) (pm.nodup_iff.mpr nd) srt
      refine k _ p cs (s2.trans (same_upd hp)) (fresh_of s2 hp) upd_same pw fun d => ?_
      have md : d ∈ cs ↔ d ∈ fs := by
        rw [← mem_onesR (l := cs), pm.mem_iff, mem]
        exact mem_onesR
      rw [md]
      refine ⟨fun h => (so d h).2, fun h => Rc.closed (P := fun x => x ∈ fs) (fun b r => ?_) (fun x y hx r => ?_) h⟩
      · obtain ⟨e, he, h1, h2, h3⟩ := Re r
        exact cl e he (.inl h1) b h2 h3
      · obtain ⟨e, he, h1, h2, h3⟩ := Re r
        exact cl e he (.inr (by rw [h1]; exact hx)) y h2 h3
    have lt : many < fs.length := of_decide_eq_true e
    refine ⟨fun σ G => ∃ (f : Addr) (fs : List Nat) (many : Int) (y4 y5 y6 : Option V), (2600 - many).toNat < m ∧ σ = [some (.ref u), some (.str (one c)), some (.ref f), some (.int many), y4, y5, y6] ∧ G f = some (.lst ((fs.map one).map V.str)) ∧ Same H G ∧ (∀ d ∈ fs, symB d = true ∧ Rc R c d) ∧ fs.length ≤ 100 * cntS fs ∧ many ≤ fs.length ∧ (many = fs.length → ∀ e ∈ us, (e.2.1 = c ∨ e.2.1 ∈ fs) → ∀ d ∈ tl e.2.2, symB d = true → d ∈ fs), ?_, ?_⟩
    · rintro σ' G' ⟨f', fs', many', y4', y5', y6', h0, h1, h2, h3, h4, h5, h6, h7⟩
      exact ⟨_, h0, f', fs', many', y4', y5', y6', rfl, h1, h2, h3, h4, h5, h6, h7⟩
    refine ⟨.ref f, rfl, f, _, rfl, .inl (SqL.of gf), ?_⟩
    rw [List.length_map, List.length_map]
    dsimp only [gName, List.set]
    refine ⟨.ref u, rfl, u, rfl, ⟨_, SqL.of (sm _ _ ul.here)⟩, for_it (walk_list (xs := us.map vE)) (fun j σ G => ∃ (f : Addr) (gs tail : List Nat) (y4 y5 y6 : Option V), σ = [some (.ref u), some (.str (one c)), some (.ref f), some (.int (fs.length : Int)), y4, y5, y6] ∧ G f = some (.lst ((gs.map one).map V.str)) ∧ Same H G ∧ gs = fs ++ tail ∧ (∀ d ∈ gs, symB d = true ∧ Rc R c d) ∧ gs.length ≤ 100 * cntS gs ∧ (tail = [] → ∀ e ∈ us.take j, (e.2.1 = c ∨ e.2.1 ∈ fs) → ∀ d ∈ tl e.2.2, symB d = true → d ∈ fs)) ⟨f, fs, [], _, _, _, rfl, gf, sm, (List.append_nil _).symm, so, fl, fun _ e he => (nomatch he)⟩ (fun _ _ _ _ ⟨_, _, _, _, _, _, _, _, sm, _⟩ => SqL.of (sm _ _ ul.here)) ?_ ?_⟩
    · clear gf sm so fl cls y4 y5 y6
      rintro j x σ G1 G2 hj ⟨f, gs, tail, y4, y5, y6, rfl, gf, sm, eg, so, fl, cl⟩ ⟨rfl, hx⟩
      rw [List.length_map] at hj
      rw [List.getElem?_map, List.getElem?_eq_getElem hj] at hx
      have hx : V.ref us[j].1 = x := Option.some.inj hx
      subst hx
      have tk : us.take (j + 1) = us.take j ++ [us[j]] := by rw [List.take_add_one, List.getElem?_eq_getElem hj]; rfl
      have me : us[j] ∈ us := List.getElem_mem hj
      generalize us[j] = e at me tk ⊢
      have yb := yl e me
      have c26 := cntS_26 fun d hd => (so d hd).1
      refine ⟨e.1, _, rfl, same_tupG sm _ _ (ul.re _ me), rfl, _, _, rfl, _, _, rfl, rfl, ?_⟩
      dsimp only [gName, List.set]
      have Rs : e.2.1 = c ∨ e.2.1 ∈ gs → ∀ d ∈ tl e.2.2, symB d = true → Rc R c d := fun q d hd sd => by
        rcases q with q | q
        · rw [← q]
          exact .one (eR e me d hd sd)
        · exact .step (so _ q).2 (eR e me d hd sd)
      refine tOr_read (p := e.2.1 = c) (q := e.2.1 ∈ gs) (fun q => iteT ?_) (fun nq => iteF ?_) (fun R h1 h2 => ⟨.str (one e.2.1), rfl, .str (one c), rfl, rfl, _, rfl, ?_⟩) (fun R h1 h2 => ⟨.str (one e.2.1), rfl, .ref f, rfl, f, _, rfl, .inl (SqL.of gf), rfl, flatV_ones gs, ?_⟩)
      rotate_left
      rotate_left
      · by_cases q1 : e.2.1 = c
        · rw [decide_eq_true (by rw [q1])]
          exact h1 q1
        · rw [show decide (V.str (one e.2.1) = V.str (one c)) = false from decide_eq_false (fun z => q1 (one_inj (V.str.inj z)))]
          exact h2 q1
      · rw [inV_one]
        refine ⟨_, rfl, ?_⟩
        by_cases q1 : e.2.1 ∈ gs
        · rw [decide_eq_true q1]
          exact h1 q1
        · rw [decide_eq_false q1]
          exact h2 q1
      rotate_left
      · refine ⟨f, gs, tail, _, _, _, rfl, gf, sm, eg, so, fl, fun t0 r hr hrc => ?_⟩
        rw [tk] at hr
        rcases List.mem_append.mp hr with hr | hr
        · exact cl t0 r hr hrc
        · rw [List.mem_singleton.mp hr] at hrc
          rcases hrc with z1 | z1
          · exact absurd (.inl z1) nq
          · refine absurd (.inr ?_) nq
            rw [eg]
            exact List.mem_append_left _ z1
      have Rs := Rs q
      refine ⟨.ref f, rfl, .str e.2.2, rfl, e.2.2, rfl, yb, fun G3 qa s3 hq => ?_⟩
      have gf3 := s3 _ _ gf
      refine ⟨qa, rfl, ⟨_, SqL.of hq⟩, fun B hB => ?_⟩
      have smc : ∀ d ∈ (tl e.2.2).filter symB, d ∈ tl e.2.2 ∧ symB d = true := fun d hd => List.mem_filter.mp hd
      have smc2 : ∀ d ∈ tl e.2.2, symB d = true → d ∈ (tl e.2.2).filter symB := fun d hd sd => List.mem_filter.mpr ⟨hd, sd⟩
      have cl0 : ((tl e.2.2).filter symB).length ≤ 100 := Nat.le_trans (List.length_filter_le _ _) yb
      generalize (tl e.2.2).filter symB = cs at hq smc smc2 cl0 ⊢
      refine lc_it (walk_list (xs := (cs.map one).map V.str)) (fun j G => G B = some (.lst ((((cs.take j).filter fun d => !decide (d ∈ gs)).map one).map V.str)) ∧ Same G3 G) ⟨upd_same, same_upd hB⟩ (fun _ _ _ ⟨_, sm⟩ => SqL.of (sm _ _ hq)) ?_ ?_
      · rintro j x F1 F2 hj ⟨gB, sB⟩ ⟨rfl, hxx⟩
        rw [List.length_map, List.length_map] at hj
        rw [List.getElem?_map, List.getElem?_map, List.getElem?_eq_getElem hj] at hxx
        have hxx : V.str (one cs[j]) = x := Option.some.inj hxx
        subst hxx
        have tkc : cs.take (j + 1) = cs.take j ++ [cs[j]] := by rw [List.take_add_one, List.getElem?_eq_getElem hj]; rfl
        refine ⟨rfl, .str (one cs[j]), rfl, .ref f, rfl, f, _, rfl, .inl (SqL.of (sB _ _ gf3)), rfl, flatV_ones gs, ?_⟩
        rw [inV_one]
        refine ⟨_, rfl, ite2 (fun z => ⟨.str (one cs[j]), rfl, _, gB, ?_, ?_, fun b o h => (upd_ne (ne_of_none h hB)).trans (sB b o h)⟩) (fun z => ⟨?_, sB⟩)⟩
        · rw [List.length_map, List.length_map]
          refine Nat.lt_of_le_of_lt (List.length_filter_le _ _) ?_
          rw [List.length_take, sizeLine_eq]
          omega
        · have z : (!decide (cs[j] ∈ gs)) = true := z
          rw [upd_same, tkc, List.filter_append, List.map_append, List.map_append, List.filter_cons, if_pos z]
          rfl
        · have z : ¬ (!decide (cs[j] ∈ gs)) = true := z
          rw [gB, tkc, List.filter_append, List.filter_cons, if_neg z, List.filter_nil, List.append_nil]
      rintro F1 ⟨gB, sB⟩
      rw [List.length_map, List.length_map, List.take_length] at gB
      have nm : ∀ d, d ∈ (cs.filter fun d => !decide (d ∈ gs)) ↔ d ∈ cs ∧ d ∉ gs := fun d => by
        rw [List.mem_filter]
        by_cases z : d ∈ gs
        · rw [decide_eq_true z]
          exact ⟨fun h => absurd h.2 (by decide), fun h => absurd z h.2⟩
        · rw [decide_eq_false z]
          exact ⟨fun h => ⟨h.1, z⟩, fun h => ⟨h.1, rfl⟩⟩
      have nl := Nat.le_trans (List.length_filter_le (fun d => !decide (d ∈ gs)) cs) cl0
      generalize (cs.filter fun d => !decide (d ∈ gs)) = new at gB nm nl
      have gal : (gs ++ new).length = gs.length + new.length := List.length_append
      refine ⟨f, B, _, _, rfl, rfl, sB _ _ gf3, gB, by rw [List.length_map, List.length_map, List.length_map, List.length_map, sl]; omega, fun p h_p => ?_⟩
      have eL : (gs.map one).map V.str ++ (new.map one).map V.str = ((gs ++ new).map one).map V.str := by rw [List.map_append, List.map_append]
      rw [eL]
      have sp := same_upd (o := .lst (((gs ++ new).map one).map V.str)) h_p
      refine ⟨p, gs ++ new, tail ++ new, _, _, _, rfl, upd_same, ((sm.trans s3).trans sB).trans sp, by rw [eg, List.append_assoc], fun d hd => ?_, ?_, fun t0 r hr hrc d hd sd => ?_⟩
      · rcases List.mem_append.mp hd with h | h
        · exact so d h
        · have h1 := smc d ((nm d).mp h).1
          exact ⟨h1.2, Rs d h1.1 h1.2⟩
      · cases hn : new with
        | nil => rw [List.append_nil]; exact fl
        | cons d0 rest =>
          have d0n : d0 ∈ new := by rw [hn]; exact List.mem_cons_self
          have up := cntS_up (l := gs) (m := new) d0n ((nm d0).mp d0n).2 (sym_low (smc d0 ((nm d0).mp d0n).1).2)
          rw [← hn, gal]
          omega
      · obtain ⟨t1, t2⟩ := List.append_eq_nil_iff.mp t0
        rw [tk] at hr
        rw [t1, List.append_nil] at eg
        rcases List.mem_append.mp hr with hr | hr
        · exact cl t1 r hr hrc d hd sd
        · rw [List.mem_singleton.mp hr] at hd
          by_cases z : d ∈ fs
          · exact z
          · have : d ∈ new := (nm d).mpr ⟨smc2 d hd sd, by rw [eg]; exact z⟩
            rw [t2] at this
            cases this
    · rintro σ G ⟨f, gs, tail, y4, y5, y6, rfl, gf, sm, eg, so, fl, cl⟩
      rw [List.length_map, List.take_length] at cl
      have gl : gs.length = fs.length + tail.length := by rw [eg, List.length_append]
      refine ⟨f, gs, (fs.length : Int), y4, y5, y6, by omega, rfl, gf, sm, so, fl, by omega, fun q => ?_⟩
      have t0 : tail = [] := List.length_eq_zero_iff.mp (by omega)
      rw [t0, List.append_nil] at eg
      rw [eg]
      exact cl t0
end
end DW
/-! the law: components and kinds -/
namespace DW
open PySem PySem.Spec PyProof.Rows L2 TL
set_option autoImplicit false
def inLki : Scope := { kind := .function, names := [(".0", .local), ("_law_symbol", .local), ("_law_items", .local), ("_law_component_here", .cell)], isGenerator := false, isCoroutine := false }
def UsOk (us : List En) : Prop := us.length ≤ 16 ∧ ∀ e ∈ us, (tl e.2.2).length ≤ 100 ∧ symB e.2.1 = true
theorem UsOk.low {us : List En} (h : UsOk us) : Low (uR (us.map pE)) := fun a b ⟨p, hp, h1, h2, h3⟩ => by
  obtain ⟨e, he, rfl⟩ := List.mem_map.mp hp
  rw [← h1]
  exact ⟨sym_low (h.2 e he).2, sym_low h3⟩
theorem UsOk.sym {us : List En} (h : UsOk us) {a b : Nat} (r : Rc (uR (us.map pE)) a b) : symB b = true := by
  obtain ⟨x, p, hp, h1, h2, h3⟩ := r.last
  exact h3
def spLco (K : PySem.W.Frag) : Sp := fun vs H Q _ => ∃ (u : Addr) (c : Nat) (us : List En), vs = [.ref u, .str (one c)] ∧ UsL K H u us ∧ UsOk us ∧ symB c = true ∧
  ∀ H' q, Same H H' → H q = none → H' q = some (.tup (((cmp (uR (us.map pE)) c).map one).map V.str)) → Q (.ref q) H'
def spLki (K : PySem.W.Frag) : Sp := fun vs H Q _ => ∃ (u k : Addr) (us : List En) (l : List Nat), vs = [.ref u, .ref k] ∧ UsL K H u us ∧ UsOk us ∧ SqT K H k ((l.map one).map V.str) ∧ IsC (uR (us.map pE)) l ∧ (∀ d ∈ l, symB d = true) ∧
  ∀ H', Same H H' → Q (.str (kindS (us.map pE) l)) H'
/-- a component that comes back to itself -/
theorem kind0 {ps : List (Nat × Str)} {l : List Nat} (low : Low (uR ps)) (is : IsC (uR ps) l) (sy : ∀ p ∈ ps, symB p.1 = true) (sl : ∀ d ∈ l, symB d = true) : (nsC ps l).all (fun n => decide (n = 0)) = true ↔ ¬ Rc (uR ps) (hdC l) (hdC l) := by
  have hm := hdC_mem (is.ne low)
  have e := is.of low hm
  have mem : ∀ d, d ∈ l ↔ Tog (uR ps) (hdC l) d := fun d => by
    have := cmp_mem (d := d) low (is.low low _ hm)
    rw [← e] at this
    exact this
  rw [List.all_eq_true]
  constructor
  · intro h r
    obtain ⟨b, r1, hb⟩ := r.front
    obtain ⟨p, hp, h1, h2, h3⟩ := id r1
    have bl : b ∈ l := (mem b).mpr (hb.elim (fun z => .inl z) fun z => .inr ⟨.one r1, z⟩)
    have := of_decide_eq_true (h _ (List.mem_map.mpr ⟨p, List.mem_filter.mpr ⟨hp, decide_eq_true (by rw [h1]; exact hm)⟩, rfl⟩))
    have z : b ∈ inC l p.2 := List.mem_filter.mpr ⟨h2, decide_eq_true bl⟩
    rw [List.length_eq_zero_iff.mp this] at z
    cases z
  · intro h n hn
    obtain ⟨p, hp, rfl⟩ := List.mem_map.mp hn
    obtain ⟨h1, h2⟩ := List.mem_filter.mp hp
    have pl := of_decide_eq_true h2
    refine decide_eq_true (List.length_eq_zero_iff.mpr ?_)
    cases q : inC l p.2 with
    | nil => rfl
    | cons d r =>
      have dm : d ∈ inC l p.2 := by rw [q]; exact List.mem_cons_self
      obtain ⟨g1, g2⟩ := List.mem_filter.mp dm
      have dl := of_decide_eq_true g2
      have st : uR ps p.1 d := ⟨p, h1, rfl, g1, sl d dl⟩
      refine absurd ?_ h
      have r1 : Rc (uR ps) (hdC l) d := by
        rcases (mem p.1).mp pl with z | z
        · rw [← z]
          exact .one st
        · exact .step z.1 st
      rcases (mem d).mp dl with z | z
      · rw [z] at r1
        exact r1
      · exact r1.trans z.2
section
variable {P : Program} {w : World} {K : PySem.W.Frag} {mg : Str → Option Value} {base : Heap}
theorem scLco : FnScope ["_law_useful_here", "_law_symbol", "_law_found", "_law_name"] ["_law_useful_here", "_law_symbol"] (defScope sLComponent) := ⟨rfl, rfl, rfl, by decide +kernel, rfl, by decide +kernel, by decide +kernel⟩
theorem ok_lco (D : Df K mg "_law_component" sLComponent ["_law_useful_here", "_law_symbol"]) (Dr : Df K mg "_law_reached" sLReached ["_law_useful_here", "_law_symbol"]) (Dn : Df K mg "_law_names_of" sLNamesOf ["_law_text"]) (mso : mg "sorted" = none) (ms : mg "set" = none) (mle : mg "len" = none) (mt : mg "tuple" = none) : FnOk P w K mg base CX0 3 D.f D.fd ["_law_useful_here", "_law_symbol"] (spLco K) := by
  have Gr : FnOk P w K mg base CX0 2 Dr.f Dr.fd ["_law_useful_here", "_law_symbol"] (spRch K) := ok_rch Dr Dn mso ms mle
  refine D.F.ok scLco (fun vs H Q E h => ?_) (fun cdv A outer s H vs Q E hr h => ?_)
  · obtain ⟨u, c, us, rfl, _⟩ := h
    rfl
  · obtain ⟨u, c, us, rfl, ul, uo, sc, k⟩ := h
    have hr2 : Room 2 _ := hr
    have hu0 := u66c hr
    refine ⟨_, PSs.nox (pss_cons (ps_set (i := 2) scLco.nd rfl (.inl rfl) (pe_lst (pa_cons (pv 1) pa_nil))) (pss_cons (ps_for PassesOwn.never rfl (pi_list (pe_call Gr hr2 (by rfl) Dr.g Dr.F.kp Dr.b .nil pass0 (pa_cons (pv 0) (pa_cons (pv 1) pa_nil)))) (pg_name (i := 3) scLco.nd rfl (.inl rfl)) (pss_one (ps_if (pw_and (pt_cmpR op_ne (pv 3) (pv 1) (nomark _)) (pw_and1 (pt_cmpR (r := rIn K false) op_in_seq (pv 1) (pe_call Gr hr2 (by rfl) Dr.g Dr.F.kp Dr.b .nil pass0 (pa_cons (pv 0) (pa_cons (pv 3) pa_nil))) rfl))).pt (pss_one (ps_expr (pe_bm PySem.F.plainAttrs_list PySem.F.slot_list_append PySem.F.type_list_append mt_append (pv 2) (pa_cons (pv 3) pa_nil)))) pss_nil))) (pss_one (ps_ret (pe_callTy call_tuple_of (by rfl) mt (by decide +kernel) (pa_cons (pe_callB (TXB.cr_sortedS hu0) (by rfl) mso (by decide +kernel) (pa_cons (pv 2) pa_nil)) pa_nil)))))), ?_⟩
    have low := uo.low
    refine ⟨.str (one c), rfl, by show 1 ≤ sizeLine; decide, fun L h_L => ?_⟩
    have sL := same_upd (o := .lst [V.str (one c)]) h_L
    dsimp only [gName, List.set]
    refine ⟨.ref u, rfl, .str (one c), rfl, u, c, us, rfl, ul.same sL, uo.1, fun e he => (uo.2 e he).1, fun H1 q l s1 nq gq pw lm => ?_⟩
    have gL : H1 L = some (.lst (([c].map one).map V.str)) := s1 _ _ upd_same
    have l26 : l.length ≤ 26 := syms_len (pw_nd pw) fun d hd => uo.sym ((lm d).mp hd)
    have nqL : q ≠ L := (ne_of_none upd_same nq).symm
    have sm := sL.trans s1
    have nd := pw_nd pw
    clear pw
    refine ⟨q, rfl, ⟨_, SqL.of gq⟩, for_it (walk_list (xs := (l.map one).map V.str)) (fun j σ G => ∃ (fs : List Nat) (y3 : Option V), σ = [some (.ref u), some (.str (one c)), some (.ref L), y3] ∧ G L = some (.lst ((fs.map one).map V.str)) ∧ G q = some (.lst ((l.map one).map V.str)) ∧ Same H G ∧ fs.Nodup ∧ fs.length ≤ j + 1 ∧ ∀ d, d ∈ fs ↔ d = c ∨ (d ∈ l.take j ∧ Rc (uR (us.map pE)) d c)) ⟨[c], _, rfl, gL, gq, sm, List.nodup_cons.mpr ⟨fun h => (nomatch h), List.nodup_nil⟩, Nat.le_refl _, fun d => ⟨fun h => .inl (List.mem_singleton.mp h), fun h => h.elim (fun z => List.mem_singleton.mpr z) fun z => (nomatch z.1)⟩⟩ (fun _ _ _ _ ⟨_, _, _, _, g, _⟩ => SqL.of g) ?_ ?_⟩
    · rintro j x σ G G' hj ⟨fs, y3, rfl, gL, gq, sm, fnd, fl, fm⟩ ⟨rfl, hx⟩
      rw [List.length_map, List.length_map] at hj
      rw [List.getElem?_map, List.getElem?_map, List.getElem?_eq_getElem hj] at hx
      have hx : V.str (one l[j]) = x := Option.some.inj hx
      subst hx
      have tk : l.take (j + 1) = l.take j ++ [l[j]] := by rw [List.take_add_one, List.getElem?_eq_getElem hj]; rfl
      have nt := not_take nd hj
      have lr := (lm _).mp (List.getElem_mem hj)
      generalize l[j] = n at tk nt lr ⊢
      dsimp only [gName, List.set]
      refine ⟨.str (one n), rfl, .str (one c), rfl, rfl, _, rfl, ?_⟩
      by_cases q1 : n = c
      · refine ite2 (fun z => absurd (show (!decide (V.str (one n) = V.str (one c))) = true from z) (by rw [q1, decide_eq_true rfl]; decide)) (fun _ => iteF ⟨fs, _, rfl, gL, gq, sm, fnd, by omega, fun d => ?_⟩)
        rw [fm, tk]
        refine ⟨fun h => h.imp id fun h => ⟨List.mem_append_left _ h.1, h.2⟩, fun h => ?_⟩
        rcases h with h | ⟨h1, h2⟩
        · exact .inl h
        · rcases List.mem_append.mp h1 with h1 | h1
          · exact .inr ⟨h1, h2⟩
          · rw [List.mem_singleton.mp h1]
            exact .inl q1
      refine ite2 (fun _ => ?_) (fun z => absurd (show (!decide (V.str (one n) = V.str (one c))) = true by rw [show decide (V.str (one n) = V.str (one c)) = false from decide_eq_false (fun y => q1 (one_inj (V.str.inj y)))]; rfl) z)
      refine ⟨.str (one c), rfl, .ref u, rfl, .str (one n), rfl, u, n, us, rfl, ul.same sm, uo.1, fun e he => (uo.2 e he).1, fun G3 q2 l2 s3 nq2 gq2 pw2 lm2 => ?_⟩
      refine ⟨q2, _, rfl, .inl (SqL.of gq2), rfl, flatV_ones l2, ?_⟩
      rw [inV_one]
      have gL3 := s3 _ _ gL
      have gq3 := s3 _ _ gq
      have sm3 := sm.trans s3
      have nL : H L = none := h_L
      refine ⟨_, rfl, ite2 (fun z => ?_) (fun z => ⟨fs, _, rfl, gL3, gq3, sm3, fnd, by omega, fun d => ?_⟩)⟩
      · have rnc : Rc (uR (us.map pE)) n c := (lm2 c).mp (of_decide_eq_true z)
        have nin : n ∉ fs := fun h => by
          rcases (fm n).mp h with y | y
          · exact q1 y
          · exact nt y.1
        refine ⟨.ref L, rfl, .inl ⟨rfl, _, SqL.of gL3⟩, .str (one n), rfl, L, _, _, rfl, rfl, gL3, by rw [List.length_map, List.length_map, sizeLine_eq]; omega, fs ++ [n], _, rfl, by rw [upd_same, List.map_append, List.map_append]; rfl, (upd_ne nqL).trans gq3, fun b o e => (upd_ne (ne_of_none e nL)).trans (sm3 b o e), List.nodup_append.mpr ⟨fnd, List.nodup_cons.mpr ⟨fun h => (nomatch h), List.nodup_nil⟩, fun a ha b hb e => nin (by rw [← List.mem_singleton.mp hb, ← e]; exact ha)⟩, by rw [List.length_append]; show fs.length + 1 ≤ _; omega, fun d => ?_⟩
        rw [List.mem_append, fm, tk, List.mem_append, List.mem_singleton]
        constructor
        · rintro ((h | ⟨h1, h2⟩) | h)
          · exact .inl h
          · exact .inr ⟨.inl h1, h2⟩
          · exact .inr ⟨.inr h, by rw [h]; exact rnc⟩
        · rintro (h | ⟨h1 | h1, h2⟩)
          · exact .inl (.inl h)
          · exact .inl (.inr ⟨h1, h2⟩)
          · exact .inr h1
      · have nr : ¬ Rc (uR (us.map pE)) n c := fun y => z (decide_eq_true ((lm2 c).mpr y))
        rw [fm, tk, List.mem_append, List.mem_singleton]
        refine ⟨fun h => h.imp id fun h => ⟨.inl h.1, h.2⟩, fun h => ?_⟩
        rcases h with h | ⟨h1 | h1, h2⟩
        · exact .inl h
        · exact .inr ⟨h1, h2⟩
        · rw [h1] at h2
          exact absurd h2 nr
    · rintro σ G ⟨fs, y3, rfl, gL, gq, sm, fnd, fl, fm⟩
      rw [List.length_map, List.length_map] at fl
      have fm : ∀ d, d ∈ fs ↔ Tog (uR (us.map pE)) c d := fun d => by
        rw [fm, List.length_map, List.length_map, List.take_length, lm]
        rfl
      refine ⟨.ref L, rfl, L, fs.map one, rfl, SqL.of gL, by rw [List.length_map, sizeLine_eq]; omega, fun ys p pm so hp => ?_⟩
      obtain ⟨cs, rfl, pw⟩ := sorted_ones ys (fun y hy => by
        obtain ⟨d, _, e⟩ := List.mem_map.mp (pm.mem_iff.mp hy)
        exact ⟨d, e.symm⟩) (pm.nodup_iff.mpr (nodup_onesR fnd)) so
      have ec : cs = cmp (uR (us.map pE)) c := asc_of (low.tog (sym_low sc)) pw fun d => by
        rw [← fm, ← mem_onesR (l := cs), pm.mem_iff]
        exact mem_onesR
      subst ec
      refine ⟨p, _, rfl, .inl ⟨SqL.of upd_same, fun r hr => ?_⟩⟩
      have s3 := sm.trans (same_upd (o := .lst (((cmp (uR (us.map pE)) c).map one).map V.str)) hp)
      exact k _ r (s3.trans (same_upd hr)) (fresh_of s3 hr) upd_same
theorem lls_lay : ∀ ls : List (List Nat), (∀ l ∈ ls, ∀ c ∈ l, c < 128) → PyData.canLayAll0 (ls.map fun l => PyData.list ((l.map one).map PyData.str)) = true ∧ PyData.depthAll (ls.map fun l => PyData.list ((l.map one).map PyData.str)) ≤ 1
  | [], _ => ⟨rfl, Nat.zero_le _⟩
  | l :: ls, h => by
    obtain ⟨h1, h2⟩ := lls_lay ls fun d hd => h d (List.mem_cons_of_mem _ hd)
    obtain ⟨g1, g2⟩ := ones_lay l (h l List.mem_cons_self)
    rw [List.map_cons]
    exact ⟨by simp only [PyData.canLayAll0, PyData.canLay0, g1, h1, Bool.and_self], by simp only [PyData.depthAll, PyData.depth, g2]; omega⟩
def llD (ls : List (List Nat)) : List PyData := ls.map fun l => PyData.list ((l.map one).map PyData.str)
theorem lls_shaped {ls : List (List Nat)} (h : ∀ l ∈ ls, ∀ c ∈ l, c < 128) : SeqAt.shaped (.list (ls.map fun l => PyData.list ((l.map one).map PyData.str))) = true := by
  obtain ⟨h1, h2⟩ := lls_lay ls h
  unfold SeqAt.shaped
  rw [Bool.and_eq_true]
  exact ⟨by simp only [PyData.canLay0, h1], decide_eq_true (by simp only [PyData.depth]; omega)⟩
theorem scLki : FnScope ["_law_useful_here", "_law_component_here", "_law_symbol", "_law_items", "_law_name", "_law_inner"] ["_law_useful_here", "_law_component_here"] (defScope sLKind) := ⟨rfl, rfl, rfl, by decide +kernel, rfl, by decide +kernel, by decide +kernel⟩
theorem ok_lki (D : Df K mg "_law_kind" sLKind ["_law_useful_here", "_law_component_here"]) (Dr : Df K mg "_law_reached" sLReached ["_law_useful_here", "_law_symbol"]) (Dn : Df K mg "_law_names_of" sLNamesOf ["_law_text"]) (mso : mg "sorted" = none) (ms : mg "set" = none) (mle : mg "len" = none) : FnOk P w K mg base CX0 3 D.f D.fd ["_law_useful_here", "_law_component_here"] (spLki K) := by
  have Gr : FnOk P w K mg base CX0 2 Dr.f Dr.fd ["_law_useful_here", "_law_symbol"] (spRch K) := ok_rch Dr Dn mso ms mle
  refine D.F.ok scLki (fun vs H Q E h => ?_) (fun cdv A outer s H vs Q E hr h => ?_)
  · obtain ⟨u, kk, us, l, rfl, _⟩ := h
    rfl
  · obtain ⟨u, kk, us, l, rfl, ul, uo, hk, is, syl, k⟩ := h
    have hr2 : Room 2 _ := hr
    refine ⟨_, PSs.nox (pss_cons (ps_if (pt_cmpR (r := rIn K true) op_notIn_seq (pe_ix (r := rIxT K) (by exact ix_tup) (pv 1) pe_int (fun _ _ => rfl)) (pe_call Gr hr2 (by rfl) Dr.g Dr.F.kp Dr.b .nil pass0 (pa_cons (pv 0) (pa_cons (pe_ix (r := rIxT K) (by exact ix_tup) (pv 1) pe_int (fun _ _ => rfl)) pa_nil))) rfl) (pss_one (ps_ret pe_str)) pss_nil) (pss_cons (ps_setLc (i := 5) (te := (tLc (iStr (tVar 3)) (gName 4) (tTest (tOp (rIn K false) (tVar 4) (tVar 1))) (tVar 4) [4])) (own := [("_law_symbol", 2), ("_law_items", 3)]) (g := gTup K 2 (gCons (gName 2) (gCons (gName 3) gNil))) rfl scLki.nd rfl rfl (sw_true rfl rfl rfl (by decide +kernel)) (pi_list (pv 0)) (blkOk_by (N := ["_law_useful_here", "_law_component_here", "_law_symbol", "_law_items", "_law_name", "_law_inner"]) (sc := defScope sLKind) (by decide +kernel)) (fun _ _ _ _ _ => (pg_tup rfl (pgs_cons (pg_name (i := 2) scLki.nd rfl (.inl rfl)) (pgs_cons (pg_name (i := 3) scLki.nd rfl (.inl rfl)) pgs_nil)))) (fun _ _ _ _ _ => (pts_one (pt_cmpR (r := rIn K false) op_in_seq (pv 2) (pv 1) rfl))) (fun _ _ _ _ _ => (pe_lc (own := [("_law_name", 4)]) (g := gName 4) rfl scLki.nd (pi_str (pv 3)) (blkOk_by (N := ["_law_useful_here", "_law_component_here", "_law_symbol", "_law_items", "_law_name", "_law_inner"]) (sc := inLki) (by decide +kernel)) (fun _ _ _ _ _ => pg_name (i := 4) scLki.nd rfl (Or.inl rfl)) (fun _ _ _ _ _ => (pts_one (pt_cmpR (r := rIn K false) op_in_seq (pv 4) (pv 1) rfl))) (fun _ _ _ _ _ => (pv 4))))) (pss_one (ps_ret (pe_ifExp (pt_cmpR (op_neD hr.units) (pe_lc (own := [("_law_items", 3)]) (g := gName 3) rfl scLki.nd (pi_list (pv 5)) (blkOk_by (N := ["_law_useful_here", "_law_component_here", "_law_symbol", "_law_items", "_law_name", "_law_inner"]) (sc := defScope sLKind) (by decide +kernel)) (fun _ _ _ _ _ => pg_name (i := 3) scLki.nd rfl (Or.inl rfl)) (fun _ _ _ _ _ => (pts_one (pt_cmpR op_gt (pe_callB (r := rLenC K) call_len_seq (by rfl) mle PySem.boot_len (pa_cons (pv 3) pa_nil)) pe_int (nomark _)))) (fun _ _ _ _ _ => (pv 3))) (pe_lst pa_nil) (nomark _)) pe_str pe_str))))), ?_⟩
    have low := uo.low
    have ne := is.ne low
    have hm := hdC_mem ne
    have k0 := kind0 low is (fun p hp => by
      obtain ⟨e, he, rfl⟩ := List.mem_map.mp hp
      exact (uo.2 e he).2) syl
    refine ⟨.ref kk, rfl, kk, _, 0, .str (one (hdC l)), rfl, rfl, hk, at_of (j := 0) rfl (hd_at ne), .ref u, rfl, .ref kk, rfl, kk, _, 0, .str (one (hdC l)), rfl, rfl, hk, at_of (j := 0) rfl (hd_at ne), u, hdC l, us, rfl, ul, uo.1, fun e he => (uo.2 e he).1, fun H1 q r s1 nq gq pw rm => ?_⟩
    refine ⟨q, _, rfl, .inl (SqL.of gq), rfl, flatV_ones r, ?_⟩
    rw [inV_one]
    refine ⟨_, rfl, ?_⟩
    by_cases rc : Rc (uR (us.map pE)) (hdC l) (hdC l)
    rotate_left
    · refine ite2 (fun _ => ?_) (fun z => absurd (show (!decide (hdC l ∈ r)) = true by rw [decide_eq_false (fun y => rc ((rm _).mp y))]; rfl) z)
      have := k H1 s1
      unfold kindS at this
      rw [if_pos (k0.mpr rc)] at this
      exact this
    refine ite2 (fun z => absurd (show (!decide (hdC l ∈ r)) = true from z) (by rw [decide_eq_true ((rm _).mpr rc)]; decide)) (fun _ => ?_)
    have kne : ¬ (nsC (us.map pE) l).all (fun n => decide (n = 0)) = true := fun z => (k0.mp z) rc
    unfold kindS at k
    rw [if_neg kne] at k
    clear k0 kne rc gq pw rm
    refine ⟨.ref u, rfl, u, rfl, ⟨_, SqL.of (s1 _ _ ul.here)⟩, fun L hL => ?_⟩
    refine lc_it (walk_list (xs := us.map vE)) (fun j F => ∃ ws : List (Addr × List Nat), F L = some (.lst (ws.map fun t => V.ref t.1)) ∧ (∀ t ∈ ws, t.1 ≠ L ∧ F t.1 = some (.lst ((t.2.map one).map V.str))) ∧ ws.map (·.2) = (((us.take j).map pE).filter fun p => decide (p.1 ∈ l)).map (fun p => inC l p.2) ∧ Same H1 F) ⟨[], upd_same, fun t h => (nomatch h), rfl, same_upd hL⟩ (fun _ _ _ ⟨_, _, _, _, sm⟩ => SqL.of (sm _ _ (s1 _ _ ul.here))) ?_ ?_
    · rintro j x F1 F2 hj ⟨ws, gL, rows, ew, sm⟩ ⟨rfl, hx⟩
      rw [List.length_map] at hj
      rw [List.getElem?_map, List.getElem?_eq_getElem hj] at hx
      have hx : V.ref us[j].1 = x := Option.some.inj hx
      subst hx
      have tk : us.take (j + 1) = us.take j ++ [us[j]] := by rw [List.take_add_one, List.getElem?_eq_getElem hj]; rfl
      have me : us[j] ∈ us := List.getElem_mem hj
      generalize us[j] = e at me tk ⊢
      have s2 := s1.trans sm
      have wl : ws.length ≤ 16 := by
        have h1 := congrArg List.length ew
        have h2 := List.length_filter_le (fun p : Nat × Str => decide (p.1 ∈ l)) ((us.take j).map pE)
        rw [List.length_map, List.length_map] at h1
        rw [List.length_map, List.length_take] at h2
        have := uo.1
        omega
      have yb := (uo.2 e me).1
      refine ⟨e.1, _, rfl, same_tupG s2 _ _ (ul.re _ me), rfl, _, _, rfl, _, _, rfl, rfl, rfl, .str (one e.2.1), rfl, .ref kk, rfl, kk, _, rfl, .inr (same_tupG s2 _ _ hk), rfl, flatV_ones l, ?_⟩
      rw [inV_one]
      refine ⟨_, rfl, ite2 (fun z => ?_) (fun z => ⟨ws, gL, rows, ?_, sm⟩)⟩
      rotate_left
      · have f1 : List.filter (fun p : Nat × Str => decide (p.1 ∈ l)) [pE e] = [] := List.filter_cons_of_neg z
        rw [tk, List.map_append, List.filter_append, List.map_cons, List.map_nil, f1, List.append_nil]
        exact ew
      refine ⟨.str e.2.2, rfl, e.2.2, rfl, fun B hB => ?_⟩
      refine lc_it (walk_str (z := e.2.2)) (fun j F => F B = some (.lst (((((tl e.2.2).take j).filter fun d => decide (d ∈ l)).map one).map V.str)) ∧ Same F2 F) ⟨upd_same, same_upd hB⟩ (fun _ _ _ _ => trivial) ?_ ?_
      · rintro j x F1 F3 hj ⟨gB, sB⟩ ⟨rfl, c0, hx, rfl⟩
        have hx : (tl e.2.2)[j]? = some c0 := by
          rw [← hx]
          exact Array.getElem?_toList
        have tk : (tl e.2.2).take (j + 1) = (tl e.2.2).take j ++ [c0] := by rw [List.take_add_one, hx]; rfl
        refine ⟨rfl, .str (one c0), rfl, .ref kk, rfl, kk, _, rfl, .inr (same_tupG (s2.trans sB) _ _ hk), rfl, flatV_ones l, ?_⟩
        rw [inV_one]
        refine ⟨_, rfl, ite2 (fun z => ⟨.str (one c0), rfl, _, gB, ?_, ?_, fun b o h => (upd_ne (ne_of_none h hB)).trans (sB b o h)⟩) (fun z => ⟨?_, sB⟩)⟩
        · rw [List.length_map, List.length_map, sizeLine_eq]
          have := List.length_filter_le (fun d => decide (d ∈ l)) ((tl e.2.2).take j)
          rw [List.length_take] at this
          omega
        · have f1 : List.filter (fun d => decide (d ∈ l)) [c0] = [c0] := List.filter_cons_of_pos z
          rw [upd_same, tk, List.filter_append, List.map_append, List.map_append, f1]
          rfl
        · have f1 : List.filter (fun d => decide (d ∈ l)) [c0] = [] := List.filter_cons_of_neg z
          rw [tk, List.filter_append, f1, List.append_nil]
          exact gB
      rintro F3 ⟨gB, sB⟩
      rw [List.take_of_length_le (show (tl e.2.2).length ≤ e.2.2.cps.size from Nat.le_refl _)] at gB
      have gL3 := sB _ _ gL
      have f1 : List.filter (fun p : Nat × Str => decide (p.1 ∈ l)) [pE e] = [pE e] := List.filter_cons_of_pos z
      refine ⟨_, gL3, by rw [List.length_map, sizeLine_eq]; omega, ws ++ [(B, inC l e.2.2)], by rw [upd_same, List.map_append]; rfl, fun t ht => ?_, ?_, fun b o h => (upd_ne (ne_of_none h hL)).trans ((sm.trans sB) b o h)⟩
      · rcases List.mem_append.mp ht with ht | ht
        · obtain ⟨n1, g1⟩ := rows t ht
          exact ⟨n1, (upd_ne n1).trans (sB _ _ g1)⟩
        · rw [List.mem_singleton.mp ht]
          have n1 : B ≠ L := (ne_of_none gL hB).symm
          exact ⟨n1, (upd_ne n1).trans gB⟩
      · rw [tk, List.map_append, List.map_append, List.filter_append, List.map_append, List.map_cons, List.map_nil, List.map_cons, List.map_nil, f1, ew]
        rfl
    rintro F ⟨ws, gL, rows, ew, sm⟩
    rw [List.length_map, List.take_length] at ew
    dsimp only [gName, List.set]
    have ens : (ws.map (·.2)).map List.length = nsC (us.map pE) l := by
      rw [ew, List.map_map]
      rfl
    have wlow : ∀ t ∈ ws, ∀ c ∈ t.2, c < 128 := fun t ht c hc => by
      have : t.2 ∈ ws.map (·.2) := List.mem_map.mpr ⟨t, ht, rfl⟩
      rw [ew] at this
      obtain ⟨p, _, e⟩ := List.mem_map.mp this
      rw [← e] at hc
      exact sym_low (syl c (of_decide_eq_true (List.mem_filter.mp hc).2))
    have wl : ws.length ≤ 16 := by
      have h1 := congrArg List.length ew
      have h2 := List.length_filter_le (fun p : Nat × Str => decide (p.1 ∈ l)) (us.map pE)
      rw [List.length_map, List.length_map] at h1
      rw [List.length_map] at h2
      have := uo.1
      omega
    clear ew
    have rows : ∀ t ∈ ws, F t.1 = some (.lst ((t.2.map one).map V.str)) := fun t ht => (rows t ht).2
    refine ⟨.ref L, rfl, L, rfl, ⟨_, SqL.of gL⟩, fun B hB => ?_⟩
    refine lc_it (walk_list (xs := ws.map fun t => V.ref t.1)) (fun j G => G B = some (.lst (((ws.take j).filter fun t => decide (1 < t.2.length)).map fun t => V.ref t.1)) ∧ Same F G) ⟨upd_same, same_upd hB⟩ (fun _ _ _ ⟨_, s2⟩ => SqL.of (s2 _ _ gL)) ?_ ?_
    · rintro j x F4 F5 hj ⟨gB, s2⟩ ⟨rfl, hx⟩
      rw [List.length_map] at hj
      rw [List.getElem?_map, List.getElem?_eq_getElem hj] at hx
      have hx : V.ref ws[j].1 = x := Option.some.inj hx
      subst hx
      have tk : ws.take (j + 1) = ws.take j ++ [ws[j]] := by rw [List.take_add_one, List.getElem?_eq_getElem hj]; rfl
      have r0 := rows _ (List.getElem_mem hj)
      generalize ws[j] = t at r0 tk ⊢
      refine ⟨rfl, .ref t.1, rfl, t.1, _, rfl, .inl (SqL.of (s2 _ _ r0)), (t.2.length : Int), 1, by rw [List.length_map, List.length_map], rfl, _, rfl, ?_⟩
      have fl := List.length_filter_le (fun t : Addr × List Nat => decide (1 < t.2.length)) (ws.take j)
      rw [List.length_take] at fl
      by_cases z : 1 < t.2.length
      · have f1 : List.filter (fun t : Addr × List Nat => decide (1 < t.2.length)) [t] = [t] := List.filter_cons_of_pos (decide_eq_true z)
        refine ite2 (fun _ => ⟨.ref t.1, rfl, _, gB, by rw [List.length_map, sizeLine_eq]; omega, ?_, fun b o h => (upd_ne (ne_of_none h hB)).trans (s2 b o h)⟩) (fun y => absurd (decide_eq_true (by omega)) y)
        rw [upd_same, tk, List.filter_append, List.map_append, f1]
        rfl
      · have f1 : List.filter (fun t : Addr × List Nat => decide (1 < t.2.length)) [t] = [] := List.filter_cons_of_neg (by rw [decide_eq_false z]; decide)
        refine ite2 (fun y => absurd (of_decide_eq_true y) (by omega)) (fun _ => ⟨?_, s2⟩)
        rw [tk, List.filter_append, f1, List.append_nil]
        exact gB
    rintro F4 ⟨gB, s2⟩
    rw [List.length_map, List.take_length] at gB
    refine ⟨by show 0 ≤ sizeLine; decide, fun n1 h_n1 => ?_⟩
    have sn := same_upd (o := .lst []) h_n1
    have rows4 : ∀ t ∈ ws.filter (fun t => decide (1 < t.2.length)), (upd F4 n1 (.lst [])) t.1 = some (.lst ((t.2.map one).map V.str)) := fun t ht => sn _ _ (s2 _ _ (rows t (List.mem_filter.mp ht).1))
    have any1 : (ws.filter fun t => decide (1 < t.2.length)).isEmpty = (nsC (us.map pE) l).all (fun n => decide (n ≤ 1)) := by
      rw [← ens, Bool.eq_iff_iff, List.isEmpty_iff, List.filter_eq_nil_iff, List.all_eq_true]
      constructor
      · intro h n hn
        obtain ⟨m, hm, rfl⟩ := List.mem_map.mp hn
        obtain ⟨t, ht, rfl⟩ := List.mem_map.mp hm
        have := h t ht
        refine decide_eq_true ?_
        by_cases q : 1 < t.2.length
        · exact absurd (decide_eq_true q) this
        · omega
      · intro h t ht z
        have := of_decide_eq_true (h _ (List.mem_map.mpr ⟨_, List.mem_map.mpr ⟨t, ht, rfl⟩, rfl⟩))
        have := of_decide_eq_true z
        omega
    have wlow4 : ∀ t ∈ ws.filter (fun t => decide (1 < t.2.length)), ∀ c ∈ t.2, c < 128 := fun t ht => wlow t (List.mem_filter.mp ht).1
    rw [← any1] at k
    generalize (ws.filter fun t => decide (1 < t.2.length)) = vs at gB rows4 wlow4 k
    have dpa : ∀ xs : List (Addr × List Nat), (∀ t ∈ xs, t ∈ vs) → DpAll K (upd F4 n1 (.lst [])) (xs.map fun t => V.ref t.1) (llD (xs.map Prod.snd)) := by
      intro xs
      induction xs with
      | nil => exact fun _ => .nil
      | cons t xs ih => exact fun h => .cons (.lst (SqL.of (rows4 t (h t List.mem_cons_self))) (strs_dpR _)) (ih fun y hy => h y (List.mem_cons_of_mem _ hy))
    refine ⟨.list (llD (vs.map Prod.snd)), .list [], .lst (SqL.of (sn _ _ gB)) (dpa vs fun _ h => h), .lst (SqL.of upd_same) .nil, lls_shaped (fun y hy => ?_), by decide +kernel, ?_⟩
    · obtain ⟨t, ht, rfl⟩ := List.mem_map.mp hy
      exact wlow4 t ht
    rw [eqv_nilR]
    have k := k _ (((s1.trans sm).trans s2).trans sn)
    have em : (llD (vs.map Prod.snd)).isEmpty = vs.isEmpty := by
      cases vs <;> rfl
    rw [em]
    refine ⟨_, rfl, ?_⟩
    cases vs with
    | nil => exact iteF k
    | cons a b => exact iteT k
end
end DW
/-! the law: the components in their order -/
namespace DW
open PySem PySem.Spec PyProof.Rows L2 TL
set_option autoImplicit false
theorem u50c {k : Nat} {A : Around} (hr : Room k A) : A.units + 50 < cLine := by
  have := hr.un
  omega
theorem tAnd_read {t u : TT} {σ : L2.St} {H : Hp} {Q : Bool → Hp → Prop} {p q : Prop} (h : p ∧ q → Q true H) (h2 : ¬ (p ∧ q) → Q false H) (ht : ∀ R : Bool → Hp → Prop, (p → R true H) → (¬ p → R false H) → t σ H R) (hu : ∀ R : Bool → Hp → Prop, (q → R true H) → (¬ q → R false H) → u σ H R) : tAnd t u σ H Q :=
  ht _ (fun hp => by
    show if true = true then u σ H Q else _
    rw [if_pos rfl]
    exact hu _ (fun hq => h ⟨hp, hq⟩) fun nq => h2 fun z => nq z.2) fun np => by
    show if false = true then _ else Q false H
    rw [if_neg (by decide)]
    exact h2 fun z => np z.1
theorem lift_map {α β : Type} {f : α → β} {ks : List α} : ∀ L : List β, (∀ z ∈ L, z ∈ ks.map f) → ∃ T : List α, T.map f = L ∧ ∀ t ∈ T, t ∈ ks
  | [], _ => ⟨[], rfl, fun _ h => nomatch h⟩
  | z :: L, h => by
    obtain ⟨T, e, s⟩ := lift_map L fun y hy => h y (List.mem_cons_of_mem _ hy)
    obtain ⟨t, ht, q⟩ := List.mem_map.mp (h z List.mem_cons_self)
    refine ⟨t :: T, by rw [List.map_cons, q, e], fun y hy => ?_⟩
    rcases List.mem_cons.mp hy with r | r
    · rw [r]
      exact ht
    · exact s y r
theorem ok_known {R : Nat → Nat → Prop} (low : Low R) {W0 rest out : List (List Nat)} {K : List Nat} (isc : ∀ l ∈ W0, IsC R l) (hK : K ∈ rest) (sr : ∀ l ∈ rest, l ∈ W0) (so : ∀ l ∈ out, l ∈ W0) (split : ∀ l ∈ W0, l ∈ rest ∨ l ∈ out) (dis : ∀ l ∈ rest, l ∉ out) (cov : ∀ d, Rc R (hdC K) d → ∃ l ∈ W0, d ∈ l) :
    (∀ d, Rc R (hdC K) d → d ∈ out.flatten ∨ d ∈ K) ↔ okC R rest K := by
  constructor
  · intro h L hL ne rc
    have iL := isc L (sr L hL)
    have hm := hdC_mem (iL.ne low)
    rcases h _ rc with q | q
    · obtain ⟨M, hM, q⟩ := List.mem_flatten.mp q
      rw [(isc M (so M hM)).one low iL q hm] at hM
      exact dis L hL hM
    · exact ne (iL.one low (isc K (sr K hK)) hm q)
  · intro ok d rc
    obtain ⟨l, hl, dl⟩ := cov d rc
    rcases split l hl with h | h
    · by_cases e : l = K
      · rw [← e]
        exact .inr dl
      · refine absurd ?_ (ok l h e)
        have il := isc l hl
        have hm := hdC_mem (il.ne low)
        have d128 := il.low low _ dl
        generalize hdC l = x at hm ⊢
        rw [il.of low dl, cmp_mem low d128] at hm
        rcases hm with z | z
        · rw [z]
          exact rc
        · exact rc.trans z.1
    · exact .inl (List.mem_flatten.mpr ⟨l, h, dl⟩)
def cDs (ws : List AC) : List PyData := ws.map fun t => cD t.2
theorem cDs_dp {K : PySem.W.Frag} {H : Hp} : ∀ {ws : List AC}, (∀ t ∈ ws, SqT K H t.1 ((t.2.map one).map V.str)) → DpAll K H (ws.map fun t => V.ref t.1) (cDs ws)
  | [], _ => .nil
  | t :: ws, h => .cons (cD_dp (h t List.mem_cons_self)) (cDs_dp fun y hy => h y (List.mem_cons_of_mem _ hy))
theorem cDs_lay : ∀ ws : List AC, (∀ t ∈ ws, ∀ c ∈ t.2, c < 128) → PyData.canLayAll0 (cDs ws) = true ∧ PyData.depthAll (cDs ws) ≤ 1
  | [], _ => ⟨rfl, Nat.zero_le _⟩
  | t :: ws, h => by
    obtain ⟨h1, h2⟩ := cDs_lay ws fun d hd => h d (List.mem_cons_of_mem _ hd)
    obtain ⟨g1, g2⟩ := ones_lay t.2 (h t List.mem_cons_self)
    show PyData.canLayAll0 (cD t.2 :: cDs ws) = true ∧ PyData.depthAll (cD t.2 :: cDs ws) ≤ 1
    unfold cD
    exact ⟨by simp only [PyData.canLayAll0, PyData.canLay0, g1, h1, Bool.and_self], by simp only [PyData.depthAll, PyData.depth, g2]; omega⟩
theorem cDs_shaped {ws : List AC} (h : ∀ t ∈ ws, ∀ c ∈ t.2, c < 128) : SeqAt.shaped (.list (cDs ws)) = true := by
  obtain ⟨h1, h2⟩ := cDs_lay ws h
  unfold SeqAt.shaped
  rw [Bool.and_eq_true]
  exact ⟨by simp only [PyData.canLay0, h1], decide_eq_true (by simp only [PyData.depth]; omega)⟩
def spLor (K : PySem.W.Frag) : Sp := fun vs H Q _ => ∃ (a : Addr) (es : List En), vs = [.ref a] ∧ H a = some (.lst (es.map vE)) ∧ RE K H es ∧ es.length ≤ 16 ∧ (∀ e ∈ es, (tl e.2.2).length ≤ 100 ∧ symB e.2.1 = true) ∧ nsym (chs (es.map pE)) ≤ 6 ∧
  ∀ H' q (ws : List AC), Same H H' → H q = none → H' q = some (.lst (ws.map fun t => V.ref t.1)) → (∀ t ∈ ws, SqT K H' t.1 ((t.2.map one).map V.str)) → CsOf es (ws.map (·.2)) → Q (.ref q) H'
section
variable {P : Program} {w : World} {K : PySem.W.Frag} {mg : Str → Option Value} {base : Heap}
theorem scLor : FnScope ["_law_rules_here","_law_useful_here","_law_symbol","_law_items","_law_left","_law_found","_law_known","_law_one","_law_name","_law_other"] ["_law_rules_here"] (defScope sLOrdered) := ⟨rfl, rfl, rfl, by decide +kernel, rfl, by decide +kernel, by decide +kernel⟩
theorem ok_lor (D : Df K mg "_law_ordered" sLOrdered ["_law_rules_here"]) (Du : Df K mg "_law_useful" sLUseful ["_law_rules_here"]) (Dc : Df K mg "_law_component" sLComponent ["_law_useful_here", "_law_symbol"]) (Dr : Df K mg "_law_reached" sLReached ["_law_useful_here", "_law_symbol"]) (Dh : Df K mg "_law_heights" sLHeights ["_law_rules_here"]) (Dn : Df K mg "_law_names_of" sLNamesOf ["_law_text"]) (mso : mg "sorted" = none) (ms : mg "set" = none) (mle : mg "len" = none) (mt : mg "tuple" = none) (md : mg "dict" = none) (ml : mg "list" = none) : FnOk P w K mg base CX0 4 D.f D.fd ["_law_rules_here"] (spLor K) := by
  have Gu : FnOk P w K mg base CX0 3 Du.f Du.fd ["_law_rules_here"] (spUsl K) := ok_usl Du Dh Dn md ml
  have Gr : FnOk P w K mg base CX0 2 Dr.f Dr.fd ["_law_useful_here", "_law_symbol"] (spRch K) := ok_rch Dr Dn mso ms mle
  have Gc : FnOk P w K mg base CX0 3 Dc.f Dc.fd ["_law_useful_here", "_law_symbol"] (spLco K) := ok_lco Dc Dr Dn mso ms mle mt
  refine D.F.ok scLor (fun vs H Q E h => ?_) (fun cdv A outer s H vs Q E hr h => ?_)
  · obtain ⟨a, es, rfl, _⟩ := h
    rfl
  · obtain ⟨a, es, rfl, ha, re, el, yl, six, k⟩ := h
    have hr2 : Room 2 _ := hr.mono (by decide)
    have hr3 : Room 3 _ := hr
    have sl := sizeLine_eq
    refine ⟨_, PSs.nox (pss_cons (ps_set (i := 1) scLor.nd rfl (.inr rfl) (pe_call Gu hr3 (by rfl) Du.g Du.F.kp Du.b .nil pass0 (pa_cons (pv 0) pa_nil))) (pss_cons (ps_set (i := 4) scLor.nd rfl (.inl rfl) (pe_callB (NSet.cr_sortN rfl (u66c hr)) (by rfl) mso (by decide +kernel) (pa_cons (pe_callTy (NSet.cr_setN rfl (u50c hr)) (by rfl) ms (by decide +kernel) (pa_cons (pe_lc (own := [("_law_symbol", 2), ("_law_items", 3)]) (g := gTup K 2 (gCons (gName 2) (gCons (gName 3) gNil))) rfl scLor.nd (pi_list (pv 1)) (blkOk_by (N := ["_law_rules_here", "_law_useful_here", "_law_symbol", "_law_items", "_law_left", "_law_found", "_law_known", "_law_one", "_law_name", "_law_other"]) (sc := defScope sLOrdered) (by decide +kernel)) (fun _ _ _ _ _ => (pg_tup rfl (pgs_cons (pg_name (i := 2) scLor.nd rfl (.inl rfl)) (pgs_cons (pg_name (i := 3) scLor.nd rfl (.inl rfl)) pgs_nil)))) (fun _ _ _ _ _ => pts_nil) (fun _ _ _ _ _ => (pe_call Gc hr3 (by rfl) Dc.g Dc.F.kp Dc.b .nil pass0 (pa_cons (pv 1) (pa_cons (pv 2) pa_nil))))) pa_nil)) pa_nil))) (pss_cons (ps_asg (pe_tup (pa_cons (pe_lst pa_nil) (pa_cons (pe_lst pa_nil) pa_nil))) (pg_tup rfl (pgs_cons (pg_name (i := 5) scLor.nd rfl (.inl rfl)) (pgs_cons (pg_name (i := 6) scLor.nd rfl (.inr rfl)) pgs_nil)))) (pss_cons (ps_while PassesOwn.never (pt_cmpR (op_neD hr.units) (pv 4) (pe_lst pa_nil) (nomark _)) (C8.pss_cut (ps_for PassesOwn.never rfl (pi_list (pv 4)) (pg_name (i := 7) scLor.nd rfl (.inr rfl)) (pss_one (ps_if (pt_cmpR (op_eqD hr.units) (pe_lc (own := [("_law_name", 8)]) (g := gName 8) rfl scLor.nd (pi_list (pe_call Gr hr2 (by rfl) Dr.g Dr.F.kp Dr.b .nil pass0 (pa_cons (pv 1) (pa_cons (pe_ix (r := rIxT K) (by exact ix_tup) (pv 7) pe_int (fun _ _ => rfl)) pa_nil)))) (blkOk_by (N := ["_law_rules_here", "_law_useful_here", "_law_symbol", "_law_items", "_law_left", "_law_found", "_law_known", "_law_one", "_law_name", "_law_other"]) (sc := defScope sLOrdered) (by decide +kernel)) (fun _ _ _ _ _ => pg_name (i := 8) scLor.nd rfl (Or.inl rfl)) (fun _ _ _ _ _ => (pts_one (pw_and (pt_cmpR (r := rIn K true) op_notIn_seq (pv 8) (pv 6) rfl) (pw_and1 (pt_cmpR (r := rIn K true) op_notIn_seq (pv 8) (pv 7) rfl))).pt)) (fun _ _ _ _ _ => (pv 8))) (pe_lst pa_nil) (nomark _)) (pss_one ps_break) pss_nil))) (pss_cons (ps_expr (pe_bm PySem.F.plainAttrs_list PySem.F.slot_list_append PySem.F.type_list_append mt_append (pv 5) (pa_cons (pv 7) pa_nil))) (pss_cons (ps_expr (pe_bm PySem.F.plainAttrs_list PySem.F.slot_list_extend PySem.F.type_list_extend XTU.mt_extendT (pv 6) (pa_cons (pv 7) pa_nil))) (pss_one (ps_setLc (i := 4) (own := [("_law_other", 9)]) (g := gName 9) rfl scLor.nd rfl rfl (sw_true rfl rfl rfl (by decide +kernel)) (pi_list (pv 4)) (blkOk_by (N := ["_law_rules_here", "_law_useful_here", "_law_symbol", "_law_items", "_law_left", "_law_found", "_law_known", "_law_one", "_law_name", "_law_other"]) (sc := defScope sLOrdered) (by decide +kernel)) (fun _ _ _ _ _ => pg_name (i := 9) scLor.nd rfl (Or.inl rfl)) (fun _ _ _ _ _ => (pts_one (pt_cmpR (r := rNeD K) (by exact op_neD hr.units) (pv 9) (pv 7) (nomark _)))) (fun _ _ _ _ _ => (pv 9)))))))) (pss_one (ps_ret (pv 5))))))), ?_⟩
    refine ⟨.ref a, rfl, a, es, rfl, ha, re, el, yl, six, fun H1 u us s1 nu ul eu => ?_⟩
    dsimp only [gName, List.set]
    have sy : ∀ p ∈ es.map pE, symB p.1 = true := fun p hp => by
      obtain ⟨e, he, rfl⟩ := List.mem_map.mp hp
      exact (yl e he).2
    have uo : UsOk us := by
      refine ⟨?_, fun e he => ?_⟩
      · have h1 := congrArg List.length eu
        unfold usf at h1
        have h2 := List.length_filter_le (fun p : Nat × Str => okR (FF (es.map pE) 7) p.2) (es.map pE)
        rw [List.length_map] at h1 h2
        omega
      · have : pE e ∈ us.map pE := List.mem_map.mpr ⟨e, he, rfl⟩
        rw [eu] at this
        obtain ⟨e', he', q⟩ := List.mem_map.mp (usf_sub this)
        have h3 := yl e' he'
        have q1 : e'.2.1 = e.2.1 := congrArg Prod.fst q
        have q2 : e'.2.2 = e.2.2 := congrArg Prod.snd q
        rw [q1, q2] at h3
        exact h3
    have eR : uR (us.map pE) = gR es := by rw [eu]
    have low := uo.low
    refine ⟨.ref u, rfl, u, rfl, ⟨_, SqL.of ul.here⟩, fun L0 hL0 => ?_⟩
    refine lc_it (walk_list (xs := us.map vE)) (fun j F => ∃ ks : List AC, F L0 = some (.lst (ks.map fun t => V.ref t.1)) ∧ (∀ t ∈ ks, F t.1 = some (.tup ((t.2.map one).map V.str))) ∧ ks.map (·.2) = (us.take j).map (fun e => cmp (gR es) e.2.1) ∧ Same H1 F) ⟨[], upd_same, fun t h => (nomatch h), rfl, same_upd hL0⟩ (fun _ _ _ ⟨_, _, _, _, sm⟩ => SqL.of (sm _ _ ul.here)) ?_ ?_
    · rintro j x F1 F2 hj ⟨ks, gL, rows, ek, sm⟩ ⟨rfl, hx⟩
      rw [List.length_map] at hj
      rw [List.getElem?_map, List.getElem?_eq_getElem hj] at hx
      have hx : V.ref us[j].1 = x := Option.some.inj hx
      subst hx
      have tk : us.take (j + 1) = us.take j ++ [us[j]] := by rw [List.take_add_one, List.getElem?_eq_getElem hj]; rfl
      have me : us[j] ∈ us := List.getElem_mem hj
      generalize us[j] = e at me tk ⊢
      have kl := congrArg List.length ek
      rw [List.length_map, List.length_map, List.length_take] at kl
      refine ⟨e.1, _, rfl, same_tupG sm _ _ (ul.re _ me), rfl, _, _, rfl, _, _, rfl, rfl, rfl, yes ⟨.ref u, rfl, .str (one e.2.1), rfl, u, e.2.1, us, rfl, ul.same sm, uo, (uo.2 e me).2, fun F3 q s3 nq gq => ?_⟩⟩
      have gL3 := s3 _ _ gL
      have tne : ∀ {b : Addr} {xs : List V}, F3 b = some (.tup xs) → b ≠ L0 := fun hb z => by
        rw [z, gL3] at hb
        cases hb
      have have1 := uo.1
      refine ⟨_, gL3, by rw [List.length_map, sl]; omega, ks ++ [(q, cmp (gR es) e.2.1)], by rw [upd_same, List.map_append]; rfl, fun t ht => ?_, by rw [List.map_append, ek, tk, List.map_append]; rfl, fun b o h => (upd_ne (ne_of_none h hL0)).trans ((sm.trans s3) b o h)⟩
      rcases List.mem_append.mp ht with ht | ht
      · have := s3 _ _ (rows t ht)
        exact (upd_ne (tne this)).trans this
      · rw [List.mem_singleton.mp ht]
        rw [eR] at gq
        exact (upd_ne (tne gq)).trans gq
    rintro F ⟨ks, gL0, rows, ek, sm⟩
    rw [List.length_map, List.take_length] at ek
    have kl := congrArg List.length ek
    have uo1 := uo.1
    rw [List.length_map, List.length_map] at kl
    rw [eR] at low
    unfold tNil
    refine ⟨L0, ks.map ckK, rfl, by rw [List.map_map]; exact SqL.of gL0, by rw [List.length_map]; omega, fun z hz => ?_, fun Sa L nSa sub nd mem len => ?_⟩
    · obtain ⟨t, ht, rfl⟩ := List.mem_map.mp hz
      exact ⟨ck_nk (.inl (.inl (rows t ht))), ckN_depth _⟩
    obtain ⟨T, rfl, Ts⟩ := lift_map L sub
    have sS := same_upd (o := NSet.SetO w Sa (T.map ckK)) nSa
    have keys : ∀ Z : List AC, (Z.map ckK).map (·.2) = (Z.map (·.2)).map ckN := fun Z => by rw [List.map_map, List.map_map]; rfl
    have sT : SetC w K (upd F Sa (NSet.SetO w Sa (T.map ckK))) Sa (ks.map (·.2)) T := by
      refine ⟨upd_same, fun t ht => .inl (.inl (sS _ _ (rows t (Ts t ht)))), fun l => ?_, ?_, by rw [List.length_map] at len ⊢; rwa [List.length_map] at len⟩
      · have := mem (ckN l)
        rw [keys, keys] at this
        constructor
        · intro h
          obtain ⟨e, he, q⟩ := List.mem_map.mp (this.mp (List.mem_map_of_mem h))
          rw [← ckN_inj q]
          exact he
        · intro h
          obtain ⟨e, he, q⟩ := List.mem_map.mp (this.mpr (List.mem_map_of_mem h))
          rw [← ckN_inj q]
          exact he
      · rw [keys] at nd
        exact List.Pairwise.of_map ckN (fun _ _ ne e => ne (congrArg ckN e)) nd
    have isA : ∀ l ∈ ks.map (·.2), IsC (gR es) l := fun l hl => by
      rw [ek] at hl
      obtain ⟨e, he, rfl⟩ := List.mem_map.mp hl
      exact ⟨e.2.1, sym_low (uo.2 e he).2, rfl⟩
    refine SetC.sorted sT low isA fun F2 p0 ws0 s5 np0 gp0 tup0 pw0 mem0 len0 => ?_
    rw [List.length_map] at len0
    have mem1 : ∀ l, l ∈ ws0.map (·.2) ↔ ∃ c, pS (es.map pE) c ∧ l = cmp (gR es) c := fun l => by
      rw [mem0, ek, List.mem_map]
      constructor
      · rintro ⟨e, he, rfl⟩
        have : pE e ∈ us.map pE := List.mem_map.mpr ⟨e, he, rfl⟩
        rw [eu] at this
        exact ⟨e.2.1, usf_key six sy this, rfl⟩
      · rintro ⟨c, hc, rfl⟩
        obtain ⟨p, hp, rfl⟩ := pS_usf hc
        rw [← eu] at hp
        obtain ⟨e, he, rfl⟩ := List.mem_map.mp hp
        exact ⟨e, he, rfl⟩
    have is0 : ∀ l ∈ ws0.map (·.2), IsC (gR es) l := fun l hl => isA l ((mem0 l).mp hl)
    have s6 : Same H F2 := ((s1.trans sm).trans sS).trans s5
    have ulF := ul.same ((sm.trans sS).trans s5)
    have cov : ∀ c d, Rc (gR es) c d → ∃ l ∈ ws0.map (·.2), d ∈ l := fun c d r => by
      obtain ⟨b, r1⟩ := r.last
      have pd := (uR_keys six sy r1).2
      refine ⟨cmp (gR es) d, (mem1 _).mpr ⟨d, pd, rfl⟩, ?_⟩
      obtain ⟨p, hp, e⟩ := FF_sub pd
      rw [cmp_mem low (by rw [← e]; exact sym_low (sy p hp))]
      exact .inl rfl
    have l128 : ∀ l ∈ ws0.map (·.2), l.length ≤ 128 := fun l hl => by
      obtain ⟨c, _, rfl⟩ := (mem1 l).mp hl
      unfold cmp asc
      refine Nat.le_trans (List.length_filter_le _ _) ?_
      rw [List.length_range]
      exact Nat.le_refl _
    clear sT isA mem0 sS sub nd mem len Ts rows gL0 keys ek sm s5 ul
    dsimp only [gName, List.set]
    refine ⟨by show 0 ≤ sizeLine; decide, fun L h_L => ⟨by show 0 ≤ sizeLine; decide, fun kn h_kn => ⟨by show 2 ≤ sizeLine; decide, fun tp h_tp => ?_⟩⟩⟩
    have t1 := same_upd (o := .lst []) h_L
    have t2 := same_upd (o := .lst []) h_kn
    have t3 := same_upd (o := .tup [V.ref L, V.ref kn]) h_tp
    have nLk : L ≠ kn := ne_of_none upd_same h_kn
    have g1 := t3 _ _ (t2 _ _ (t1 _ _ gp0))
    have g2 := t3 _ _ (t2 _ _ (upd_same (H := F2) (a := L) (o := .lst [])))
    have g3 := t3 _ _ (upd_same (H := upd F2 L (.lst [])) (a := kn) (o := .lst []))
    have tt := (t1.trans t2).trans t3
    have nL : F2 L = none := h_L
    have nkn : F2 kn = none := fresh_of t1 h_kn
    have npL : p0 ≠ L := ne_of_none gp0 nL
    have npk : p0 ≠ kn := ne_of_none gp0 nkn
    refine ⟨tp, _, rfl, SqT.of upd_same, rfl, _, _, rfl, _, _, rfl, rfl, ?_⟩
    dsimp only [gName, List.set]
    generalize upd (upd (upd F2 L (.lst [])) kn (.lst [])) tp (.tup [V.ref L, V.ref kn]) = F3 at g1 g2 g3 tt ⊢
    clear t1 t2 t3 h_kn h_tp
    refine ⟨fun m σ G => ∃ (rest out : List AC) (wl : Addr) (y2 y3 y7 y8 y9 : Option V), m = rest.length ∧ σ = [some (.ref a), some (.ref u), y2, y3, some (.ref wl), some (.ref L), some (.ref kn), y7, y8, y9] ∧ G wl = some (.lst (rest.map fun t => V.ref t.1)) ∧ wl ≠ L ∧ wl ≠ kn ∧ G L = some (.lst (out.map fun t => V.ref t.1)) ∧ G kn = some (.lst ((((out.map (·.2)).flatten).map one).map V.str)) ∧ Same F2 G ∧ (∀ t ∈ rest, t ∈ ws0) ∧ (∀ t ∈ out, t ∈ ws0) ∧ (∀ t ∈ ws0, t ∈ rest ∨ t.2 ∈ out.map (·.2)) ∧ (∀ t ∈ rest, t.2 ∉ out.map (·.2)) ∧ (∀ tail, OrdC (gR es) (rest.map (·.2)) tail → OrdC (gR es) (ws0.map (·.2)) (out.map (·.2) ++ tail)) ∧ rest.length + out.length ≤ 26 ∧ ((out.map (·.2)).flatten).length ≤ 128 * out.length, ⟨_, ws0, [], p0, _, _, _, _, _, rfl, rfl, g1, npL, npk, g2, g3, tt, fun _ h => h, fun _ h => (nomatch h), fun _ h => .inl h, fun _ _ h => (nomatch h), fun _ h => h, by show ws0.length + 0 ≤ 26; omega, Nat.zero_le _⟩, ?_⟩
    rintro m σ G ⟨rest, out, wl, y2, y3, y7, y8, y9, hm, rfl, gw, nwL, nwk, gL, gk, sm, rin, oin, split, dis, ordr, ln, lk⟩
    have lowc : ∀ t ∈ ws0, ∀ c ∈ t.2, c < 128 := fun t ht => (is0 t.2 (List.mem_map.mpr ⟨t, ht, rfl⟩)).low low
    refine ⟨.ref wl, rfl, by show 0 ≤ sizeLine; decide, fun n0 h_n0 => ?_⟩
    have sn := same_upd (o := .lst []) h_n0
    refine ⟨.list (cDs rest), .list [], .lst (SqL.of (sn _ _ gw)) (cDs_dp fun t ht => same_tupG (sm.trans sn) _ _ (tup0 t (rin t ht))), .lst (SqL.of upd_same) .nil, cDs_shaped (fun t ht => lowc t (rin t ht)), by decide +kernel, ?_⟩
    rw [eqv_nilR]
    refine ⟨_, rfl, ?_⟩
    have gw := sn _ _ gw
    have gL := sn _ _ gL
    have gk := sn _ _ gk
    have sm := sm.trans sn
    generalize upd G n0 (.lst []) = G1 at gw gL gk sm ⊢
    clear sn h_n0
    cases rest with
    | nil =>
      refine iteF ⟨.ref L, rfl, k _ L out (s6.trans sm) (fresh_of s6 nL) gL (fun t ht => same_tupG sm _ _ (tup0 t (oin t ht))) ⟨ws0.map (·.2), pw0, mem1, ?_⟩⟩
      have := ordr [] .nil
      rwa [List.append_nil] at this
    | cons t0 rest0 =>
      have ne : t0 :: rest0 ≠ [] := fun e => nomatch e
      have emp : (!(cDs (t0 :: rest0)).isEmpty) = true := rfl
      generalize t0 :: rest0 = rest at hm gw rin split dis ordr ln ne emp ⊢
      refine ite2 (fun _ => ?_) (fun e => absurd emp e)
      refine ⟨fun σ G => ∃ (rest out : List AC) (wl : Addr) (y2 y3 y7 y8 y9 : Option V), rest.length < m ∧ σ = [some (.ref a), some (.ref u), y2, y3, some (.ref wl), some (.ref L), some (.ref kn), y7, y8, y9] ∧ G wl = some (.lst (rest.map fun t => V.ref t.1)) ∧ wl ≠ L ∧ wl ≠ kn ∧ G L = some (.lst (out.map fun t => V.ref t.1)) ∧ G kn = some (.lst ((((out.map (·.2)).flatten).map one).map V.str)) ∧ Same F2 G ∧ (∀ t ∈ rest, t ∈ ws0) ∧ (∀ t ∈ out, t ∈ ws0) ∧ (∀ t ∈ ws0, t ∈ rest ∨ t.2 ∈ out.map (·.2)) ∧ (∀ t ∈ rest, t.2 ∉ out.map (·.2)) ∧ (∀ tail, OrdC (gR es) (rest.map (·.2)) tail → OrdC (gR es) (ws0.map (·.2)) (out.map (·.2) ++ tail)) ∧ rest.length + out.length ≤ 26 ∧ ((out.map (·.2)).flatten).length ≤ 128 * out.length, ?_, ?_⟩
      · rintro σ' G' ⟨rest', out', wl', y2', y3', y7', y8', y9', lt, e1, e2, e3, e4, e5, e6, e7, e8, e9, e10, e11, e12, e13, e14⟩
        exact ⟨_, lt, rest', out', wl', y2', y3', y7', y8', y9', rfl, e1, e2, e3, e4, e5, e6, e7, e8, e9, e10, e11, e12, e13, e14⟩
      refine ⟨fun σ G => ∃ (i : Nat) (q : AC) (y8 : Option V), σ = [some (.ref a), some (.ref u), y2, y3, some (.ref wl), some (.ref L), some (.ref kn), some (.ref q.1), y8, y9] ∧ rest[i]? = some q ∧ FirstC (gR es) (rest.map (·.2)) i q.2 ∧ Same G1 G, ?_, ?_⟩
      · have isr : ∀ l ∈ rest.map (·.2), IsC (gR es) l := fun l hl => by
          obtain ⟨t, ht, rfl⟩ := List.mem_map.mp hl
          exact is0 t.2 (List.mem_map.mpr ⟨t, rin t ht, rfl⟩)
        have ocx := ok_any low (W := rest.map (·.2)) isr (fun e => ne (List.map_eq_nil_iff.mp e))
        refine ⟨.ref wl, rfl, wl, rfl, ⟨_, SqL.of gw⟩, for_it (walk_list (xs := rest.map fun t => V.ref t.1)) (fun i σ G => ∃ (y7 y8 : Option V), σ = [some (.ref a), some (.ref u), y2, y3, some (.ref wl), some (.ref L), some (.ref kn), y7, y8, y9] ∧ Same G1 G ∧ ∀ j M, j < i → (rest.map (·.2))[j]? = some M → ¬ okC (gR es) (rest.map (·.2)) M) ⟨_, _, rfl, fun _ _ e => e, fun j M hj => absurd hj (Nat.not_lt_zero _)⟩ (fun _ _ _ _ ⟨_, _, _, s2, _⟩ => SqL.of (s2 _ _ gw)) ?_ ?_⟩
        · rintro i x σ G2 G3 hi ⟨y7, y8, rfl, s2, inv⟩ ⟨rfl, hx⟩
          rw [List.length_map] at hi
          rw [List.getElem?_map, List.getElem?_eq_getElem hi] at hx
          have hx : V.ref rest[i].1 = x := Option.some.inj hx
          subst hx
          have mq : rest[i] ∈ rest := List.getElem_mem hi
          have atq : rest[i]? = some rest[i] := List.getElem?_eq_getElem hi
          generalize rest[i] = q at mq atq ⊢
          have isq := isr q.2 (List.mem_map.mpr ⟨q, mq, rfl⟩)
          have neq := isq.ne low
          have tq := same_tupG (sm.trans s2) _ _ (tup0 q (rin q mq))
          have ulG := ulF.same (sm.trans s2)
          have okk := ok_known low (W0 := ws0.map (·.2)) (rest := rest.map (·.2)) (out := out.map (·.2)) (K := q.2) is0 (List.mem_map.mpr ⟨q, mq, rfl⟩) (fun l hl => by
            obtain ⟨t, ht, rfl⟩ := List.mem_map.mp hl
            exact List.mem_map.mpr ⟨t, rin t ht, rfl⟩) (fun l hl => by
            obtain ⟨t, ht, rfl⟩ := List.mem_map.mp hl
            exact List.mem_map.mpr ⟨t, oin t ht, rfl⟩) (fun l hl => by
            obtain ⟨t, ht, rfl⟩ := List.mem_map.mp hl
            exact (split t ht).imp (fun h => List.mem_map.mpr ⟨t, h, rfl⟩) id) (fun l hl => by
            obtain ⟨t, ht, rfl⟩ := List.mem_map.mp hl
            exact dis t ht) (cov _)
          generalize (out.map (·.2)).flatten = kno at gk okk
          have gk2 := s2 _ _ gk
          dsimp only [gName, List.set]
          refine ⟨.ref u, rfl, .ref q.1, rfl, q.1, _, 0, .str (one (hdC q.2)), rfl, rfl, tq, at_of (j := 0) rfl (hd_at neq), u, hdC q.2, us, rfl, ulG, uo.1, fun e he => (uo.2 e he).1, fun G4 r l s4 nr gr pw lm => ?_⟩
          rw [eR] at lm
          have l26 : l.length ≤ 26 := syms_len (pw_nd pw) fun d hd => by
            obtain ⟨b, r⟩ := ((lm d).mp hd).last
            obtain ⟨p, _, _, _, h⟩ := r
            exact h
          have llow : ∀ d ∈ l, d < 128 := fun d hd => (low.rc ((lm d).mp hd)).2
          have gk4 := s4 _ _ gk2
          have tq4 := same_tupG s4 _ _ tq
          refine ⟨r, rfl, ⟨_, SqL.of gr⟩, fun B hB => ?_⟩
          refine lc_it (walk_list (xs := (l.map one).map V.str)) (fun j F => F B = some (.lst ((((l.take j).filter fun d => decide (d ∉ kno ∧ d ∉ q.2)).map one).map V.str)) ∧ Same G4 F) ⟨upd_same, same_upd hB⟩ (fun _ _ _ ⟨_, sm⟩ => SqL.of (sm _ _ gr)) ?_ ?_
          · rintro j x F1 F2 hj ⟨gB, sB⟩ ⟨rfl, hxx⟩
            rw [List.length_map, List.length_map] at hj
            rw [List.getElem?_map, List.getElem?_map, List.getElem?_eq_getElem hj] at hxx
            have hxx : V.str (one l[j]) = x := Option.some.inj hxx
            subst hxx
            have tk : l.take (j + 1) = l.take j ++ [l[j]] := by rw [List.take_add_one, List.getElem?_eq_getElem hj]; rfl
            generalize l[j] = c at tk ⊢
            refine ⟨rfl, ?_⟩
            refine tAnd_read (p := c ∉ kno) (q := c ∉ q.2) (fun z => iteT ⟨.str (one c), rfl, _, gB, ?_, ?_, fun b o h => (upd_ne (ne_of_none h hB)).trans (sB b o h)⟩) (fun z => iteF ⟨?_, sB⟩) (fun R h1 h2 => ⟨.str (one c), rfl, .ref kn, rfl, kn, _, rfl, .inl (SqL.of (sB _ _ gk4)), rfl, flatV_ones kno, ?_⟩) (fun R h1 h2 => ⟨.str (one c), rfl, .ref q.1, rfl, q.1, _, rfl, .inr (same_tupG sB _ _ tq4), rfl, flatV_ones q.2, ?_⟩)
            · rw [List.length_map, List.length_map]
              refine Nat.lt_of_le_of_lt (List.length_filter_le _ _) ?_
              rw [List.length_take, sizeLine_eq]
              omega
            · have f1 : List.filter (fun d => decide (d ∉ kno ∧ d ∉ q.2)) [c] = [c] := List.filter_cons_of_pos (decide_eq_true z)
              rw [upd_same, tk, List.filter_append, List.map_append, List.map_append, f1]
              rfl
            · have f1 : List.filter (fun d => decide (d ∉ kno ∧ d ∉ q.2)) [c] = [] := List.filter_cons_of_neg (by rw [decide_eq_false z]; decide)
              rw [tk, List.filter_append, f1, List.append_nil]
              exact gB
            · rw [inV_one]
              refine ⟨_, rfl, ?_⟩
              show R (!decide (c ∈ kno)) _
              by_cases y : c ∈ kno
              · rw [decide_eq_true y]
                exact h2 fun n => n y
              · rw [decide_eq_false y]
                exact h1 y
            · rw [inV_one]
              refine ⟨_, rfl, ?_⟩
              show R (!decide (c ∈ q.2)) _
              by_cases y : c ∈ q.2
              · rw [decide_eq_true y]
                exact h2 fun n => n y
              · rw [decide_eq_false y]
                exact h1 y
          rintro F1 ⟨gB, sB⟩
          rw [List.length_map, List.length_map, List.take_length] at gB
          refine ⟨by show 0 ≤ sizeLine; decide, fun n1 h_n1 => ?_⟩
          have sn := same_upd (o := .lst []) h_n1
          refine ⟨.list (((l.filter fun d => decide (d ∉ kno ∧ d ∉ q.2)).map one).map PyData.str), .list [], .lst (SqL.of (sn _ _ gB)) (strs_dpR _), .lst (SqL.of upd_same) .nil, ones_shaped (fun c hc => llow c (List.mem_filter.mp hc).1), by decide +kernel, ?_⟩
          rw [eqv_nilR]
          have iff1 : (((l.filter fun d => decide (d ∉ kno ∧ d ∉ q.2)).map one).map PyData.str).isEmpty = true ↔ okC (gR es) (rest.map (·.2)) q.2 := by
            rw [List.isEmpty_iff, List.map_eq_nil_iff, List.map_eq_nil_iff, List.filter_eq_nil_iff, ← okk]
            constructor
            · intro h d rc
              have := h d ((lm d).mpr rc)
              by_cases y : d ∈ kno
              · exact .inl y
              · by_cases y2 : d ∈ q.2
                · exact .inr y2
                · exact absurd (decide_eq_true ⟨y, y2⟩) this
            · intro h d hd z
              have z := of_decide_eq_true z
              rcases h d ((lm d).mp hd) with y | y
              · exact z.1 y
              · exact z.2 y
          have s9 := ((s2.trans s4).trans sB).trans sn
          refine ⟨_, rfl, ite2 (fun z => ?_) (fun z => ?_)⟩
          · exact ⟨i, q, _, rfl, atq, ⟨by rw [List.getElem?_map, atq]; rfl, iff1.mp z, inv⟩, s9⟩
          · refine ⟨_, _, rfl, s9, fun j M hj hM => ?_⟩
            by_cases ji : j < i
            · exact inv j M ji hM
            · have ej : j = i := by omega
              subst ej
              rw [List.getElem?_map, atq] at hM
              have hM : q.2 = M := Option.some.inj hM
              rw [← hM]
              exact fun o => z (iff1.mpr o)
        · rintro σ G2 ⟨y7, y8, rfl, s2, inv⟩
          obtain ⟨M, hM, okM⟩ := ocx
          obtain ⟨j, hj⟩ := List.mem_iff_getElem?.mp hM
          refine absurd okM (inv j M ?_ hj)
          have := (List.getElem?_eq_some_iff.mp hj).1
          rw [List.length_map] at this ⊢
          exact this
      rintro σ G2 ⟨i, q, y8, rfl, atq, fq, s2⟩
      have mq := List.mem_of_getElem? atq
      have q0 := rin q mq
      have gw := s2 _ _ gw
      have gL := s2 _ _ gL
      have gk := s2 _ _ gk
      have sm := sm.trans s2
      have ql : q.2.length ≤ 128 := l128 q.2 (List.mem_map.mpr ⟨q, q0, rfl⟩)
      have ol : (out ++ [q]).length = out.length + 1 := List.length_append
      refine ⟨.ref L, rfl, .inl ⟨rfl, _, SqL.of gL⟩, .ref q.1, rfl, L, _, _, rfl, rfl, gL, ?_, ?_⟩
      · rw [List.length_map, sl]
        omega
      have eo : (out.map fun t => V.ref t.1) ++ [V.ref q.1] = (out ++ [q]).map fun t => V.ref t.1 := by rw [List.map_append]; rfl
      rw [eo]
      have gw := (upd_ne (o := .lst ((out ++ [q]).map fun t => V.ref t.1)) nwL).trans gw
      have gk := (upd_ne (o := .lst ((out ++ [q]).map fun t => V.ref t.1)) nLk.symm).trans gk
      have sm : Same F2 (upd G2 L (.lst ((out ++ [q]).map fun t => V.ref t.1))) := fun b o e => (upd_ne (ne_of_none e nL)).trans (sm b o e)
      have gL : (upd G2 L (.lst ((out ++ [q]).map fun t => V.ref t.1))) L = some (.lst ((out ++ [q]).map fun t => V.ref t.1)) := upd_same
      generalize upd G2 L (.lst ((out ++ [q]).map fun t => V.ref t.1)) = G3 at gw gk sm gL ⊢
      clear s2
      refine ⟨.ref kn, rfl, .inl ⟨rfl, _, SqL.of gk⟩, .ref q.1, rfl, kn, q.1, _, _, rfl, rfl, gk, same_tupG sm _ _ (tup0 q q0), ?_, ?_⟩
      · rw [List.length_map, List.length_map, List.length_map, List.length_map, sl]
        omega
      have ef : ((out ++ [q]).map (·.2)).flatten = (out.map (·.2)).flatten ++ q.2 := by
        rw [List.map_append, List.flatten_append]
        simp
      have ek : (((out.map (·.2)).flatten.map one).map V.str) ++ ((q.2.map one).map V.str) = ((((out ++ [q]).map (·.2)).flatten).map one).map V.str := by rw [ef, List.map_append, List.map_append]
      rw [ek]
      have gw := (upd_ne (o := .lst (((((out ++ [q]).map (·.2)).flatten).map one).map V.str)) nwk).trans gw
      have gL := (upd_ne (o := .lst (((((out ++ [q]).map (·.2)).flatten).map one).map V.str)) nLk).trans gL
      have sm : Same F2 (upd G3 kn (.lst (((((out ++ [q]).map (·.2)).flatten).map one).map V.str))) := fun b o e => (upd_ne (ne_of_none e nkn)).trans (sm b o e)
      have gk : (upd G3 kn (.lst (((((out ++ [q]).map (·.2)).flatten).map one).map V.str))) kn = some (.lst (((((out ++ [q]).map (·.2)).flatten).map one).map V.str)) := upd_same
      generalize upd G3 kn (.lst (((((out ++ [q]).map (·.2)).flatten).map one).map V.str)) = G4 at gw gk sm gL ⊢
      refine ⟨.ref wl, rfl, wl, rfl, ⟨_, SqL.of gw⟩, fun B hB => ?_⟩
      refine lc_it (walk_list (xs := rest.map fun t => V.ref t.1)) (fun j F => F B = some (.lst (((rest.take j).filter fun r => !decide (r.2 = q.2)).map fun t => V.ref t.1)) ∧ Same G4 F) ⟨upd_same, same_upd hB⟩ (fun _ _ _ ⟨_, s2⟩ => SqL.of (s2 _ _ gw)) ?_ ?_
      · rintro j x F4 F5 hj ⟨gB, s2⟩ ⟨rfl, hx⟩
        rw [List.length_map] at hj
        rw [List.getElem?_map, List.getElem?_eq_getElem hj] at hx
        have hx : V.ref rest[j].1 = x := Option.some.inj hx
        subst hx
        have tk : rest.take (j + 1) = rest.take j ++ [rest[j]] := by rw [List.take_add_one, List.getElem?_eq_getElem hj]; rfl
        have r0 := rin _ (List.getElem_mem hj)
        generalize rest[j] = r at r0 tk ⊢
        have s3 := sm.trans s2
        refine ⟨rfl, .ref r.1, rfl, .ref q.1, rfl, cD r.2, cD q.2, cD_dp (same_tupG s3 _ _ (tup0 r r0)), cD_dp (same_tupG s3 _ _ (tup0 q q0)), cD_shaped (lowc r r0), cD_shaped (lowc q q0), ?_⟩
        rw [cD_eqv]
        refine ⟨_, rfl, ite2 (fun e => ⟨.ref r.1, rfl, _, gB, ?_, ?_, fun b o h => (upd_ne (ne_of_none h hB)).trans (s2 b o h)⟩) (fun e => ⟨?_, s2⟩)⟩
        · rw [List.length_map, sl]
          have := List.length_filter_le (fun r : AC => !decide (r.2 = q.2)) (rest.take j)
          rw [List.length_take] at this
          omega
        · have f1 : List.filter (fun r : AC => !decide (r.2 = q.2)) [r] = [r] := List.filter_cons_of_pos e
          rw [upd_same, tk, List.filter_append, List.map_append, f1]
          rfl
        · have f1 : List.filter (fun r : AC => !decide (r.2 = q.2)) [r] = [] := List.filter_cons_of_neg e
          rw [tk, List.filter_append, f1, List.append_nil]
          exact gB
      rintro F4 ⟨gB, s2⟩
      rw [List.length_map, List.take_length] at gB
      have eC : (rest.filter fun r => !decide (r.2 = q.2)).map (·.2) = (rest.map (·.2)).filter fun L => !decide (L = q.2) := by
        rw [List.filter_map]
        rfl
      have lt : (rest.filter fun r => !decide (r.2 = q.2)).length < rest.length := by
        refine List.length_filter_lt_length_iff_exists.mpr ⟨q, mq, ?_⟩
        rw [decide_eq_true rfl]
        decide
      have om : (out ++ [q]).map (·.2) = out.map (·.2) ++ [q.2] := by rw [List.map_append]; rfl
      dsimp only [gName, List.set]
      refine ⟨_, out ++ [q], B, _, _, _, _, _, by omega, rfl, gB, (ne_of_none gL hB).symm, (ne_of_none gk hB).symm, s2 _ _ gL, s2 _ _ gk, sm.trans s2, fun t ht => rin t (List.mem_filter.mp ht).1, fun t ht => ?_, fun t ht => ?_, fun t ht hm => ?_, fun tail o => ?_, by omega, ?_⟩
      · rcases List.mem_append.mp ht with h | h
        · exact oin t h
        · rw [List.mem_singleton.mp h]
          exact q0
      · rw [om]
        rcases split t ht with h | h
        · by_cases e : t.2 = q.2
          · rw [e]
            exact .inr (List.mem_append_right _ List.mem_cons_self)
          · exact .inl (List.mem_filter.mpr ⟨h, by rw [decide_eq_false e]; rfl⟩)
        · exact .inr (List.mem_append_left _ h)
      · obtain ⟨h1, h2⟩ := List.mem_filter.mp ht
        rw [om] at hm
        rcases List.mem_append.mp hm with h | h
        · exact dis t h1 h
        · rw [decide_eq_true (List.mem_singleton.mp h)] at h2
          cases h2
      · rw [eC] at o
        have := ordr (q.2 :: tail) (.cons fq o)
        rw [om, List.append_assoc]
        exact this
      · rw [ef, List.length_append]
        omega
end
end DW
/-! the law: what stands while a grammar is asked -/
namespace DW
open PySem PySem.Spec PyProof.Rows L2 TL
set_option autoImplicit false
theorem DrU.good {z nm : Str} {e : En} (cp : CapsU nm) (h : DrU z nm e) : GoodE z e := by
  obtain ⟨h1, h2, h3⟩ := h
  refine ⟨cap_symU (cp.2.2 _ h1), ?_⟩
  unfold rightB
  rw [decide_eq_true h2, Bool.true_and]
  refine List.all_eq_true.mpr fun d hd => ?_
  rcases h3 d hd with q | q
  · rw [decide_eq_true q, Bool.or_true]
  · rw [cap_symU (cp.2.2 _ q)]
    rfl
theorem six_preU {z nm : Str} {fs : List En} (al : Alph z) (cp : CapsU nm) (ok : ∀ e ∈ fs, DrU z nm e) : nsym (chs (fs.map pE)) ≤ 6 := by
  refine Nat.le_trans (nsym_in (m := tl nm) fun q q26 hq => ?_) cp.2.1
  obtain ⟨p, hp, hm⟩ := List.mem_flatMap.mp hq
  obtain ⟨e, he, rfl⟩ := List.mem_map.mp hp
  obtain ⟨h1, h2, h3⟩ := ok e he
  rcases List.mem_cons.mp hm with h | h
  · have h : 65 + q = e.2.1 := h
    rw [h]
    exact h1
  · rcases h3 _ h with g | g
    · have := al.2.2.2 _ g
      omega
    · exact g
theorem ok_preU {K : PySem.W.Frag} {H : Hp} {z nm : Str} {fs : List En} (al : Alph z) (cp : CapsU nm) (re : RE K H fs) (ok : ∀ e ∈ fs, DrU z nm e) (l : fs.length ≤ 16) : GrPre K H z (fs.map vE) (fs.map pE) := by
  refine ⟨by rw [List.length_map]; exact l, fun i v hi hv => ?_, six_preU al cp ok⟩
  rw [List.length_map] at hi
  rw [List.getElem?_map, List.getElem?_eq_getElem hi] at hv
  have ev : V.ref fs[i].1 = v := Option.some.inj hv
  have m : fs[i] ∈ fs := List.getElem_mem hi
  obtain ⟨g1, g2⟩ := DrU.good (e := fs[i]) cp (ok _ m)
  exact ⟨fs[i].2.1, fs[i].2.2, by rw [List.getElem?_map, List.getElem?_eq_getElem hi]; rfl, fs[i].1, ev.symm, re _ m, g1, by have := (ok _ m).2.1; omega, g2⟩

theorem usOk_of {es us : List En} (el : es.length ≤ 16) (yl : ∀ e ∈ es, (tl e.2.2).length ≤ 100 ∧ symB e.2.1 = true) (eu : us.map pE = usf (es.map pE)) : UsOk us := by
  refine ⟨?_, fun e he => ?_⟩
  · have h1 := congrArg List.length eu
    unfold usf at h1
    have h2 := List.length_filter_le (fun p : Nat × Str => okR (FF (es.map pE) 7) p.2) (es.map pE)
    rw [List.length_map] at h1 h2
    omega
  · have : pE e ∈ us.map pE := List.mem_map.mpr ⟨e, he, rfl⟩
    rw [eu] at this
    obtain ⟨e', he', q⟩ := List.mem_map.mp (usf_sub this)
    have h3 := yl e' he'
    have q1 : e'.2.1 = e.2.1 := congrArg Prod.fst q
    have q2 : e'.2.2 = e.2.2 := congrArg Prod.snd q
    rw [q1, q2] at h3
    exact h3
theorem CsOf.isC {es : List En} {out : List (List Nat)} (h : CsOf es out) (six : nsym (chs (es.map pE)) ≤ 6) (sy : ∀ p ∈ es.map pE, symB p.1 = true) {l : List Nat} (hl : l ∈ out) : IsC (gR es) l ∧ (∀ d ∈ l, symB d = true) ∧ l.length ≤ 128 := by
  obtain ⟨W, w1, w2, o⟩ := h
  obtain ⟨c, hc, rfl⟩ := (w2 l).mp (o.mem hl)
  have g := gR_gph (ks := keysF (FF (es.map pE) 7)) six sy fun _ => Iff.rfl
  have c128 := sym_low (g.1 c hc)
  refine ⟨⟨c, c128, rfl⟩, fun d hd => ?_, ?_⟩
  · rcases (cmp_mem g.low c128).mp hd with e | e
    · rw [e]
      exact g.1 c hc
    · exact g.1 d (g.key e.1).2
  · unfold cmp asc
    refine Nat.le_trans (List.length_filter_le _ _) ?_
    rw [List.length_range]
    exact Nat.le_refl _
theorem one_show : ∀ l : List Nat, (∀ c ∈ l, c < 128) → PyData.weightAll ((l.map one).map PyData.str) ≤ 5 * l.length ∧ PyData.showableAll ((l.map one).map PyData.str) = true ∧ PyData.hasDictAll ((l.map one).map PyData.str) = false ∧ PyData.intsShortAll 13 ((l.map one).map PyData.str) = true
  | [], _ => ⟨Nat.le_refl _, rfl, rfl, rfl⟩
  | c :: l, h => by
    obtain ⟨h1, h2, h3, h4⟩ := one_show l fun g hg => h g (List.mem_cons_of_mem _ hg)
    have u1 : (one c).cps.size = 1 := rfl
    rw [List.map_cons, List.map_cons]
    refine ⟨?_, by simp only [PyData.showableAll, PyData.showable, h2, Bool.and_self], by simp only [PyData.hasDictAll, PyData.hasDict, h3, Bool.or_self], by simp only [PyData.intsShortAll, PyData.intsShort, h4, Bool.and_self]⟩
    simp only [PyData.weightAll, PyData.weight, List.length_cons]
    omega
theorem cDs_show : ∀ ws : List AC, (∀ t ∈ ws, (∀ c ∈ t.2, c < 128) ∧ t.2.length ≤ 128) → PyData.weightAll (cDs ws) ≤ 700 * ws.length ∧ PyData.showableAll (cDs ws) = true ∧ PyData.hasDictAll (cDs ws) = false ∧ PyData.intsShortAll 13 (cDs ws) = true
  | [], _ => ⟨Nat.le_refl _, rfl, rfl, rfl⟩
  | t :: ws, h => by
    obtain ⟨h1, h2, h3, h4⟩ := cDs_show ws fun g hg => h g (List.mem_cons_of_mem _ hg)
    obtain ⟨lo, ln⟩ := h t List.mem_cons_self
    obtain ⟨g1, g2, g3, g4⟩ := one_show t.2 lo
    have e : cDs (t :: ws) = cD t.2 :: cDs ws := rfl
    rw [e]
    unfold cD
    refine ⟨?_, by simp only [PyData.showableAll, PyData.showable, g2, h2, Bool.and_self], by simp only [PyData.hasDictAll, PyData.hasDict, g3, h3, Bool.or_self], by simp only [PyData.intsShortAll, PyData.intsShort, g4, h4, Bool.and_self]⟩
    simp only [PyData.weightAll, PyData.weight, List.length_cons, List.length_map]
    omega
def ShowOk (d : PyData) : Prop := d.showable = true ∧ d.hasDict = false ∧ d.depth ≤ 64 ∧ d.shown.length ≤ sizeLine
theorem cDs_ok {ws : List AC} (h : ∀ t ∈ ws, (∀ c ∈ t.2, c < 128) ∧ t.2.length ≤ 128) (l : ws.length ≤ 26) : ShowOk (.list (cDs ws)) := by
  obtain ⟨g1, g2, g3, g4⟩ := cDs_show ws h
  obtain ⟨l1, l2⟩ := cDs_lay ws fun t ht => (h t ht).1
  have d : (PyData.list (cDs ws)).depth ≤ 64 := by
    simp only [PyData.depth]
    omega
  refine ⟨by simp only [PyData.showable, g2], by simp only [PyData.hasDict, g3], d, ?_⟩
  rw [sizeLine_eq]
  refine Nat.le_trans (shown_le13 ?_ (by simp only [PyData.intsShort, g4])) (by decide)
  unfold PyData.layable0
  rw [Bool.and_eq_true, Bool.and_eq_true]
  refine ⟨⟨by simp only [PyData.canLay0, l1], decide_eq_true d⟩, decide_eq_true ?_⟩
  simp only [PyData.weight]
  have : (cDs ws).length = ws.length := List.length_map _
  omega
theorem kind_cases (ps : List (Nat × Str)) (l : List Nat) : kindS ps l = "single" ∨ kindS ps l = "linear" ∨ kindS ps l = "branching" := by
  unfold kindS
  split
  · exact .inl rfl
  · split
    · exact .inr (.inl rfl)
    · exact .inr (.inr rfl)
theorem kinds_show : ∀ ks : List Str, (∀ k ∈ ks, k = "single" ∨ k = "linear" ∨ k = "branching") → PyData.weightAll (ks.map PyData.str) ≤ 20 * ks.length ∧ PyData.showableAll (ks.map PyData.str) = true ∧ PyData.hasDictAll (ks.map PyData.str) = false ∧ PyData.intsShortAll 13 (ks.map PyData.str) = true ∧ PyData.canLayAll0 (ks.map PyData.str) = true ∧ PyData.depthAll (ks.map PyData.str) = 0
  | [], _ => ⟨Nat.le_refl _, rfl, rfl, rfl, rfl, rfl⟩
  | k :: ks, h => by
    obtain ⟨h1, h2, h3, h4, h5, h6⟩ := kinds_show ks fun g hg => h g (List.mem_cons_of_mem _ hg)
    have u : k.cps.size ≤ 9 := by
      rcases h k List.mem_cons_self with rfl | rfl | rfl <;> decide
    have so : PyData.strOk k = true := strOk_lowE fun d m => by
      rcases h k List.mem_cons_self with rfl | rfl | rfl <;> revert d <;> decide +kernel
    rw [List.map_cons]
    refine ⟨?_, by simp only [PyData.showableAll, PyData.showable, h2, Bool.and_self], by simp only [PyData.hasDictAll, PyData.hasDict, h3, Bool.or_self], by simp only [PyData.intsShortAll, PyData.intsShort, h4, Bool.and_self], by simp only [PyData.canLayAll0, PyData.canLay0, so, h5, Bool.and_self], by simp only [PyData.depthAll, PyData.depth, h6]; rfl⟩
    simp only [PyData.weightAll, PyData.weight, List.length_cons]
    omega
theorem kinds_ok {ks : List Str} (h : ∀ k ∈ ks, k = "single" ∨ k = "linear" ∨ k = "branching") (l : ks.length ≤ 26) : ShowOk (.list (ks.map PyData.str)) := by
  obtain ⟨g1, g2, g3, g4, g5, g6⟩ := kinds_show ks h
  have d : (PyData.list (ks.map PyData.str)).depth ≤ 64 := by
    simp only [PyData.depth]
    omega
  refine ⟨by simp only [PyData.showable, g2], by simp only [PyData.hasDict, g3], d, ?_⟩
  rw [sizeLine_eq]
  refine Nat.le_trans (shown_le13 ?_ (by simp only [PyData.intsShort, g4])) (by decide)
  unfold PyData.layable0
  rw [Bool.and_eq_true, Bool.and_eq_true]
  refine ⟨⟨by simp only [PyData.canLay0, g5], decide_eq_true d⟩, decide_eq_true ?_⟩
  simp only [PyData.weight, List.length_map]
  omega
/-- what stands while a grammar is asked -/
structure Fy (K : PySem.W.Frag) (C : Addr) (G : Hp) (a g r o : Addr) (z : Str) (es : List En) (du kd : Addr) (ds : List AC) (ks : List Str) (t c : Addr) (n : Nat) : Prop where
  ha : G a = some (.lst (es.map vE))
  gr : GrAtR C G g z (es.map vE) (es.map pE) r o
  re : RE K G es
  gd : G du = some (.lst (ds.map fun t => V.ref t.1))
  td : ∀ t ∈ ds, SqT K G t.1 ((t.2.map one).map V.str)
  gk : G kd = some (.lst (ks.map V.str))
  tp : Tape G t c n
section
variable {K : PySem.W.Frag} {C a g r o du kd t c : Addr} {z : Str} {es : List En} {ds : List AC} {ks : List Str} {n : Nat} {G G' : Hp}
theorem Fy.same (f : Fy K C G a g r o z es du kd ds ks t c n) (s : Same G G') : Fy K C G' a g r o z es du kd ds ks t c n := ⟨s _ _ f.ha, f.gr.same s, f.re.same s, s _ _ f.gd, fun t ht => same_tupG s _ _ (f.td t ht), s _ _ f.gk, f.tp.same s⟩
theorem Fy.ge (f : Fy K C G a g r o z es du kd ds ks t c n) : GrE K C G g z es := ⟨⟨r, o, f.gr⟩, f.re⟩
end
end DW
/-! k70: the law -/
namespace DW
open PySem PySem.Spec PyProof.Rows L2 TL
set_option autoImplicit false
section
variable {P : Program} {w : World} {K : PySem.W.Frag} {mg : Str → Option Value} {base : Heap}
structure Ds (P : Program) (K : PySem.W.Frag) (mg : Str → Option Value) where
  p_is_ascending : Df K mg "is_ascending" sIsAscending ["letters"]
  p_is_alphabet : Df K mg "is_alphabet" sIsAlphabet ["thing"]
  p_is_symbol : Df K mg "is_symbol" sIsSymbol ["item"]
  p_symbols_among : Df K mg "symbols_among" sSymbolsAmong ["items"]
  p_is_production : Df K mg "is_production" sIsProduction ["alphabet", "thing"]
  p_reached_from : Df K mg "reached_from" sReachedFrom ["steps", "start"]
  p_symbols_of_next_rank : Df K mg "symbols_of_next_rank" sSymbolsOfNextRank ["grammar", "found"]
  p_ranks : Df K mg "ranks" sRanks ["grammar"]
  p_productive_productions : Df K mg "productive_productions" sProductiveProductions ["grammar"]
  p_used_symbols : Df K mg "used_symbols" sUsedSymbols ["grammar"]
  p_component_of : Df K mg "component_of" sComponentOf ["symbol", "reached"]
  p_first_component : Df K mg "first_component" sFirstComponent ["waiting", "reached"]
  p_components : Df K mg "components" sComponents ["grammar"]
  p_items_of_component : Df K mg "items_of_component" sItemsOfComponent ["grammar", "component"]
  p_inner_items : Df K mg "inner_items" sInnerItems ["items", "component"]
  p_component_kind : Df K mg "component_kind" sComponentKind ["grammar", "component"]
  p_component_kinds : Df K mg "component_kinds" sComponentKinds ["grammar"]
  begin : Df K mg "_law_begin" sBegin ["_law_script"]
  draw : Df K mg "_law_draw" sDraw ["_law_tape", "_law_many"]
  pick : Df K mg "_law_pick" sPick ["_law_tape", "_law_items"]
  alphabet : Df K mg "_law_alphabet" sAlpha ["_law_tape"]
  word : Df K mg "_law_word" sWord ["_law_tape", "_law_alphabet_here", "_law_longest"]
  symbols : Df K mg "_law_symbols" sLSymbols ["_law_tape"]
  rules : Df K mg "_law_rules" sLRules ["_law_tape", "_law_alphabet_here", "_law_many"]
  made : Df K mg "_law_made" sLMade ["_law_tape", "_law_alphabet_here", "_law_many"]
  names_of : Df K mg "_law_names_of" sLNamesOf ["_law_text"]
  heights : Df K mg "_law_heights" sLHeights ["_law_rules_here"]
  useful : Df K mg "_law_useful" sLUseful ["_law_rules_here"]
  reached : Df K mg "_law_reached" sLReached ["_law_useful_here", "_law_symbol"]
  component : Df K mg "_law_component" sLComponent ["_law_useful_here", "_law_symbol"]
  kind : Df K mg "_law_kind" sLKind ["_law_useful_here", "_law_component_here"]
  ordered : Df K mg "_law_ordered" sLOrdered ["_law_rules_here"]
  B : Bl mg
  b_all : mg "all" = none
  b_zip : mg "zip" = none
  b_isinstance : mg "isinstance" = none
  b_str : mg "str" = none
  b_tuple : mg "tuple" = none
  b_enumerate : mg "enumerate" = none
  b_any : mg "any" = none
  b_max : mg "max" = none
  b_int : mg "int" = none
  b_dict : mg "dict" = none
  b_list : mg "list" = none
  b_repr : mg "repr" = none
  c_MOST_LETTERS : ∃ t, mg "MOST_LETTERS" = some (.int 3 t)
  c_MOST_ITEMS : ∃ t, mg "MOST_ITEMS" = some (.int 3 t)
  c_MOST_PRODUCTIONS : ∃ t, mg "MOST_PRODUCTIONS" = some (.int 16 t)
  c_MOST_SYMBOLS : ∃ t, mg "MOST_SYMBOLS" = some (.int 6 t)
  gra : DfGM K mg
  e_InvalidAlphabet : EX.DfE0 K mg "InvalidAlphabet"
  e_InvalidProduction : EX.DfE P K mg "InvalidProduction" "index" EX.MsgOk
def spLaw (K : PySem.W.Frag) : Sp := fun vs H Q _ => ∃ (a : Addr) (ns : List Int), vs = [.ref a] ∧ SqL K H a (ns.map V.int) ∧ ∀ H', Q (.bl true) H'
theorem scLaw : FnScope ["_law_script", "_law_tape", "_law_turn", "_law_alphabet_here", "_law_rules_here", "_law_grammar", "_law_due", "_law_component_here", "_law_kinds", "_law_again", "_law_told", "_law_words"] ["_law_script"] (defScope sLaw) := ⟨rfl, rfl, rfl, by decide +kernel, rfl, by decide +kernel, by decide +kernel⟩
theorem ok_law (D : Df K mg "law" sLaw ["_law_script"]) (S : Ds P K mg) : GA.FnAt P w K mg base D.f D.fd ["_law_script"] (spLaw K) := by
  let L : DfGr K mg := ⟨S.gra.toDfG, S.p_is_alphabet, S.p_is_ascending, S.p_is_production, S.p_is_symbol, S.p_symbols_among, S.b_all, S.b_zip, S.b_isinstance, S.b_str, S.b_tuple, S.B.len, S.b_list, S.b_enumerate, S.B.sorted, S.c_MOST_LETTERS, S.c_MOST_ITEMS, S.c_MOST_PRODUCTIONS, S.c_MOST_SYMBOLS⟩
  let R : DfRk K mg := ⟨S.gra, S.p_symbols_of_next_rank, S.p_ranks, S.p_symbols_among, S.p_is_symbol, S.b_all, S.b_list, S.B.sorted⟩
  let Z : DfCs K mg := ⟨S.p_components, S.p_used_symbols, S.p_productive_productions, R, S.p_reached_from, S.p_component_of, S.p_first_component, S.b_enumerate, S.B.set, S.b_tuple, S.b_any⟩
  let Y : DfCk K mg := ⟨Z, S.p_items_of_component, S.p_inner_items, S.p_component_kind, S.p_component_kinds, S.b_max, S.B.len⟩
  have Gb : FnOk P w K mg base CX0 1 S.begin.f S.begin.fd ["_law_script"] (spBegin K) := ok_begin S.begin
  have Ga : FnOk P w K mg base CX0 3 S.alphabet.f S.alphabet.fd ["_law_tape"] spAlpha := ok_alpha S.alphabet S.draw S.pick S.B
  have Gp : FnOk P w K mg base CX0 2 S.pick.f S.pick.fd ["_law_tape", "_law_items"] (spPick K) := ok_pick S.pick S.draw S.B.len
  have Gm : FnOk P w K mg base CX0 5 S.made.f S.made.fd ["_law_tape", "_law_alphabet_here", "_law_many"] (spMdU K) := ok_mdU S.made S.rules S.symbols S.word S.draw S.pick S.b_int S.B
  have Gu : FnOk P w K mg base CX0 3 S.useful.f S.useful.fd ["_law_rules_here"] (spUsl K) := ok_usl S.useful S.heights S.names_of S.b_dict S.b_list
  have Go : FnOk P w K mg base CX0 4 S.ordered.f S.ordered.fd ["_law_rules_here"] (spLor K) := ok_lor S.ordered S.useful S.component S.reached S.heights S.names_of S.B.sorted S.B.set S.B.len S.b_tuple S.b_dict S.b_list
  have Gk : FnOk P w K mg base CX0 3 S.kind.f S.kind.fd ["_law_useful_here", "_law_component_here"] (spLki K) := ok_lki S.kind S.reached S.names_of S.B.sorted S.B.set S.B.len
  have Gcs : FnOk P w K mg base CX0 7 S.p_components.f S.p_components.fd ["grammar"] (spCs K S.gra.C) := ok_cs Z
  have Gck : FnOk P w K mg base CX0 8 S.p_component_kinds.f S.p_component_kinds.fd ["grammar"] (spCks K S.gra.C) := ok_cks Y
  have GI : FnOk P w K mg base CX0 3 L.i.f L.i.fd ["self", "alphabet", "productions"] (spGrO K) := ok_grO L S.e_InvalidAlphabet S.e_InvalidProduction
  refine GA.okAt (k := 9) D.F scLaw ⟨rfl, by decide, by decide⟩ (fun vs H Q E h => ?_) (fun cdv s H vs Q E hr h => ?_)
  · obtain ⟨a, ns, rfl, _⟩ := h
    rfl
  · obtain ⟨a, ns, rfl, hS, k⟩ := h
    have hr1 : Room 1 _ := hr.mono (by decide)
    have hr2 : Room 2 _ := hr.mono (by decide)
    have hr3 : Room 3 _ := hr.mono (by decide)
    have hr4 : Room 4 _ := hr.mono (by decide)
    have hr5 : Room 5 _ := hr.mono (by decide)
    have hr7 : Room 7 _ := hr.mono (by decide)
    have hr8 : Room 8 _ := hr.mono (by decide)
    have hr31 : Room (3 + 1) _ := hr.mono (by decide)
    have hu0 : (callerA.deeper (envOfC "law" (defScope sLaw) s.heap.objs.size D.f cdv)).units + 66 < cLine := by have := hr.un; omega
    have rR : CallR (cxOf CX0 P w K mg base ["_law_script", "_law_tape", "_law_turn", "_law_alphabet_here", "_law_rules_here", "_law_grammar", "_law_due", "_law_component_here", "_law_kinds", "_law_again", "_law_told", "_law_words"] "law" (defScope sLaw) D.f cdv callerA [] s H E).nox (.builtin "repr") (fun xs H Q => ∃ (a : Addr) (d : PyData), xs = [.ref a] ∧ Dp K H (.ref a) d ∧ d.showable = true ∧ d.hasDict = false ∧ d.depth ≤ 64 ∧ d.shown.length ≤ sizeLine ∧ Q (.str d.shown) H) := GA.cr_reprD rfl hu0
    have sl := sizeLine_eq
    refine ⟨_, PSs.nox (pss_cons (ps_set (i := 1) scLaw.nd rfl (.inl rfl) (pe_call Gb hr1 (by rfl) S.begin.g S.begin.F.kp S.begin.b .nil pass0 (pa_cons (pv 0) pa_nil))) (pss_cons (ps_for PassesOwn.never rfl (pi_range1 rfl S.B.range (pa_cons pe_int pa_nil)) (pg_name (i := 2) scLaw.nd rfl (.inl rfl)) (pss_cons (ps_set (i := 3) scLaw.nd rfl (.inl rfl) (pe_call Ga hr3 (by rfl) S.alphabet.g S.alphabet.F.kp S.alphabet.b .nil pass0 (pa_cons (pv 1) pa_nil))) (C8.pss_cut (ps_set (i := 4) scLaw.nd rfl (.inr rfl) (pe_ifExp (pt_cmpR op_gt (pv 2) pe_int (nomark _)) (pe_call Gm hr5 (by rfl) S.made.g S.made.F.kp S.made.b .nil pass0 (pa_cons (pv 1) (pa_cons (pv 3) (pa_cons pe_int pa_nil)))) (pe_call Gp hr2 (by rfl) S.pick.g S.pick.F.kp S.pick.b .nil pass0 (pa_cons (pv 1) (pa_cons (pe_lst (pa_cons (pe_lst pa_nil) (pa_cons (pe_lst (pa_cons (pe_tup (pa_cons pe_str (pa_cons pe_str pa_nil))) pa_nil)) (pa_cons (pe_lst (pa_cons (pe_tup (pa_cons pe_str (pa_cons pe_str pa_nil))) (pa_cons (pe_tup (pa_cons pe_str (pa_cons pe_str pa_nil))) pa_nil))) pa_nil)))) pa_nil))))) (pss_cons (ps_par (i := 5) (j := 6) rfl scLaw.nd rfl rfl (by decide) rfl rfl (pa_cons (pe_make L.mkr GI hr31 (by rfl) L.g L.i.b .nil pass0 (pa_cons (pv 3) (pa_cons (pv 4) pa_nil))) (pa_cons (pe_call Go hr4 (by rfl) S.ordered.g S.ordered.F.kp S.ordered.b .nil pass0 (pa_cons (pv 4) pa_nil)) pa_nil)) (by rfl)) (pss_cons (ps_setLc (i := 8) (own := [("_law_component_here", 7)]) (g := gName 7) rfl scLaw.nd rfl rfl (sw_true rfl rfl rfl (by decide +kernel)) (pi_list (pv 6)) (blkOk_by (N := ["_law_script", "_law_tape", "_law_turn", "_law_alphabet_here", "_law_rules_here", "_law_grammar", "_law_due", "_law_component_here", "_law_kinds", "_law_again", "_law_told", "_law_words"]) (sc := defScope sLaw) (by decide +kernel)) (fun _ _ _ _ _ => pg_name (i := 7) scLaw.nd rfl (Or.inl rfl)) (fun _ _ _ _ _ => pts_nil) (fun _ _ _ _ _ => (pe_call Gk hr3 (by rfl) S.kind.g S.kind.F.kp S.kind.b .nil pass0 (pa_cons (pe_call Gu hr3 (by rfl) S.useful.g S.useful.F.kp S.useful.b .nil pass0 (pa_cons (pv 4) pa_nil)) (pa_cons (pv 7) pa_nil))))) (pss_one (ps_for PassesOwn.never rfl (pi_range1 rfl S.B.range (pa_cons pe_int pa_nil)) (pg_name (i := 9) scLaw.nd rfl (.inl rfl)) (pss_cons (ps_par (i := 10) (j := 11) rfl scLaw.nd rfl rfl (by decide) rfl rfl (pa_cons (pe_call Gcs hr7 (by rfl) S.p_components.g S.p_components.F.kp S.p_components.b .nil pass0 (pa_cons (pv 5) pa_nil)) (pa_cons (pe_call Gck hr8 (by rfl) S.p_component_kinds.g S.p_component_kinds.F.kp S.p_component_kinds.b .nil pass0 (pa_cons (pv 5) pa_nil)) pa_nil)) (by rfl)) (pss_cons (ps_if (pw_or (pt_cmpR op_ne (pe_callB rR (by rfl) S.b_repr (by decide +kernel) (pa_cons (pv 10) pa_nil)) (pe_callB rR (by rfl) S.b_repr (by decide +kernel) (pa_cons (pv 6) pa_nil)) (nomark _)) (pw_or1 (pt_cmpR op_ne (pe_callB rR (by rfl) S.b_repr (by decide +kernel) (pa_cons (pv 11) pa_nil)) (pe_callB rR (by rfl) S.b_repr (by decide +kernel) (pa_cons (pv 8) pa_nil)) (nomark _)))).pt (pss_one (ps_ret pe_bl)) pss_nil) (pss_cons (ps_expr (pe_bm PySem.F.plainAttrs_list PySem.F.slot_list_append PySem.F.type_list_append mt_append (pv 10) (pa_cons pe_non pa_nil))) (pss_one (ps_expr (pe_bm0 PySem.F.plainAttrs_list PySem.F.slot_list_clear PySem.F.type_list_clear mt_clear (pv 11)))))))))))))) (pss_one (ps_ret pe_bl)))), ?_⟩
    refine ⟨.ref a, rfl, a, ns, rfl, hS, fun H0 t c s0' ht hc T0 => ?_⟩
    refine ⟨6, rfl, by decide, by decide, for_it walk_range (fun i σ H' => ∃ y2 y3 y4 y5 y6 y7 y8 y9 y10 y11, σ = [some (.ref a), some (.ref t), y2, y3, y4, y5, y6, y7, y8, y9, y10, y11] ∧ Tape H' t c (30000 * i)) ⟨_, _, _, _, _, _, _, _, _, _, rfl, T0⟩ (fun _ _ _ _ _ => trivial) ?_ ?_⟩
    · rintro i x0 σ G G' hi ⟨y2, y3, y4, y5, y6, y7, y8, y9, y10, y11, rfl, T⟩ ⟨rfl, rfl⟩
      dsimp only [gName, List.set]
      refine ⟨.ref t, rfl, t, c, 30000 * i, rfl, T, by omega, fun H1 z k1 T1 al => ?_⟩
      refine ⟨fun σ G => ∃ ra nm es, σ = [some (.ref a), some (.ref t), some (.int (0 + (i : Int))), some (.str z), some (.ref ra), y5, y6, y7, y8, y9, y10, y11] ∧ G ra = some (.lst (es.map vE)) ∧ CapsU nm ∧ es.length ≤ 16 ∧ RE K G es ∧ (∀ e ∈ es, DrU z nm e) ∧ Tape G t c (30000 * i + 29000), ?_, ?_⟩
      · refine ⟨_, rfl, _, 0, rfl, rfl, _, rfl, ite2 (fun _ => ?_) (fun _ => ?_)⟩
        · refine ⟨.ref t, rfl, .str z, rfl, t, c, _, z, 12, rfl, T1, by omega, al, by decide, by decide, fun H2 ra nm es k2 T2 nra ha cp el re dr => ?_⟩
          exact ⟨ra, nm, es, rfl, ha, cp, el, re, dr, T2.mono (by omega)⟩
        · refine ⟨.ref t, rfl, by show 0 ≤ sizeLine; decide, fun l0 h_l0 => ?_⟩
          have s_l0 := same_upd (o := .lst []) h_l0
          have g_l0 : (upd H1 l0 (.lst [])) l0 = some (.lst []) := upd_same
          generalize upd H1 l0 (.lst []) = H2 at s_l0 g_l0 ⊢
          have T1 := T1.same s_l0
          clear s_l0 h_l0
          refine ⟨by show 2 ≤ sizeLine; decide, fun p1 h_p1 => ?_⟩
          have s_p1 := same_upd (o := .tup [V.str "S", V.str "S"]) h_p1
          have g_p1 : (upd H2 p1 (.tup [V.str "S", V.str "S"])) p1 = some (.tup [V.str "S", V.str "S"]) := upd_same
          generalize upd H2 p1 (.tup [V.str "S", V.str "S"]) = H3 at s_p1 g_p1 ⊢
          have T1 := T1.same s_p1
          have g_l0 := s_p1 _ _ g_l0
          clear s_p1 h_p1
          refine ⟨by show 1 ≤ sizeLine; decide, fun l1 h_l1 => ?_⟩
          have s_l1 := same_upd (o := .lst [V.ref p1]) h_l1
          have g_l1 : (upd H3 l1 (.lst [V.ref p1])) l1 = some (.lst [V.ref p1]) := upd_same
          generalize upd H3 l1 (.lst [V.ref p1]) = H4 at s_l1 g_l1 ⊢
          have T1 := T1.same s_l1
          have g_l0 := s_l1 _ _ g_l0
          have g_p1 := s_l1 _ _ g_p1
          clear s_l1 h_l1
          refine ⟨by show 2 ≤ sizeLine; decide, fun p2 h_p2 => ?_⟩
          have s_p2 := same_upd (o := .tup [V.str "S", V.str "ST"]) h_p2
          have g_p2 : (upd H4 p2 (.tup [V.str "S", V.str "ST"])) p2 = some (.tup [V.str "S", V.str "ST"]) := upd_same
          generalize upd H4 p2 (.tup [V.str "S", V.str "ST"]) = H5 at s_p2 g_p2 ⊢
          have T1 := T1.same s_p2
          have g_l0 := s_p2 _ _ g_l0
          have g_p1 := s_p2 _ _ g_p1
          have g_l1 := s_p2 _ _ g_l1
          clear s_p2 h_p2
          refine ⟨by show 2 ≤ sizeLine; decide, fun p3 h_p3 => ?_⟩
          have s_p3 := same_upd (o := .tup [V.str "T", V.str ""]) h_p3
          have g_p3 : (upd H5 p3 (.tup [V.str "T", V.str ""])) p3 = some (.tup [V.str "T", V.str ""]) := upd_same
          generalize upd H5 p3 (.tup [V.str "T", V.str ""]) = H6 at s_p3 g_p3 ⊢
          have T1 := T1.same s_p3
          have g_l0 := s_p3 _ _ g_l0
          have g_p1 := s_p3 _ _ g_p1
          have g_l1 := s_p3 _ _ g_l1
          have g_p2 := s_p3 _ _ g_p2
          clear s_p3 h_p3
          refine ⟨by show 2 ≤ sizeLine; decide, fun l2 h_l2 => ?_⟩
          have s_l2 := same_upd (o := .lst [V.ref p2, V.ref p3]) h_l2
          have g_l2 : (upd H6 l2 (.lst [V.ref p2, V.ref p3])) l2 = some (.lst [V.ref p2, V.ref p3]) := upd_same
          generalize upd H6 l2 (.lst [V.ref p2, V.ref p3]) = H7 at s_l2 g_l2 ⊢
          have T1 := T1.same s_l2
          have g_l0 := s_l2 _ _ g_l0
          have g_p1 := s_l2 _ _ g_p1
          have g_l1 := s_l2 _ _ g_l1
          have g_p2 := s_l2 _ _ g_p2
          have g_p3 := s_l2 _ _ g_p3
          clear s_l2 h_l2
          refine ⟨by show 3 ≤ sizeLine; decide, fun lo h_lo => ?_⟩
          have s_lo := same_upd (o := .lst [V.ref l0, V.ref l1, V.ref l2]) h_lo
          have g_lo : (upd H7 lo (.lst [V.ref l0, V.ref l1, V.ref l2])) lo = some (.lst [V.ref l0, V.ref l1, V.ref l2]) := upd_same
          generalize upd H7 lo (.lst [V.ref l0, V.ref l1, V.ref l2]) = H8 at s_lo g_lo ⊢
          have T1 := T1.same s_lo
          have g_l0 := s_lo _ _ g_l0
          have g_p1 := s_lo _ _ g_p1
          have g_l1 := s_lo _ _ g_l1
          have g_p2 := s_lo _ _ g_p2
          have g_p3 := s_lo _ _ g_p3
          have g_l2 := s_lo _ _ g_l2
          clear s_lo h_lo
          refine ⟨t, c, _, .ref lo, rfl, T1, by omega, .inl ⟨lo, _, rfl, SqL.of g_lo, by simp, by show 3 < 2 ^ 30; decide, fun H9 y k9 T9 my => ?_⟩⟩
          have g_l0 := k9.at g_l0 (fun _ q => by cases q)
          have g_l1 := k9.at g_l1 (fun _ q => by cases q)
          have g_l2 := k9.at g_l2 (fun _ q => by cases q)
          have g_p1 := k9.at g_p1 (fun _ q => by cases q)
          have g_p2 := k9.at g_p2 (fun _ q => by cases q)
          have g_p3 := k9.at g_p3 (fun _ q => by cases q)
          simp only [List.mem_cons, List.not_mem_nil, or_false] at my
          rcases my with rfl | rfl | rfl
          · exact ⟨l0, "S", [], rfl, g_l0, ⟨by decide, by decide, by decide +kernel⟩, by decide, fun e h => (nomatch h), fun e h => (nomatch h), T9.mono (by omega)⟩
          · refine ⟨l1, "S", [(p1, (83, "S"))], rfl, g_l1, ⟨by decide, by decide, by decide +kernel⟩, by show 1 ≤ 16; decide, fun e h => ?_, fun e h => ?_, T9.mono (by omega)⟩
            · rw [List.mem_singleton.mp h]
              exact SqT.of g_p1
            · rw [List.mem_singleton.mp h]
              exact ⟨by show 83 ∈ tl ("S" : Str); decide +kernel, by show (tl ("S" : Str)).length ≤ 3; decide +kernel, fun d hd => .inr hd⟩
          · refine ⟨l2, "ST", [(p2, (83, "ST")), (p3, (84, ""))], rfl, g_l2, ⟨by decide, by decide, by decide +kernel⟩, by show 2 ≤ 16; decide, fun e h => ?_, fun e h => ?_, T9.mono (by omega)⟩
            · rcases List.mem_cons.mp h with h | h
              · rw [h]
                exact SqT.of g_p2
              · rw [List.mem_singleton.mp h]
                exact SqT.of g_p3
            · rcases List.mem_cons.mp h with h | h
              · rw [h]
                exact ⟨by show 83 ∈ tl ("ST" : Str); decide +kernel, by show (tl ("ST" : Str)).length ≤ 3; decide +kernel, fun d hd => .inr hd⟩
              · rw [List.mem_singleton.mp h]
                exact ⟨by show 84 ∈ tl ("ST" : Str); decide +kernel, by show (tl ("" : Str)).length ≤ 3; decide +kernel, fun d hd => (nomatch hd)⟩
      clear k1 T1 T
      rintro σ G1 ⟨ra, nm, es, rfl, ha, cp, el, re, dr, T⟩
      have six := six_preU al cp dr
      have esy : ∀ e ∈ es, (tl e.2.2).length ≤ 100 ∧ symB e.2.1 = true := fun e he => ⟨by have := (dr e he).2.1; omega, (DrU.good cp (dr e he)).1⟩
      have sy : ∀ p ∈ es.map pE, symB p.1 = true := fun p hp => by
        obtain ⟨e, he, rfl⟩ := List.mem_map.mp hp
        exact (esy e he).2
      refine ⟨.str z, rfl, .ref ra, rfl, fun x1 dx hx hdx nxd => ?_⟩
      have sX : Same G1 (upd (upd G1 dx (.own x1)) x1 (.ins L.C dx [])) := fun b o e => (upd_ne (ne_of_none e hx)).trans ((upd_ne (ne_of_none e hdx)).trans e)
      have pre := ok_preU al cp re dr el
      refine ⟨x1, L.C, dx, z, ra, es.map vE, es.map pE, rfl, upd_same, L.cl, L.nB, L.nR, L.nO, al, .inl (sX _ _ ha), pre.same sX, by rw [List.length_map, List.length_map], fun G4 kp gr => ?_⟩
      have sU : Same G1 G4 := fun b o e => kp b o (sX _ _ e) (ne_of_none e hx)
      obtain ⟨r1, o1, _, _, gr⟩ := gr
      have ha := sU _ _ ha
      have re := re.same sU
      have T := T.same sU
      clear sU kp sX hx hdx nxd pre
      refine ⟨rfl, ?_⟩
      refine ⟨.ref ra, rfl, ra, es, rfl, ha, re, el, esy, six, fun G5 du ws s5 ndu gdu td cso => ?_⟩
      refine ⟨_, _, rfl, ?_⟩
      have ha := s5 _ _ ha
      have re := re.same s5
      have T := T.same s5
      have gr := gr.same s5
      clear s5 ndu
      have wl := cso.len six sy
      rw [List.length_map] at wl
      have isw : ∀ t ∈ ws, IsC (gR es) t.2 ∧ (∀ d ∈ t.2, symB d = true) ∧ t.2.length ≤ 128 := fun t ht => cso.isC six sy (List.mem_map.mpr ⟨t, ht, rfl⟩)
      dsimp only [gName, List.set]
      refine ⟨.ref du, rfl, du, rfl, ⟨_, SqL.of gdu⟩, fun kd hkd => ?_⟩
      refine lc_it (walk_list (xs := ws.map fun t => V.ref t.1)) (fun j F => F kd = some (.lst ((((ws.map (·.2)).take j).map fun l => kindS (usf (es.map pE)) l).map V.str)) ∧ Same G5 F) ⟨upd_same, same_upd hkd⟩ (fun _ _ _ ⟨_, sm⟩ => SqL.of (sm _ _ gdu)) ?_ ?_
      · rintro j x F1 F2 hj ⟨gL, sm⟩ ⟨rfl, hx⟩
        rw [List.length_map] at hj
        rw [List.getElem?_map, List.getElem?_eq_getElem hj] at hx
        have hx : V.ref ws[j].1 = x := Option.some.inj hx
        subst hx
        have tk : (ws.map (·.2)).take (j + 1) = (ws.map (·.2)).take j ++ [ws[j].2] := by rw [List.take_add_one, List.getElem?_map, List.getElem?_eq_getElem hj]; rfl
        have mt := List.getElem_mem hj
        generalize ws[j] = q at mt tk ⊢
        obtain ⟨is1, is2, is3⟩ := isw q mt
        refine ⟨rfl, yes ⟨.ref ra, rfl, ra, es, rfl, sm _ _ ha, re.same sm, el, esy, six, fun F3 u us s3 nu ul eu => ?_⟩⟩
        have eR : uR (us.map pE) = gR es := by rw [eu]
        refine ⟨.ref q.1, rfl, u, q.1, us, q.2, rfl, ul, usOk_of el esy eu, same_tupG (sm.trans s3) _ _ (td q mt), by rw [eR]; exact is1, is2, fun F4 s4 => ?_⟩
        rw [eu]
        have s34 := s3.trans s4
        refine ⟨_, s34 _ _ gL, ?_, ?_, fun b o h => (upd_ne (ne_of_none h hkd)).trans ((sm.trans s34) b o h)⟩
        · rw [List.length_map, List.length_map, List.length_take, List.length_map, sl]
          omega
        · rw [upd_same, tk, List.map_append, List.map_append]
          rfl
      rintro F ⟨gk, sm⟩
      rw [List.length_map, List.take_of_length_le (by rw [List.length_map]; exact Nat.le_refl _)] at gk
      dsimp only [gName, List.set]
      have fy : Fy K S.gra.C F ra x1 r1 o1 z es du kd ws ((ws.map (·.2)).map fun l => kindS (usf (es.map pE)) l) t c (30000 * i + 29000) := ⟨sm _ _ ha, gr.same sm, re.same sm, sm _ _ gdu, fun t ht => same_tupG sm _ _ (td t ht), gk, T.same sm⟩
      clear ha re T gr gdu td gk sm hkd
      have sh1 := cDs_ok (ws := ws) (fun t ht => ⟨fun c hc => sym_low ((isw t ht).2.1 c hc), (isw t ht).2.2⟩) wl
      have sh2 := kinds_ok (ks := (ws.map (·.2)).map fun l => kindS (usf (es.map pE)) l) (fun k hk => by
        obtain ⟨l, _, rfl⟩ := List.mem_map.mp hk
        exact kind_cases _ _) (by rw [List.length_map, List.length_map]; exact wl)
      have eds : ∀ xs : List AC, cDs xs = (xs.map (·.2)).map cD := fun xs => by rw [List.map_map]; rfl
      rw [eds] at sh1
      refine ⟨2, rfl, by decide, by decide, for_it walk_range (fun j σ G => ∃ y9 y10 y11, σ = [some (.ref a), some (.ref t), some (.int (0 + (i : Int))), some (.str z), some (.ref ra), some (.ref x1), some (.ref du), y7, some (.ref kd), y9, y10, y11] ∧ Fy K S.gra.C G ra x1 r1 o1 z es du kd ws ((ws.map (·.2)).map fun l => kindS (usf (es.map pE)) l) t c (30000 * i + 29000)) ⟨_, _, _, rfl, fy⟩ (fun _ _ _ _ _ => trivial) ?_ ?_⟩
      · clear fy
        rintro j v σ F1 F2 hj ⟨y9, y10, y11, rfl, fx⟩ ⟨rfl, rfl⟩
        dsimp only [gName, List.set]
        refine ⟨.ref x1, rfl, x1, z, es, rfl, ⟨fx.ge, el, esy, six⟩, fun F3 l1 ws1 s3 nl1 gl1 tup1 cso1 => ?_⟩
        have fx3 := fx.same s3
        refine ⟨.ref x1, rfl, x1, z, es, rfl, ⟨fx3.ge, el, esy, six⟩, fun F4 l2 out2 s4 nl2 gl2 cso2 => ?_⟩
        refine ⟨_, _, rfl, ?_⟩
        have fx4 := fx3.same s4
        have e1 : ws1.map (·.2) = ws.map (·.2) := cso1.uniq cso
        have e2 : out2 = ws.map (·.2) := cso2.uniq cso
        subst e2
        have d1 : cDs ws1 = (ws.map (·.2)).map cD := by rw [eds, e1]
        have d2 : cDs ws = (ws.map (·.2)).map cD := eds ws
        have dp1 := cDs_dp (K := K) (H := F4) (ws := ws1) fun t ht => same_tupG s4 _ _ (tup1 t ht)
        have dp2 := cDs_dp (K := K) (H := F4) (ws := ws) fx4.td
        rw [d1] at dp1
        rw [d2] at dp2
        have gl2' : F4 l2 = some (.lst (((ws.map (·.2)).map fun l => kindS (usf (es.map pE)) l).map V.str)) := by
          rw [gl2]
          simp only [List.map_map]
          rfl
        have gl1' := s4 _ _ gl1
        have nl12 : l1 ≠ l2 := ne_of_none gl1 nl2
        generalize (ws.map (·.2)).map (fun l => kindS (usf (es.map pE)) l) = ks at gl2' fx fx3 fx4 sh2
        generalize (ws.map (·.2)).map cD = ds at dp1 dp2 sh1
        dsimp only [List.set]
        refine ⟨.ref l1, rfl, l1, .list ds, rfl, .lst (SqL.of gl1') dp1, sh1.1, sh1.2.1, sh1.2.2.1, sh1.2.2.2, .ref du, rfl, du, .list ds, rfl, .lst (SqL.of fx4.gd) dp2, sh1.1, sh1.2.1, sh1.2.2.1, sh1.2.2.2, rfl, _, rfl, ?_⟩
        rw [decide_eq_true rfl]
        refine iteF ?_
        refine ⟨.ref l2, rfl, l2, .list (ks.map PyData.str), rfl, .lst (SqL.of gl2') (strs_dpR ks), sh2.1, sh2.2.1, sh2.2.2.1, sh2.2.2.2, .ref kd, rfl, kd, .list (ks.map PyData.str), rfl, .lst (SqL.of fx4.gk) (strs_dpR ks), sh2.1, sh2.2.1, sh2.2.2.1, sh2.2.2.2, rfl, _, rfl, ?_⟩
        rw [decide_eq_true rfl]
        refine iteF ?_
        refine ⟨.ref l1, rfl, .inl ⟨rfl, _, SqL.of gl1'⟩, l1, _, .non, rfl, rfl, gl1', ?_, ?_⟩
        · have := cso1.len six sy
          rw [List.length_map] at this
          rw [List.length_map, sl]
          omega
        refine ⟨.ref l2, rfl, .inl ⟨rfl, _, SqL.of ((upd_ne nl12.symm).trans gl2')⟩, l2, _, rfl, rfl, (upd_ne nl12.symm).trans gl2', ?_⟩
        refine ⟨_, _, _, rfl, fx.same fun b o e => (upd_ne (ne_of_none (s3 _ _ e) nl2)).trans ((upd_ne (ne_of_none e nl1)).trans (s4 _ _ (s3 _ _ e)))⟩
      · rintro σ F1 ⟨y9, y10, y11, rfl, fx⟩
        exact ⟨_, _, _, _, _, _, _, _, _, _, rfl, fx.tp.mono (by omega)⟩
    · rintro σ H' ⟨y2, y3, y4, y5, y6, y7, y8, y9, y10, y11, rfl, _⟩
      exact k _
end
end DW
set_option maxHeartbeats 0
namespace DW
open PySem PySem.Spec PyProof.Rows L2
theorem df {K : PySem.W.Frag} {h : Heap} {mg : Str → Option Value} {x : Str} {st : Stmt} {ps : List Str} (X : K.In h) (G : h.Ns mainGlobals mg) (hf : ∃ fd, FunD K x x (defArgs st) (defBody st) (defScope st) [] [] (He.fAd K (x, none)) fd) (hg : (He.Fa.glo x).ok K = true)
    (b : ∀ (kV doc pm : Value) (an : Option Addr) (cdv ct : Value) (us : List Value), us.length = ps.length → bindArgs (PySem.W.fnOf x x (defArgs st) (defBody st) (defScope st) .none kV doc pm an cdv ct) ⟨us, []⟩ = pure (ps.zip us)) :
    ∃ D : Df K mg x st ps, D.f = He.fAd K (x, none) := by
  obtain ⟨fd, F⟩ := hf
  exact ⟨⟨He.fAd K (x, none), fd, F, He.glo_ok X G hg, F.bindsN b⟩, rfl⟩
theorem facts {w : World} {K : PySem.W.Frag} {h : Heap} {mg : Str → Option Value} {f : Addr} (X : K.In h) (G : h.Ns mainGlobals mg) (hfa : mg ("law" : Str) = some (.ref f)) (cx : EX.SaysX R.prog fa fn xs K) :
    ∃ fd : FuncData, (∀ (s : Shared) (v : Value), BindsTo s fd ⟨[v], []⟩ [("_law_script", v)]) ∧ ∀ base : Heap, K.In base → base.Ns mainGlobals mg → GA.FnAt R.prog w K mg base f fd ["_law_script"] (spLaw K) := by
  have c := cx.d
  have e := hfa.symm.trans (He.glo_ok X G (c.fact 0 (f := .glo "law") rfl))
  cases e
  obtain ⟨D0, e0⟩ := df (st := sLaw) (ps := ["_law_script"]) X G (c.def_ 0 (d := mkD "law" sLaw) rfl) (c.fact 0 (f := .glo "law") rfl) fun _ _ _ _ _ _ us hl => match us, hl with | [_], _ => rfl
  obtain ⟨D1, e1⟩ := df (st := sIsAscending) (ps := ["letters"]) X G (c.def_ 1 (d := mkD "is_ascending" sIsAscending) rfl) (c.fact 1 (f := .glo "is_ascending") rfl) fun _ _ _ _ _ _ us hl => match us, hl with | [_], _ => rfl
  obtain ⟨D2, e2⟩ := df (st := sIsAlphabet) (ps := ["thing"]) X G (c.def_ 2 (d := mkD "is_alphabet" sIsAlphabet) rfl) (c.fact 2 (f := .glo "is_alphabet") rfl) fun _ _ _ _ _ _ us hl => match us, hl with | [_], _ => rfl
  obtain ⟨D3, e3⟩ := df (st := sIsSymbol) (ps := ["item"]) X G (c.def_ 3 (d := mkD "is_symbol" sIsSymbol) rfl) (c.fact 3 (f := .glo "is_symbol") rfl) fun _ _ _ _ _ _ us hl => match us, hl with | [_], _ => rfl
  obtain ⟨D4, e4⟩ := df (st := sSymbolsAmong) (ps := ["items"]) X G (c.def_ 4 (d := mkD "symbols_among" sSymbolsAmong) rfl) (c.fact 4 (f := .glo "symbols_among") rfl) fun _ _ _ _ _ _ us hl => match us, hl with | [_], _ => rfl
  obtain ⟨D5, e5⟩ := df (st := sIsProduction) (ps := ["alphabet", "thing"]) X G (c.def_ 5 (d := mkD "is_production" sIsProduction) rfl) (c.fact 5 (f := .glo "is_production") rfl) fun _ _ _ _ _ _ us hl => match us, hl with | [_, _], _ => rfl
  obtain ⟨D6, e6⟩ := df (st := sReachedFrom) (ps := ["steps", "start"]) X G (c.def_ 6 (d := mkD "reached_from" sReachedFrom) rfl) (c.fact 6 (f := .glo "reached_from") rfl) fun _ _ _ _ _ _ us hl => match us, hl with | [_, _], _ => rfl
  obtain ⟨D7, e7⟩ := df (st := sSymbolsOfNextRank) (ps := ["grammar", "found"]) X G (c.def_ 7 (d := mkD "symbols_of_next_rank" sSymbolsOfNextRank) rfl) (c.fact 7 (f := .glo "symbols_of_next_rank") rfl) fun _ _ _ _ _ _ us hl => match us, hl with | [_, _], _ => rfl
  obtain ⟨D8, e8⟩ := df (st := sRanks) (ps := ["grammar"]) X G (c.def_ 8 (d := mkD "ranks" sRanks) rfl) (c.fact 8 (f := .glo "ranks") rfl) fun _ _ _ _ _ _ us hl => match us, hl with | [_], _ => rfl
  obtain ⟨D9, e9⟩ := df (st := sProductiveProductions) (ps := ["grammar"]) X G (c.def_ 9 (d := mkD "productive_productions" sProductiveProductions) rfl) (c.fact 9 (f := .glo "productive_productions") rfl) fun _ _ _ _ _ _ us hl => match us, hl with | [_], _ => rfl
  obtain ⟨D10, e10⟩ := df (st := sUsedSymbols) (ps := ["grammar"]) X G (c.def_ 10 (d := mkD "used_symbols" sUsedSymbols) rfl) (c.fact 10 (f := .glo "used_symbols") rfl) fun _ _ _ _ _ _ us hl => match us, hl with | [_], _ => rfl
  obtain ⟨D11, e11⟩ := df (st := sComponentOf) (ps := ["symbol", "reached"]) X G (c.def_ 11 (d := mkD "component_of" sComponentOf) rfl) (c.fact 11 (f := .glo "component_of") rfl) fun _ _ _ _ _ _ us hl => match us, hl with | [_, _], _ => rfl
  obtain ⟨D12, e12⟩ := df (st := sFirstComponent) (ps := ["waiting", "reached"]) X G (c.def_ 12 (d := mkD "first_component" sFirstComponent) rfl) (c.fact 12 (f := .glo "first_component") rfl) fun _ _ _ _ _ _ us hl => match us, hl with | [_, _], _ => rfl
  obtain ⟨D13, e13⟩ := df (st := sComponents) (ps := ["grammar"]) X G (c.def_ 13 (d := mkD "components" sComponents) rfl) (c.fact 13 (f := .glo "components") rfl) fun _ _ _ _ _ _ us hl => match us, hl with | [_], _ => rfl
  obtain ⟨D14, e14⟩ := df (st := sItemsOfComponent) (ps := ["grammar", "component"]) X G (c.def_ 14 (d := mkD "items_of_component" sItemsOfComponent) rfl) (c.fact 14 (f := .glo "items_of_component") rfl) fun _ _ _ _ _ _ us hl => match us, hl with | [_, _], _ => rfl
  obtain ⟨D15, e15⟩ := df (st := sInnerItems) (ps := ["items", "component"]) X G (c.def_ 15 (d := mkD "inner_items" sInnerItems) rfl) (c.fact 15 (f := .glo "inner_items") rfl) fun _ _ _ _ _ _ us hl => match us, hl with | [_, _], _ => rfl
  obtain ⟨D16, e16⟩ := df (st := sComponentKind) (ps := ["grammar", "component"]) X G (c.def_ 16 (d := mkD "component_kind" sComponentKind) rfl) (c.fact 16 (f := .glo "component_kind") rfl) fun _ _ _ _ _ _ us hl => match us, hl with | [_, _], _ => rfl
  obtain ⟨D17, e17⟩ := df (st := sComponentKinds) (ps := ["grammar"]) X G (c.def_ 17 (d := mkD "component_kinds" sComponentKinds) rfl) (c.fact 17 (f := .glo "component_kinds") rfl) fun _ _ _ _ _ _ us hl => match us, hl with | [_], _ => rfl
  obtain ⟨D18, e18⟩ := df (st := sBegin) (ps := ["_law_script"]) X G (c.def_ 18 (d := mkD "_law_begin" sBegin) rfl) (c.fact 18 (f := .glo "_law_begin") rfl) fun _ _ _ _ _ _ us hl => match us, hl with | [_], _ => rfl
  obtain ⟨D19, e19⟩ := df (st := sDraw) (ps := ["_law_tape", "_law_many"]) X G (c.def_ 19 (d := mkD "_law_draw" sDraw) rfl) (c.fact 19 (f := .glo "_law_draw") rfl) fun _ _ _ _ _ _ us hl => match us, hl with | [_, _], _ => rfl
  obtain ⟨D20, e20⟩ := df (st := sPick) (ps := ["_law_tape", "_law_items"]) X G (c.def_ 20 (d := mkD "_law_pick" sPick) rfl) (c.fact 20 (f := .glo "_law_pick") rfl) fun _ _ _ _ _ _ us hl => match us, hl with | [_, _], _ => rfl
  obtain ⟨D21, e21⟩ := df (st := sAlpha) (ps := ["_law_tape"]) X G (c.def_ 21 (d := mkD "_law_alphabet" sAlpha) rfl) (c.fact 21 (f := .glo "_law_alphabet") rfl) fun _ _ _ _ _ _ us hl => match us, hl with | [_], _ => rfl
  obtain ⟨D22, e22⟩ := df (st := sWord) (ps := ["_law_tape", "_law_alphabet_here", "_law_longest"]) X G (c.def_ 22 (d := mkD "_law_word" sWord) rfl) (c.fact 22 (f := .glo "_law_word") rfl) fun _ _ _ _ _ _ us hl => match us, hl with | [_, _, _], _ => rfl
  obtain ⟨D23, e23⟩ := df (st := sLSymbols) (ps := ["_law_tape"]) X G (c.def_ 23 (d := mkD "_law_symbols" sLSymbols) rfl) (c.fact 23 (f := .glo "_law_symbols") rfl) fun _ _ _ _ _ _ us hl => match us, hl with | [_], _ => rfl
  obtain ⟨D24, e24⟩ := df (st := sLRules) (ps := ["_law_tape", "_law_alphabet_here", "_law_many"]) X G (c.def_ 24 (d := mkD "_law_rules" sLRules) rfl) (c.fact 24 (f := .glo "_law_rules") rfl) fun _ _ _ _ _ _ us hl => match us, hl with | [_, _, _], _ => rfl
  obtain ⟨D25, e25⟩ := df (st := sLMade) (ps := ["_law_tape", "_law_alphabet_here", "_law_many"]) X G (c.def_ 25 (d := mkD "_law_made" sLMade) rfl) (c.fact 25 (f := .glo "_law_made") rfl) fun _ _ _ _ _ _ us hl => match us, hl with | [_, _, _], _ => rfl
  obtain ⟨D26, e26⟩ := df (st := sLNamesOf) (ps := ["_law_text"]) X G (c.def_ 26 (d := mkD "_law_names_of" sLNamesOf) rfl) (c.fact 26 (f := .glo "_law_names_of") rfl) fun _ _ _ _ _ _ us hl => match us, hl with | [_], _ => rfl
  obtain ⟨D27, e27⟩ := df (st := sLHeights) (ps := ["_law_rules_here"]) X G (c.def_ 27 (d := mkD "_law_heights" sLHeights) rfl) (c.fact 27 (f := .glo "_law_heights") rfl) fun _ _ _ _ _ _ us hl => match us, hl with | [_], _ => rfl
  obtain ⟨D28, e28⟩ := df (st := sLUseful) (ps := ["_law_rules_here"]) X G (c.def_ 28 (d := mkD "_law_useful" sLUseful) rfl) (c.fact 28 (f := .glo "_law_useful") rfl) fun _ _ _ _ _ _ us hl => match us, hl with | [_], _ => rfl
  obtain ⟨D29, e29⟩ := df (st := sLReached) (ps := ["_law_useful_here", "_law_symbol"]) X G (c.def_ 29 (d := mkD "_law_reached" sLReached) rfl) (c.fact 29 (f := .glo "_law_reached") rfl) fun _ _ _ _ _ _ us hl => match us, hl with | [_, _], _ => rfl
  obtain ⟨D30, e30⟩ := df (st := sLComponent) (ps := ["_law_useful_here", "_law_symbol"]) X G (c.def_ 30 (d := mkD "_law_component" sLComponent) rfl) (c.fact 30 (f := .glo "_law_component") rfl) fun _ _ _ _ _ _ us hl => match us, hl with | [_, _], _ => rfl
  obtain ⟨D31, e31⟩ := df (st := sLKind) (ps := ["_law_useful_here", "_law_component_here"]) X G (c.def_ 31 (d := mkD "_law_kind" sLKind) rfl) (c.fact 31 (f := .glo "_law_kind") rfl) fun _ _ _ _ _ _ us hl => match us, hl with | [_, _], _ => rfl
  obtain ⟨D32, e32⟩ := df (st := sLOrdered) (ps := ["_law_rules_here"]) X G (c.def_ 32 (d := mkD "_law_ordered" sLOrdered) rfl) (c.fact 32 (f := .glo "_law_ordered") rfl) fun _ _ _ _ _ _ us hl => match us, hl with | [_], _ => rfl
  obtain ⟨fdgi, Fgi⟩ := c.def_ 33 (d := ⟨("Grammar", some "__init__"), "__init__", "Grammar.__init__", defArgs sGrInit, defBody sGrInit, defScope sGrInit, [], []⟩) rfl
  obtain ⟨fdg0, Fg0⟩ := c.def_ 34 (d := ⟨("Grammar", some "alphabet"), "alphabet", "Grammar.alphabet", defArgs sGrAlphabet, defBody sGrAlphabet, defScope sGrAlphabet, [], []⟩) rfl
  obtain ⟨fdg1, Fg1⟩ := c.def_ 35 (d := ⟨("Grammar", some "productions"), "productions", "Grammar.productions", defArgs sGrProductions, defBody sGrProductions, defScope sGrProductions, [], []⟩) rfl
  obtain ⟨fdg2, Fg2⟩ := c.def_ 36 (d := ⟨("Grammar", some "symbols"), "symbols", "Grammar.symbols", defArgs sGrSymbols, defBody sGrSymbols, defScope sGrSymbols, [], []⟩) rfl
  obtain ⟨fdg3, Fg3⟩ := c.def_ 37 (d := ⟨("Grammar", some "__eq__"), "__eq__", "Grammar.__eq__", defArgs sGrEq, defBody sGrEq, defScope sGrEq, [], []⟩) rfl
  let Gr0 : DfG K mg := ⟨He.ga K "Grammar", He.glo_ok X G (c.fact 53 (f := .glo "Grammar") rfl), He.cls_ok (c.fact 54 (f := .cls "Grammar") rfl), He.noat_ok (c.fact 55 (f := .noat "Grammar" "base") rfl), He.noat_ok (c.fact 56 (f := .noat "Grammar" "rules") rfl), He.noat_ok (c.fact 57 (f := .noat "Grammar" "occurring") rfl),
    ⟨_, fdgi, Fgi, Fgi.bindsN fun _ _ _ _ _ _ us hl => match us, hl with | [_, _, _], _ => rfl⟩, He.mkr_ok (c.fact 58 (f := .mkr "Grammar") rfl)⟩
  let Gr : DfGM K mg := ⟨Gr0, ⟨_, fdg0, Fg0, Fg0.bindsN fun _ _ _ _ _ _ us hl => match us, hl with | [_], _ => rfl⟩, He.meth_ok (c.fact 59 (f := .meth "Grammar" "alphabet") rfl), ⟨_, fdg1, Fg1, Fg1.bindsN fun _ _ _ _ _ _ us hl => match us, hl with | [_], _ => rfl⟩, He.meth_ok (c.fact 60 (f := .meth "Grammar" "productions") rfl), ⟨_, fdg2, Fg2, Fg2.bindsN fun _ _ _ _ _ _ us hl => match us, hl with | [_], _ => rfl⟩, He.meth_ok (c.fact 61 (f := .meth "Grammar" "symbols") rfl), ⟨_, fdg3, Fg3, Fg3.bindsN fun _ _ _ _ _ _ us hl => match us, hl with | [_, _], _ => rfl⟩, He.meth_ok (c.fact 62 (f := .meth "Grammar" "__eq__") rfl)⟩
  obtain ⟨X0, qx0⟩ := cx.ex X G 0 (y := "InvalidAlphabet") rfl
  have msup : mg "super" = none := He.free_ok X G (c.fact 63 (f := .free "super") rfl)
  obtain ⟨Y0, qy0⟩ := EX.mkE (ok := EX.MsgOk) X G (cx.ini 0).2 (cx.ini 0).1 (by decide +kernel) (fun F doc pm ctv us h1 h2 h3 h4 h5 hl => by
      obtain ⟨n1, n2, n3, n4, n5, n6, n7⟩ := F
      dsimp only at h1 h2 h3 h4 h5
      subst h1 h2 h3 h4 h5
      match us, hl with
      | [_, _], _ => rfl) (fun F cc oc doc pm ctv od osl w base h1 h2 h3 Sp lk no => by
      obtain ⟨n1, n2, n3, n4, n5, n6, n7⟩ := F
      dsimp only at h1 h2 h3
      subst h1 h2 h3
      exact EX.init_f Sp lk msup (NdefX.nscope_by (show NdefX.nscB _ _ _ (defScope (clsS 3 0)) = true by decide +kernel)) no rfl (by decide +kernel) rfl rfl rfl (by decide) (by decide) (fun L => rfl))
  have b := FunD.bindsA (ps := ["_law_script"]) D0.F fun _ _ _ _ _ _ us hl => match us, hl with | [_], _ => rfl
  refine ⟨D0.fd, fun s v => b s [v] rfl, fun base _ _ => ?_⟩
  have q := ok_law (P := R.prog) (w := w) (base := base) D0 ⟨D1, D2, D3, D4, D5, D6, D7, D8, D9, D10, D11, D12, D13, D14, D15, D16, D17, D18, D19, D20, D21, D22, D23, D24, D25, D26, D27, D28, D29, D30, D31, D32, ⟨He.free_ok X G (c.fact 37 (f := .free "len") rfl), He.free_ok X G (c.fact 44 (f := .free "range") rfl), He.free_ok X G (c.fact 38 (f := .free "sorted") rfl), He.free_ok X G (c.fact 41 (f := .free "set") rfl)⟩, He.free_ok X G (c.fact 33 (f := .free "all") rfl), He.free_ok X G (c.fact 34 (f := .free "zip") rfl), He.free_ok X G (c.fact 35 (f := .free "isinstance") rfl), He.free_ok X G (c.fact 36 (f := .free "str") rfl), He.free_ok X G (c.fact 39 (f := .free "tuple") rfl), He.free_ok X G (c.fact 40 (f := .free "enumerate") rfl), He.free_ok X G (c.fact 42 (f := .free "any") rfl), He.free_ok X G (c.fact 43 (f := .free "max") rfl), He.free_ok X G (c.fact 45 (f := .free "int") rfl), He.free_ok X G (c.fact 46 (f := .free "dict") rfl), He.free_ok X G (c.fact 47 (f := .free "list") rfl), He.free_ok X G (c.fact 48 (f := .free "repr") rfl), He.int_ok X G (c.fact 49 (f := .int "MOST_LETTERS" 3) rfl), He.int_ok X G (c.fact 50 (f := .int "MOST_ITEMS" 3) rfl), He.int_ok X G (c.fact 51 (f := .int "MOST_PRODUCTIONS" 16) rfl), He.int_ok X G (c.fact 52 (f := .int "MOST_SYMBOLS" 6) rfl), Gr, X0, Y0⟩
  rw [e0] at q
  exact q
end DW
open PySem PySem.W PySem.Calls PyProof.Rows
theorem PySem.Challenge.cw_downwords_k70_components_and_their_kinds_holds : PySem.Challenge.rw_downwords_k70_components_and_their_kinds.Holds := by
  w_on; o_law
  refine HandSHeadRun.head_any (r := OpenLaw.row PySem.Challenge.rw_downwords_k70_components_and_their_kinds) (q := view (OpenLaw.row PySem.Challenge.rw_downwords_k70_components_and_their_kinds).prog [46]) (H := DW.hk) (ob := DW.ob) (M := 4000) (loose := DW.names) (d := HandSHeadRun.topDef (OpenLaw.row PySem.Challenge.rw_downwords_k70_components_and_their_kinds).prog 46) (kwd := []) DW.ob_eq
    (by kernel_rfl) (fun s => by kernel_rfl) DW.run (by kernel_rfl) (by kernel_rfl) (by kernel_rfl) (by rfl) (by first | assumption | decide +kernel) (by decide +kernel) ⟨rfl, rfl, rfl, rfl, rfl, by decide +kernel⟩ ?hw ?hc
  case hw => w_witness2
  case hc =>
    refine GA.walkAt (l := PySem.Challenge.rw_downwords_k70_components_and_their_kinds) (n := 63) (x := "_law_script") rfl (by decide) (by kernel_rfl) ?F
    intro w mg fa h Y G hmg0
    obtain ⟨K, KX, c⟩ := Y
    have hmg : mg ("law" : PySem.Str) = some (.ref fa) := by
      have e : (HandSHeadRun.topDef (OpenLaw.row PySem.Challenge.rw_downwords_k70_components_and_their_kinds).prog 46).name = ("law" : PySem.Str) := by kernel_rfl
      rw [← e]
      exact hmg0
    obtain ⟨fd, hb, hF⟩ := DW.facts (w := w) KX G hmg c
    exact ⟨K, fd, DW.spLaw K, KX, hb, fun H a ns hl _ hS => ⟨a, ns, rfl, hS, fun _ => rfl⟩, hF⟩
