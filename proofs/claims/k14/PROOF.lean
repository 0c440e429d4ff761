import PyProof.Rows.All
import Wide.All
import OpenK.AllK
import Wide.FinOn
import HandS.List
import HandS.SetTxt0
import HandS.SetFor
import HandS.Strs
import HandS.Iter
import HandS.Walk
import KE.GoesMore
import KE.GoesZip
import HandS.Text
import PyProof.ListStr
import KE.KRevSl
import KE.GoesEnum
import HandS.ForMost
import HandS.Codes
import HandS.IsInst
import KE.KCallOwn
import PyProof.InstNe
import PyProof.FString2
import KE.KExcSuper
import HandS.Nested
import HandS.Exc
import HandS.ExcOwn
import HandS.ExcInit
import KE.KExcIs
import HandS.FStr
import HandS.ExcField
import HandS.HeadHook1
import HandS.HeadHook2
import HandS.ExcIs
import HandS.TryMany
import KE.KTryMore
import HandS.Defaults
import HandS.HeadEnd
import HandS.Flow
import HandS.Small
import HandS.WordsExc
import HandS.RaiseMore
import HandS.Conv
import HandS.NoneIn
import HandS.TupAny
import KE.KeyNested
import KE.KDictKeyed
import PyProof.DictMoreH
import PyProof.DictRoadsH
import HandS.SetKeys
import HandS.SortKw
import KE.SortKeyHeap
import KE.KDictCopyH
import KE.KDictSum
import KE.SortData
import HandS.More
import HandS.RevRange
import HandS.Deep
import KE.KStateDown
import Lean
import HandS.Head0
import HandS.Head1
import HandS.Head2
import PySem.Challenge.RW_downwords_k14_languages_made
set_option Elab.async false
set_option linter.all false
set_option maxRecDepth 100000
set_option maxHeartbeats 2000000
/-! Sets of texts: set(list of texts), set(text), sorted(set). -/
namespace TX
open PySem PySem.Spec PyProof.Rows L2 PySem.Froz

/-! ### lists -/
theorem perm_of_sub {α : Type} [DecidableEq α] : ∀ (l ks : List α), l.Nodup → (∀ x ∈ l, x ∈ ks) → ks.length ≤ l.length → ks.Perm l
  | [], ks, _, _, hl => by
    have e : ks = [] := List.length_eq_zero_iff.mp (Nat.le_zero.mp hl)
    rw [e]
  | x :: l, ks, nd, sub, hl => by
    obtain ⟨hx, nd'⟩ := List.nodup_cons.mp nd
    have hk : x ∈ ks := sub x List.mem_cons_self
    have p1 : ks.Perm (x :: ks.erase x) := List.perm_cons_erase hk
    have l1 : (ks.erase x).length = ks.length - 1 := List.length_erase_of_mem hk
    have sub' : ∀ y ∈ l, y ∈ ks.erase x := fun y hy => by
      have ne : y ≠ x := fun e => hx (e ▸ hy)
      exact (List.mem_erase_of_ne ne).mpr (sub y (List.mem_cons_of_mem _ hy))
    have p2 := perm_of_sub l (ks.erase x) nd' sub' (by rw [l1]; rw [List.length_cons] at hl; omega)
    exact p1.trans (p2.cons x)

/-! ### the set's state -/
structure Ok (P : Program) (w : World) (D : SD) (l : List Str) : Prop where
  tx : TxOk P w D l
  up : Ris D.2.2.place.toList
  led : w.params.followText "set-order" = true ∨ D.2.2.led = true
  nd : l.Nodup
def At (P : Program) (w : World) (h : Heap) (a : Addr) (l : List Str) : Prop := ∃ D : SD, h.get? a = some (sObj "set" D) ∧ Ok P w D l

section
variable {P : Program} {w : World} {A : Around} {E : Value → Shared → Prop} {s : Shared}
theorem At.move {h h' : Heap} {a : Addr} {l : List Str} (x : At P w h a l) (k : ∀ o, h.get? a = some o → h'.get? a = some o) : At P w h' a l := by
  obtain ⟨D, hD, o⟩ := x
  exact ⟨D, k _ hD, o⟩
theorem tail_up {ep : Nat} {es : Array (Int × Value)} {t : SetTable} {b : Bool} (r : Ris t.place.toList) : Ris (tailTx ep es t b).2.2.place.toList := by
  unfold tailTx
  by_cases c : (!b && t.tooFull) = true
  · rw [if_pos c]
    exact relayAll_ris _ _ _
  · rw [if_neg c]
    exact r
theorem tail_led {ep : Nat} {es : Array (Int × Value)} {t : SetTable} {b : Bool} : (tailTx ep es t b).2.2.led = t.led := by
  unfold tailTx
  by_cases c : (!b && t.tooFull) = true
  · rw [if_pos c]
    exact relayAll_led _ _ _
  · rw [if_neg c]
def dull (t : SetTable) : SetTable := if t.plain = true then { t with plain := false } else t
theorem dull_place (t : SetTable) : (dull t).place = t.place := by
  unfold dull
  by_cases c : t.plain = true
  · rw [if_pos c]
  · rw [if_neg c]
theorem dull_led (t : SetTable) : (dull t).led = t.led := by
  unfold dull
  by_cases c : t.plain = true
  · rw [if_pos c]
  · rw [if_neg c]
theorem Ok.add {D : SD} {l : List Str} {k : Str} (u : Tok) (o : Ok P w D l) (hk : k ∉ l) : Ok P w (addTx (hashStr w k) (.str k u) D) (k :: l) := by
  obtain ⟨es, ep, t⟩ := D
  have r1 : Ris (layNew t es (hashStr w k) (.str k u)).2.1.place.toList := layNew_ris t es _ _ o.up
  have l1 : (layNew t es (hashStr w k) (.str k u)).2.1.led = t.led := layNew_led t es _ _
  have e : addTx (hashStr w k) (.str k u) (es, ep, t) = tailTx ep (layNew t es (hashStr w k) (.str k u)).1 (dull (layNew t es (hashStr w k) (.str k u)).2.1) (layNew t es (hashStr w k) (.str k u)).2.2.1 := rfl
  refine ⟨add_ok u o.tx, ?_, ?_, List.nodup_cons.mpr ⟨hk, o.nd⟩⟩
  · rw [e]
    exact tail_up (by rw [dull_place]; exact r1)
  · refine o.led.imp id fun z => ?_
    rw [e, tail_led, dull_led, l1]
    exact z
theorem add_old {a : Addr} {T : String} {D : SD} {l : List Str} {k : Str} {u : Tok} {Q : Bool → Shared → Prop} (ho : s.heap.get? a = some (sObj T D)) (o : TxOk P w D l) (hk : k ∈ l) (hb : l.length < scanBound) (h : Q false s) :
    wpAny (model P w) A (setAddHashed a (.str k u) (hashStr w k)) Q E s := by
  obtain ⟨es, ep, t⟩ := D
  have dd : (sObj T (es, ep, t)).data = .set es ep t := rfl
  have ft : t.fits es.size = true := o.fit
  have el : ElemsOf (strKind P w) es.toList := o.el
  have z : es.size = l.length := o.sz
  have b0 : es.size < scanBound := by omega
  have ky : (strKind P w).is k (.str k u) = true := is_str k u
  obtain ⟨e0, he0, q0⟩ := (o.mem k).mp hk
  unfold setAddHashed setAddHashedIn
  refine wpAny_holding (wpAny_bind (wpAny_setState_of ho dd ft ?_))
  dsimp only
  rw [byScan_of rfl b0 el]
  simp only [↓reduceIte]
  unfold setAddByScan
  refine wpAny_bind (wpAny_bind (wpAny_rule (wpAny_bind (wpAny_setScan_of (knd := strKind P w) (k := k) ky ho dd ft el ?_))))
  cases fi : List.findIdx? (fun e => (strKind P w).is k e.2) es.toList with
  | some j =>
    dsimp only
    exact wpAny_pure (wpAny_pure h)
  | none =>
    have c := List.findIdx?_eq_none_iff.mp fi e0 he0
    rw [q0] at c
    cases c

/-! ### the loop that fills it -/
theorem fill {I : Addr} {fp wr : List Addr} {G : Array GenState → Array GenState → Prop} {n : Nat} {Pv : Nat → Value → Prop} {St : Nat → Shared → Prop} {R : Result → Shared → Prop}
    (W : WalksS P w A.in1 I fp wr G n Pv St) (a : Addr) (ha : a ∉ fp) (xs : List Str) (hn : n = xs.length) (hb : xs.length + 1 < scanBound) (hv : ∀ i v, Pv i v → ∃ k t, xs[i]? = some k ∧ v = .str k t) :
    ∀ (m i : Nat) (s : Shared), n - i = m → i ≤ n → St i s → (∃ l, At P w s.heap a l ∧ l.length ≤ i ∧ ∀ k, k ∈ l ↔ k ∈ xs.take i) →
      (∀ s' l, Moved (a :: wr) G s s' → At P w s'.heap a l → (∀ k, k ∈ l ↔ k ∈ xs) → l.length ≤ n → R (.ok (.ret .none)) s') →
      codeAny (model P w) A (.builtin "set.update.loop" ⟨[.ref a, .ref I], []⟩) R s := by
  have aw : a ∉ wr := fun q => ha (W.sub _ q)
  have ww : ∀ b ∈ wr, b ∈ a :: wr := fun b q => List.mem_cons_of_mem _ q
  intro m
  induction m with
  | zero =>
    intro i s em hi st ⟨l, hA, hl, mem⟩ hR
    obtain rfl : i = n := by omega
    refine codeAny_builtin F.entry_set_update_loop ?_
    rw [Around.under_plainId F.plain_set_update_loop _]
    show wpAny _ A.in1 (pyNext (.ref I) >>= _) _ _ s
    refine wpAny_bind (W.done s _ _ st fun s' mv => ?_)
    show wpAny _ A.in1 (ret Value.none) _ _ s'
    have et : xs.take i = xs := List.take_of_length_le (by omega)
    rw [et] at mem
    exact wpAny_pure (hR s' l (mv.mono ww) (hA.move fun o e => mv.heap a o aw e) mem hl)
  | succ m ih =>
    intro i s em hi st ⟨l, hA, hl, mem⟩ hR
    have lt : i < n := by omega
    refine codeAny_builtin F.entry_set_update_loop ?_
    rw [Around.under_plainId F.plain_set_update_loop _]
    show wpAny _ A.in1 (pyNext (.ref I) >>= _) _ _ s
    refine wpAny_bind (W.item i s _ _ lt st fun v s1 hP st1 mv => ?_)
    obtain ⟨k, t, hk, rfl⟩ := hv i v hP
    obtain ⟨D, hD, oD⟩ := hA.move (h' := s1.heap) fun o e => mv.heap a o aw e
    show wpAny _ A.in1 (holding [Value.str k t] (setAdd a (.str k t)) >>= _) _ _ s1
    refine wpAny_bind (wpAny_holding ?_)
    unfold setAdd
    refine wpAny_holding (wpAny_bind ((strKind P w).pyHash (k := k) (is_str k t) ?_))
    have tk : xs.take (i + 1) = xs.take i ++ [k] := by rw [List.take_add_one, hk] <;> rfl
    by_cases kl : k ∈ l
    · refine add_old (s := { s1 with toks := s1.toks + 1 }) hD oD.tx kl (by omega) ?_
      refine wpAny_pure ⟨plainId_quiet F.plain_set_update_loop _, ih (i + 1) _ (by omega) lt (W.frame _ s1 _ _ st1 (Nat.le_succ _) fun b _ o e => e) ⟨l, ⟨D, hD, oD⟩, by omega, fun j => ?_⟩ fun s2 l2 mv2 hA2 mem2 hl2 => ?_⟩
      · rw [tk, List.mem_append, List.mem_singleton, ← mem j]
        exact ⟨.inl, fun q => q.elim id fun e => e ▸ kl⟩
      · exact hR s2 l2 (Moved.trans W.gtrans ((mv.mono ww).then_heap (Nat.le_succ _) fun b o _ e => e) mv2) hA2 mem2 hl2
    · refine add_x (s := { s1 with toks := s1.toks + 1 }) hD oD.tx kl (by omega) ?_
      have hg : (s1.heap.update a (fun _ => sObj "set" (addTx (hashStr w k) (.str k t) D))).get? a = some (sObj "set" (addTx (hashStr w k) (.str k t) D)) := get_upd _ hD rfl
      have ot : ∀ b o, b ≠ a → s1.heap.get? b = some o → (s1.heap.update a (fun _ => sObj "set" (addTx (hashStr w k) (.str k t) D))).get? b = some o :=
        fun b o ne e => (Heap.get?_update_other _ _ (Ne.symm ne)).trans e
      refine wpAny_pure ⟨plainId_quiet F.plain_set_update_loop _, ih (i + 1) _ (by omega) lt (W.frame _ s1 _ _ st1 (Nat.le_succ _) fun b q o e => ?_) ⟨k :: l, ⟨_, hg, oD.add t kl⟩, by rw [List.length_cons]; omega, fun j => ?_⟩ fun s2 l2 mv2 hA2 mem2 hl2 => ?_⟩
      · exact ot b o (fun z => ha (z ▸ q)) e
      · rw [tk, List.mem_append, List.mem_singleton, ← mem j, List.mem_cons]
        exact Or.comm
      · refine hR s2 l2 (Moved.trans W.gtrans ((mv.mono ww).then_heap (Nat.le_succ _) fun b o q e => ?_) mv2) hA2 mem2 hl2
        exact ot b o (fun z => q (z ▸ List.mem_cons_self)) e
end

/-! ### set(v) -/
abbrev fresh (w : World) : Obj := { cls := .type "set", dict := none, data := .set #[] 0 (.fresh 0 0 (!w.params.followText "set-order")) }
theorem fresh_ok {P : Program} {w : World} : Ok P w (#[], 0, .fresh 0 0 (!w.params.followText "set-order")) [] where
  tx := TxOk.nil (by rfl)
  up := List.Pairwise.nil
  led := by
    show _ ∨ (!w.params.followText "set-order") = true
    cases w.params.followText "set-order"
    · exact .inr rfl
    · exact .inl rfl
  nd := List.nodup_nil
theorem at_fresh {P : Program} {w : World} {h : Heap} {a : Addr} (e : h.get? a = some (fresh w)) : At P w h a [] := ⟨(#[], 0, .fresh 0 0 (!w.params.followText "set-order")), e, fresh_ok⟩

section
variable {P : Program} {w : World} {A : Around} {E : Value → Shared → Prop} {s : Shared}
/-- what set(v) leaves: a new object, all else as it was -/
def Left (P : Program) (w : World) (s : Shared) (xs : List Str) (s' : Shared) : Prop :=
  ∃ h' tk l, s' = { s with heap := h', toks := tk } ∧ At P w h' s.heap.objs.size l ∧ (∀ k, k ∈ l ↔ k ∈ xs) ∧ l.length ≤ xs.length ∧ ∀ b o, s.heap.get? b = some o → h'.get? b = some o
set_option maxHeartbeats 4000000 in
theorem call_set_of {v : Value} {xs : List Str} {Q : Value → Shared → Prop}
    (hI : ∀ A' : Around, A'.handled = A.handled → wpAny (model P w) A' (Builtin.«set.__init__» ⟨[.ref s.heap.objs.size, v], []⟩) (fun f s2 => f = .done (.ret .none) ∧ Left P w s xs s2) E { s with heap := s.heap.push (fresh w) })
    (h : ∀ s', Left P w s xs s' → Q (.ref s.heap.objs.size) s') :
    wpAny (model P w) A (call (.type "set") [v]) Q E s := by
  obtain ⟨c, tl, hmro⟩ := F.called_set.mro
  have hmade := F.called_set.made
  have hsub := F.called_set.sub
  refine wpAny_call (codeAny_of_tree ?_)
  show wpAny _ _ (callAny (.type "set") _) _ _ _
  refine wpAny_pure ⟨Code.quiet_builtin _ (by decide +kernel), codeAny_builtin F.entry_type_call ?_⟩
  rw [Around.under_plain (weight_type_call_type "set" [v] []) rfl]
  have h1 := F.called_set.notType
  have h2 := F.called_set.canCreate
  have hct := F.typeCall_set_1 v
  repeat (any_goals (first | assumption | wp_step))
  refine codeAny_mono (code_set_led1 v (E := E) (Q₁ := fun obj s₁ => obj = .ref s.heap.objs.size ∧ s₁ = { s with heap := s.heap.push (fresh w) }) ⟨rfl, rfl⟩) fun r s₁ hr => ?_
  cases r with
  | error e => exact hr
  | ok fl =>
    cases fl with
    | ret obj =>
      obtain ⟨rfl, rfl⟩ := hr
      have hS : (s.heap.push (fresh w)).get? s.heap.objs.size = some (fresh w) := Heap.get?_push_size _ rfl
      have hT : Shared.TypeIs { s with heap := s.heap.push (fresh w) } (.ref s.heap.objs.size) "set" := ⟨_, hS, rfl⟩
      have hli := F.called_set.init.lookup
      have hbi := F.called_set.init.bind (.ref s.heap.objs.size)
      repeat (any_goals (first | assumption | wp_step))
      refine codeAny_mono (codeAny_call_builtin (R := wants (fun r s₂ => r = .none ∧ Left P w s xs s₂) E) F.called_set.init.plain F.entry_set_init (check_set_init_1 hT ?_)) fun r₂ s₂ hr₂ => ?_
      · refine wpAny_mono (hI A.in1.in1 (by simp)) (fun f s2 q => ?_) fun e s2 q => q
        obtain ⟨rfl, q⟩ := q
        exact ⟨rfl, q⟩
      · cases r₂ with
        | error e => exact hr₂
        | ok fl₂ =>
          cases fl₂ with
          | ret r =>
            obtain ⟨rfl, hL⟩ := hr₂
            repeat (any_goals (first | assumption | wp_step))
            exact h _ hL
          | _ => exact hr₂.elim
    | _ => exact hr.elim
theorem left_of {a : Addr} {wr : List Addr} {xs l : List Str} {s s1 s' : Shared} (ea : a = s.heap.objs.size) (hw : ∀ b ∈ wr, s.heap.objs.size ≤ b) (k1 : ∀ b o, s.heap.get? b = some o → s1.heap.get? b = some o)
    (eg : s1.gens = s.gens) (ed : s1.drawn = s.drawn) (eo : s1.os = s.os) (mv : Moved (a :: wr) (fun x y => y = x) s1 s') (hA : At P w s'.heap a l) (mem : ∀ k, k ∈ l ↔ k ∈ xs) (hl : l.length ≤ xs.length) : Left P w s xs s' := by
  obtain ⟨h', g', d', tk', os'⟩ := s'
  have e1 : g' = s.gens := mv.gens.trans eg
  have e2 : d' = s.drawn := mv.drawn.trans ed
  have e3 : os' = s.os := mv.os.trans eo
  subst e1 e2 e3 ea
  refine ⟨h', tk', l, rfl, hA, mem, hl, fun b o e => ?_⟩
  have lt : b < s.heap.objs.size := Heap.lt_size e
  refine mv.heap b o (fun z => ?_) (k1 b o e)
  rcases List.mem_cons.mp z with z | z
  · exact absurd z (Nat.ne_of_lt lt)
  · exact absurd (hw b z) (Nat.not_le_of_lt lt)
set_option maxHeartbeats 4000000 in
theorem init_list {l : Addr} {items : Array Value} {xs : List Str} (hh : A.handled = none) (hl : s.heap.IsList l items) (hi : StrsAre items.toList xs) (hb : xs.length + 1 < scanBound) :
    wpAny (model P w) A (Builtin.«set.__init__» ⟨[.ref s.heap.objs.size, .ref l], []⟩) (fun f s2 => f = .done (.ret .none) ∧ Left P w s xs s2) E { s with heap := s.heap.push (fresh w) } := by
  have hsz : xs.length = items.size := by rw [← StrsAre.len_eq hi, Array.length_toList]
  have hv : ∀ (i : Nat) (v : Value), items[i]? = some v → ∃ k t, xs[i]? = some k ∧ v = .str k t := fun i v q => by
    have hi' : i < xs.length := by rw [hsz]; exact (Array.getElem?_eq_some_iff.mp q).1
    obtain ⟨t, e⟩ := SS.strs_at hi i v (by rw [Array.getElem?_toList]; exact q)
    refine ⟨xs[i], t, List.getElem?_eq_getElem hi', ?_⟩
    rw [e, List.getD_eq_getElem?_getD, List.getElem?_eq_getElem hi'] <;> rfl
  have hS : (s.heap.push (fresh w)).get? s.heap.objs.size = some (fresh w) := Heap.get?_push_size _ rfl
  have hT : Shared.TypeIs { s with heap := s.heap.push (fresh w) } (.ref s.heap.objs.size) "set" := ⟨_, hS, rfl⟩
  obtain ⟨ol, hol, hcl, nl, hdl⟩ := id hl
  obtain ⟨ocls, odict, odata, oslots⟩ := ol
  simp only at hcl hdl
  subst hcl; subst hdl
  have hol1 : (s.heap.push (fresh w)).get? l = some { cls := .type "list", dict := odict, data := .seq items nl, slots := oslots } := Heap.get?_push_of_some _ hol
  have f1 := F.sub_list_set
  have f2 := F.sub_list_frozenset
  have f3 : (Value.type "list" == Value.type "dict") = false := by decide
  have hl1 : (s.heap.push (fresh w)).IsList l items := ⟨_, hol1, rfl, nl, rfl⟩
  have lS : l < s.heap.objs.size := Heap.lt_size hol
  have nI : l ≠ (s.heap.push (fresh w)).objs.size := by
    rw [Heap.size_push]
    exact Nat.ne_of_lt (Nat.lt_succ_of_lt lS)
  have nS : s.heap.objs.size ∉ [(s.heap.push (fresh w)).objs.size, l] := by
    rw [Heap.size_push]
    intro q
    rcases List.mem_cons.mp q with q | q
    · exact absurd q (Nat.ne_of_lt (Nat.lt_succ_self _))
    · exact absurd (List.mem_singleton.mp q) (Nat.ne_of_gt lS)
  have z1 : (s.heap.push (fresh w)).objs.size = s.heap.objs.size + 1 := Heap.size_push ..
  unfold Builtin.«set.__init__» noKeywords Builtin.Frozenset.updateFrom
  generalize ePI : pyIter = PI
  wp_walk
  subst ePI
  refine wpAny_pyIter_list hl1 ?_
  refine wpAny_bind (wpAny_runValue ?_)
  refine fill ((Walks.list (by simp [hh]) _ l nI items).toS) s.heap.objs.size nS xs hsz.symm hb hv (items.size - 0) 0 _ rfl (Nat.zero_le _)
    ⟨⟨_, Heap.get?_push_size _ rfl, rfl, rfl⟩, hl1.push _⟩ ⟨[], at_fresh (Heap.get?_push_of_some _ hS), Nat.le_refl _, fun k => by simp⟩ fun s' m mv hA mem hm => ?_
  show wpAny _ _ _ _ _ _
  refine wpAny_pure ?_
  show wpAny _ _ (ret Value.none) _ _ _
  refine wpAny_pure ⟨rfl, left_of (wr := [_]) rfl ?_ ?k1 ?e1 ?e2 ?e3 mv hA mem (by omega)⟩
  case k1 => exact fun b o e => Heap.get?_push_of_some _ (Heap.get?_push_of_some _ e)
  case e1 => rfl
  case e2 => rfl
  case e3 => rfl
  intro b q
  rw [List.mem_singleton.mp q]
  show _ ≤ (s.heap.push (fresh w)).objs.size
  rw [z1]
  exact Nat.le_succ _
set_option maxHeartbeats 4000000 in
theorem init_text {x : Str} {t : Tok} (hh : A.handled = none) (hb : x.length + 1 < scanBound) :
    wpAny (model P w) A (Builtin.«set.__init__» ⟨[.ref s.heap.objs.size, .str x t], []⟩) (fun f s2 => f = .done (.ret .none) ∧ Left P w s (x.cps.toList.map fun c => (⟨#[c]⟩ : Str)) s2) E { s with heap := s.heap.push (fresh w) } := by
  have hsz : (x.cps.toList.map fun c => (⟨#[c]⟩ : Str)).length = x.cps.size := by rw [List.length_map, Array.length_toList]
  have hx : x.length = x.cps.size := rfl
  have hv : ∀ (i : Nat) (v : Value), SignAt x i v → ∃ k t, (x.cps.toList.map fun c => (⟨#[c]⟩ : Str))[i]? = some k ∧ v = .str k t := fun i v ⟨c, u, q, e⟩ => by
    refine ⟨⟨#[c]⟩, u, ?_, e⟩
    rw [List.getElem?_map, Array.getElem?_toList, q] <;> rfl
  have hS : (s.heap.push (fresh w)).get? s.heap.objs.size = some (fresh w) := Heap.get?_push_size _ rfl
  have hT : Shared.TypeIs { s with heap := s.heap.push (fresh w) } (.ref s.heap.objs.size) "set" := ⟨_, hS, rfl⟩
  have hTx : Shared.TypeIs { s with heap := s.heap.push (fresh w) } (.str x t) "str" := typeIs_str _ x t
  have f1 := PySem.F.sub_str_set
  have f2 := PySem.F.sub_str_frozenset
  have f3 : (Value.type "str" == Value.type "dict") = false := by decide
  have z1 : (s.heap.push (fresh w)).objs.size = s.heap.objs.size + 1 := Heap.size_push ..
  unfold Builtin.«set.__init__» noKeywords Builtin.Frozenset.updateFrom
  generalize ePI : pyIter = PI
  wp_walk
  subst ePI
  refine wpAny_pyIter_str fun o St W st => ?_
  refine wpAny_bind (wpAny_runValue ?_)
  refine fill ((W _ (by simp [hh])).toS) s.heap.objs.size (by rw [z1]; simp) _ hsz.symm (by rw [hsz, ← hx]; exact hb) hv (x.cps.size - 0) 0 _ rfl (Nat.zero_le _)
    st ⟨[], at_fresh (Heap.get?_push_of_some _ hS), Nat.le_refl _, fun k => by simp⟩ fun s' m mv hA mem hm => ?_
  show wpAny _ _ _ _ _ _
  refine wpAny_pure ?_
  show wpAny _ _ (ret Value.none) _ _ _
  refine wpAny_pure ⟨rfl, left_of (wr := [_]) rfl ?_ ?k1 ?e1 ?e2 ?e3 mv hA mem (by rw [hsz]; exact hm)⟩
  case k1 => exact fun b o e => Heap.get?_push_of_some _ (Heap.get?_push_of_some _ e)
  case e1 => rfl
  case e2 => rfl
  case e3 => rfl
  intro b q
  rw [List.mem_singleton.mp q]
  show _ ≤ (s.heap.push (fresh w)).objs.size
  rw [z1]
  exact Nat.le_succ _

/-! ### sorted(set) -/
theorem texts_of {es : List (Int × Value)} (el : ElemsOf (strKind P w) es) : ∀ vs : List Value, (∀ v ∈ vs, v ∈ es.map (·.2)) → ∃ ks : List Str, StrsAre vs ks ∧ (∀ k, k ∈ ks ↔ ∃ v ∈ vs, (strKind P w).is k v = true) ∧ ks.length = vs.length
  | [], _ => ⟨[], .nil, fun k => by simp, rfl⟩
  | v :: vs, h => by
    obtain ⟨ks, h1, h2, h3⟩ := texts_of el vs fun u q => h u (List.mem_cons_of_mem _ q)
    obtain ⟨e, he, ev⟩ := List.mem_map.mp (h v List.mem_cons_self)
    obtain ⟨⟨k, hk, _⟩, _⟩ := el e he
    rw [ev] at hk
    obtain ⟨t, rfl⟩ := Value.isStrOf_shape hk
    refine ⟨k :: ks, .cons k t h1, fun j => ?_, by rw [List.length_cons, List.length_cons, h3]⟩
    rw [List.mem_cons, h2 j]
    constructor
    · rintro (q | ⟨u, hu, q⟩)
      · exact ⟨_, List.mem_cons_self, by rw [q]; exact hk⟩
      · exact ⟨u, List.mem_cons_of_mem _ hu, q⟩
    · rintro ⟨u, hu, q⟩
      rcases List.mem_cons.mp hu with z | z
      · rw [z] at q
        exact .inl ((strKind P w).inj _ _ _ q hk)
      · exact .inr ⟨u, z, q⟩
theorem sorted_at {a : Addr} {l : List Str} {Q : Value → Shared → Prop} (R : At P w s.heap a l) (hh : A.handled = none) (h64 : l.length < 64)
    (hQ : ∀ s' p (out : Array Value) (c : Nat) (ys : List Str), (∀ b o, s.heap.get? b = some o → s'.heap.get? b = some o) → s'.gens = s.gens → s'.os = s.os → s.heap.objs.size ≤ p →
      s'.heap.get? p = some (seqObj "list" out c) → StrsAre out.toList ys → ys.Perm l → sortedS ys = true → Q (.ref p) s') :
    wpAny (model P w) A (call (.builtin "sorted") [.ref a]) Q E s := by
  obtain ⟨⟨es, ep, t⟩, ho, ok⟩ := R
  have ft : t.fits es.size = true := ok.tx.fit
  have z : es.size = l.length := ok.tx.sz
  have sb : es.size < scanBound := by
    unfold scanBound
    omega
  refine Calls.call_function_entry kind_sorted plain_sorted entry_sorted (args_sorted1 _) ?_
  unfold Builtin.«sorted»
  refine wpAny_bind (m := checkCount "sorted" 1 1 _) (wpAny_pure ?_)
  refine wpAny_bind (collect_set (A := A.in1) hh ⟨_, ho, rfl, rfl⟩ ft sb ok.up ok.led fun s1 vs k1 hz g1 o1 pm => ?_)
  obtain ⟨ks, hS, mem, hlen⟩ := texts_of ok.tx.el vs fun v hv => pm.mem_iff.mp hv
  have vl : vs.length = l.length := by rw [pm.length_eq, List.length_map, Array.length_toList]; exact z
  have pk : ks.Perm l := perm_of_sub l ks ok.nd (fun k hk => by
    obtain ⟨e, he, q⟩ := (ok.tx.mem k).mp hk
    exact (mem k).mpr ⟨e.2, pm.mem_iff.mpr (List.mem_map.mpr ⟨e, he, rfl⟩), q⟩) (by omega)
  refine wpAny_bind (wpAny_newList ?_ (by rw [vl, sizeLine_eq]; omega))
  have hoL : (s1.heap.push (seqObj "list" vs.toArray 0)).get? s1.heap.objs.size = some (seqObj "list" vs.toArray 0) := Heap.get?_push_size _ rfl
  refine wpAny_bind (wpAny_holding (wpAny_call_entry slot_list_sort ⟨_, hoL, rfl⟩ entry_list_sort
    (list_sort_treeK strKind_oneLt hoL hS.keysOf (fun v₁ v₂ rest e => keyKind_strs (by rw [← e]; exact hS)) (by rw [vl]; exact h64) fun st' hp hs => ?_) (args_list_sort _)))
  obtain ⟨ys, y1, y2, y3⟩ := sorted_out_str hS hp hs
  obtain ⟨c, hc⟩ := sortedHeap_at (vs := vs) (out := Array.map (fun x => x.snd) (arrOf st')) hoL
  refine ⟨_, rfl, wpAny_pure ⟨_, rfl, hQ _ s1.heap.objs.size _ c ys (fun b u e => ?_) g1 o1 hz hc y1 (y2.trans pk) y3⟩⟩
  have q := k1 b u e
  have lt := Heap.lt_size q
  show (sortedHeap (s1.heap.push (seqObj "list" vs.toArray 0)) s1.heap.objs.size vs _).get? b = some u
  rw [sortedHeap_old (Nat.ne_of_lt lt) (by rw [Heap.size_push]; exact Nat.lt_succ_of_lt lt)]
  exact Heap.get?_push_of_some _ q
end

/-! ### over the layer -/
def SetTx (P : Program) (w : World) (a : Addr) (l : List Str) : HO := .ext fun h => At P w h a l
theorem setTx_new {P : Program} {w : World} {H : Hp} {h : Heap} {a : Addr} {l : List Str} (R : At P w h a l) : ObjOk P w H h a (SetTx P w a l) := by
  have ⟨D, hD, _⟩ := R
  exact ⟨R, ⟨_, hD⟩, fun h1 h2 p k => At.move p k⟩
section
variable {X : Cx}
/-- set(xs), xs a list of texts -/
def rSetL (K : PySem.W.Frag) (P : Program) (w : World) : List V → Hp → VK → Prop := fun xs H Q => ∃ (l : Addr) (ss : List Str), xs = [V.ref l] ∧ SqL K H l (ss.map V.str) ∧ ss.length + 1 < scanBound ∧
  ∀ (a : Addr) (ls : List Str), H a = none → ls.Nodup → (∀ k, k ∈ ls ↔ k ∈ ss) → ls.length ≤ ss.length → Q (.ref a) (upd H a (SetTx P w a ls))
theorem At.nd {P : Program} {w : World} {h : Heap} {a : Addr} {l : List Str} (x : At P w h a l) : l.Nodup := by
  obtain ⟨D, _, o⟩ := x
  exact o.nd
theorem cr_setL (hc : X.calm = true) : CallR X (.type "set") (rSetL X.K X.prog X.w) := by
  intro pins s σ H xs us Q I r h
  obtain ⟨l, ss, rfl, hs, hb, q⟩ := h
  obtain ⟨its, rv, hl, _⟩ := I.list hs
  rw [Vals.ref1 r]
  have hn : H s.heap.objs.size = none := I.hok.fresh (Nat.le_refl _)
  refine call_set_of (xs := ss) (fun A' e => init_list (e.trans (I.ok.hd hc)) hl.isList rv.strs hb) fun s' L => ?_
  obtain ⟨h', tk, ls, rfl, hA, mem, hlen, kp⟩ := L
  exact ⟨.ref s.heap.objs.size, upd H s.heap.objs.size (SetTx X.prog X.w s.heap.objs.size ls), I.laid (t' := tk) kp (Nat.le_refl _) (setTx_new hA), rfl, q _ ls hn hA.nd mem hlen⟩
def signs (x : Str) : List Str := x.cps.toList.map fun c => (⟨#[c]⟩ : Str)
/-- set(x), x a text -/
def rSetT (P : Program) (w : World) : List V → Hp → VK → Prop := fun xs H Q => ∃ (x : Str), xs = [V.str x] ∧ x.length + 1 < scanBound ∧
  ∀ (a : Addr) (ls : List Str), H a = none → ls.Nodup → (∀ k, k ∈ ls ↔ k ∈ signs x) → ls.length ≤ x.length → Q (.ref a) (upd H a (SetTx P w a ls))
theorem cr_setT (hc : X.calm = true) : CallR X (.type "set") (rSetT X.prog X.w) := by
  intro pins s σ H xs us Q I r h
  obtain ⟨x, rfl, hb, q⟩ := h
  obtain ⟨t, rfl⟩ : ∃ t, us = [Value.str x t] := by
    cases r with
    | cons r1 r2 =>
      cases r2
      obtain ⟨t, rfl⟩ := r1
      exact ⟨t, rfl⟩
  have hn : H s.heap.objs.size = none := I.hok.fresh (Nat.le_refl _)
  refine call_set_of (xs := x.cps.toList.map fun c => (⟨#[c]⟩ : Str)) (fun A' e => init_text (e.trans (I.ok.hd hc)) hb) fun s' L => ?_
  obtain ⟨h', tk, ls, rfl, hA, mem, hlen, kp⟩ := L
  rw [List.length_map, Array.length_toList] at hlen
  exact ⟨.ref s.heap.objs.size, upd H s.heap.objs.size (SetTx X.prog X.w s.heap.objs.size ls), I.laid (t' := tk) kp (Nat.le_refl _) (setTx_new hA), rfl, q _ ls hn hA.nd mem hlen⟩
/-- sorted(found) of texts, fewer than 64 -/
def rSortTx (P : Program) (w : World) : List V → Hp → VK → Prop := fun vs H Q => ∃ (a : Addr) (l : List Str), vs = [V.ref a] ∧ H a = some (SetTx P w a l) ∧ l.length < 64 ∧
  ∀ (ys : List Str) (p : Addr), ys.Perm l → sortedS ys = true → H p = none → Q (.ref p) (upd H p (.lst (ys.map V.str)))
theorem cr_sortTx (hc : X.calm = true) : CallR X (.builtin "sorted") (rSortTx X.prog X.w) := by
  intro pins s σ H vs us Q I r h
  obtain ⟨a, l, rfl, ha, h64, q⟩ := h
  have R : At X.prog X.w s.heap a l := (I.hok a _ ha).1
  rw [Vals.ref1 r]
  refine sorted_at R (I.ok.hd hc) h64 fun s' p out c ys k g o hp hg hi pm so => ?_
  have hlen : (ys.map V.str).length ≤ sizeLine := by
    rw [List.length_map, pm.length_eq, sizeLine_eq]
    omega
  have hn : H p = none := I.hok.fresh hp
  have J : Inv X pins σ (upd H p (.lst (ys.map V.str))) { s with heap := s'.heap, gens := s'.gens, drawn := s'.drawn, toks := s'.toks } :=
    I.call (ch := []) (Un.laid k hp hn) (I.hok.laid k hp ⟨hlen, out.toList, c, vals_of_strs hi, hg⟩) (by rw [g]; exact I.bare) (fun _ z => nomatch z)
  have e : s' = { s with heap := s'.heap, gens := s'.gens, drawn := s'.drawn, toks := s'.toks } := by
    cases s'
    cases s
    cases o
    rfl
  rw [e]
  exact ⟨.ref p, _, J, rfl, q ys p pm so hn⟩
end
end TX
namespace DW
open PySem PySem.Spec PyProof.Rows L2
def topS (i : Nat) : Stmt := PySem.Challenge.pw_downwords_k14_languages_made.main.body.getD i (.Pass ⟨0, 0, 0, 0⟩)
abbrev sWall : Stmt := topS 0
abbrev sIsAscending : Stmt := topS 8
abbrev sIsAlphabet : Stmt := topS 9
abbrev sIsWord : Stmt := topS 10
abbrev sIsFactor : Stmt := topS 13
abbrev sIsProduct : Stmt := topS 14
abbrev sFormatFactor : Stmt := topS 15
abbrev sFormatProduct : Stmt := topS 16
abbrev sLettersOf : Stmt := topS 17
abbrev sSwallows : Stmt := topS 18
abbrev sCovers : Stmt := topS 19
abbrev sReduceProduct : Stmt := topS 20
abbrev sBehind : Stmt := topS 21
abbrev sPlaceBehind : Stmt := topS 22
abbrev sIsIncluded : Stmt := topS 23
abbrev sSubwordsProduct : Stmt := topS 24
abbrev sIsInside : Stmt := topS 25
abbrev sSizeOfProduct : Stmt := topS 26
abbrev sByWrittenForm : Stmt := topS 27
abbrev sMaximalProducts : Stmt := topS 28
abbrev sFormatProducts : Stmt := topS 32
abbrev sBegin : Stmt := topS 34
abbrev sDraw : Stmt := topS 35
abbrev sPick : Stmt := topS 36
abbrev sAlpha : Stmt := topS 37
abbrev sFactor : Stmt := topS 38
abbrev sProduct : Stmt := topS 39
abbrev sLMade : Stmt := topS 40
abbrev sLaw : Stmt := topS 41
end DW
/-! zip(text, text) -/
namespace ZX
open PySem PySem.Spec PyProof.Rows L2
/-- the signs of two texts, side by side, in new pairs -/
def Itx (x y : Str) : It :=
  ⟨fun i _ => i < x.cps.size ∧ i < y.cps.size,
    fun i H v H' => ∃ (T : Addr) (c d : Nat), v = .ref T ∧ H T = none ∧ H' = upd H T (.tup [.str ⟨#[c]⟩, .str ⟨#[d]⟩]) ∧ x.cps[i]? = some c ∧ y.cps[i]? = some d,
    fun i _ => i = min x.cps.size y.cps.size⟩
theorem turn_zipX {P : Program} {w : World} {K : PySem.W.Frag} {elts : List Expr} {kk : Nat} {tpos : Pos} {x y : Str} {t u : Tok} {z TI TO i1 i2 : Addr} (S : ZipSep2 z TI TO i1 i2 [i1] [i2]) :
    Turn P w K (.Tuple elts kk tpos) (Itx x y) [z, TI, TO, i1, i2] z (fun i h => IsZip h z TI TO .none ∧ IsTupOf2 h TI (.ref i1) (.ref i2) ∧ (∃ a b, IsTupOf2 h TO a b) ∧ h.IsStrIter i1 (strIterType x) x t i ∧ h.IsStrIter i2 (strIterType y) y u i) where
  mem := by simp
  obj := fun i h st c hc => by
    obtain ⟨hz, hTI, ⟨a, b, hTO⟩, ⟨o1, e1, _, d1⟩, ⟨o2, e2, _, d2⟩⟩ := st
    have e' : c = z ∨ c = TI ∨ c = TO ∨ c = i1 ∨ c = i2 := by simpa using hc
    rcases e' with q | q | q | q | q
    · rw [q]; exact ⟨_, hz, fun v q => nomatch q⟩
    · rw [q]; exact ⟨_, hTI, fun v q => nomatch q⟩
    · rw [q]; exact ⟨_, hTO, fun v q => nomatch q⟩
    · rw [q]; exact ⟨o1, e1, fun v q => by rw [d1] at q; cases q⟩
    · rw [q]; exact ⟨o2, e2, fun v q => by rw [d2] at q; cases q⟩
  keep := fun i h h' st k => by
    obtain ⟨hz, hTI, ⟨a, b, hTO⟩, ⟨o1, e1, r1⟩, ⟨o2, e2, r2⟩⟩ := st
    exact ⟨k z (by simp) _ hz, k TI (by simp) _ hTI, ⟨a, b, k TO (by simp) _ hTO⟩, ⟨o1, k i1 (by simp) _ e1, r1⟩, ⟨o2, k i2 (by simp) _ e2, r2⟩⟩
  item := by
    intro X hP hw hK hc i pins s σ H E I hf st hg
    subst hP hw hK
    obtain ⟨hz, hTI, ⟨a0, b0, hTO⟩, h1, h2⟩ := st
    have hzl : z < s.heap.objs.size := Heap.lt_size hz
    refine wpAny_pyNext_zipD2_item S (Draws.text (A := X.A.in1) (I.ok.hd hc) i1 x t) (Draws.text (A := X.A.in1) (I.ok.hd hc) i2 y u) hz hTI hTO h1 h2 hg.1 hg.2 fun v1 v2 h' tk p1 p2 z' TO' h1' h2' hT hsz hk => ?_
    obtain ⟨c, tc, hc1, rfl⟩ := p1
    obtain ⟨d, td, hd1, rfl⟩ := p2
    refine ⟨_, rfl, wpAny_letOwnedTupleGo_zip (s := { s with heap := h', toks := tk }) z' fun h'' z'' sb => ?_⟩
    have hT2 : h''.get? s.heap.objs.size = some { cls := .type "tuple", data := .seq #[.str ⟨#[c]⟩ tc, .str ⟨#[d]⟩ td] } := (sb.2 _ (Nat.ne_of_gt hzl)).trans hT
    have new : ObjOk X.prog X.w (upd H s.heap.objs.size (.tup [.str ⟨#[c]⟩, .str ⟨#[d]⟩])) h'' s.heap.objs.size (.tup [.str ⟨#[c]⟩, .str ⟨#[d]⟩]) :=
      ⟨by show 2 ≤ sizeLine; decide, [.str ⟨#[c]⟩ tc, .str ⟨#[d]⟩ td], .cons ⟨_, rfl⟩ (.cons ⟨_, rfl⟩ .nil), ⟨_, hT2, rfl, _, rfl⟩⟩
    have I1 : Inv X pins σ (upd H s.heap.objs.size (.tup [.str ⟨#[c]⟩, .str ⟨#[d]⟩])) { s with heap := h'', toks := tk } :=
      I.turnedNew (t' := tk) (ch := [z, TI, TO, i1, i2]) (fun c o hb q => (sb.2 c (fun q' => hb (by simp [q']))).trans (hk c o (fun q' => hb (by simp [q'])) (fun q' => hb (by simp [q'])) (fun q' => hb (by simp [q'])) (fun q' => hb (by simp [q'])) q)) hf (Nat.le_refl _) new
    have st' : ∀ {a : Addr} {ty : String} {v : Str} {tv : Tok} {n : Nat}, a ≠ z → h'.IsStrIter a ty v tv n → h''.IsStrIter a ty v tv n := fun n ⟨o, e, r⟩ => ⟨o, (sb.2 _ n).trans e, r⟩
    refine ⟨.ref s.heap.objs.size, _, I1, rfl, ⟨_, c, d, rfl, I.hok.fresh (Nat.le_refl _), rfl, hc1, hd1⟩, ⟨z'', ?_, ⟨.str ⟨#[c]⟩ tc, .str ⟨#[d]⟩ td, ?_⟩, st' S.zi1.symm h1', st' S.zi2.symm h2'⟩, fun b hb => ?_⟩
    · exact (sb.2 _ S.TIz).trans (hk _ _ S.TIz S.TITO S.TIi1 S.TIi2 hTI)
    · exact (sb.2 _ S.TOz).trans TO'
    · have hlt : b < s.heap.objs.size := by
        have e' : b = z ∨ b = TI ∨ b = TO ∨ b = i1 ∨ b = i2 := by simpa using hb
        rcases e' with q | q | q | q | q
        · rw [q]; exact hzl
        · rw [q]; exact Heap.lt_size hTI
        · rw [q]; exact Heap.lt_size hTO
        · rw [q]; obtain ⟨_, e1, _⟩ := h1; exact Heap.lt_size e1
        · rw [q]; obtain ⟨_, e2, _⟩ := h2; exact Heap.lt_size e2
      rw [upd_ne (Nat.ne_of_lt hlt)]
      exact (hf b hb).1
  done := by
    intro X hP hw hK hc i pins s σ H E I hf st hg
    subst hP hw hK
    obtain ⟨hz, hTI, ⟨a0, b0, hTO⟩, h1, h2⟩ := st
    have hg' : i = min x.cps.size y.cps.size := hg
    exact wpAny_pyNext_zipD2_end S (Draws.text (A := X.A.in1) (I.ok.hd hc) i1 x t) (Draws.text (A := X.A.in1) (I.ok.hd hc) i2 y u) hz hTI hTO h1 h2 (by omega) (by omega) (by omega) fun h' tk hk => ⟨rfl, I.turnedL (t' := tk) (ch := [z, TI, TO, i1, i2]) (fun c o hb q =>
      hk c o (fun q' => hb (by simp [q'])) (fun q' => hb (by simp [q'])) (fun q' => hb (by simp [q'])) (fun q' => hb (by simp [q'])) q) hf⟩
  self := fun A i s Q E st h => wpAny_pyIter_zip st.1 h
theorem sep_new (n : Addr) : ZipSep2 (n + 4) (n + 2) (n + 3) n (n + 1) [n] [n + 1] := by
  constructor <;> simp <;> omega
def iZipX (ta : TA) : TI := fun σ H R => ta σ H fun vs H1 => ∃ x y : Str, vs = [.str x, .str y] ∧ R (Itx x y) H1
theorem pi_zipX {X : Cx} {e e2 : Expr} {ta : TA} {p pos tpos : Pos} {elts : List Expr} {kk : Nat} (hg : Gl X "zip") (hm : X.mg "zip" = none) (ha : PA X [e, e2] ta)
    (hs : starEach [e, e2] X.env = (false, eval e X.env) :: starEach [e2] X.env := by rfl) (hpl : (backTo pos (starEach [e2] X.env)).any (·.1) = false := by rfl) :
    PI X (.Tuple elts kk tpos) (.Call (.Name "zip" p) [e, e2] [] pos) (iZipX ta) := by
  refine ⟨fun pins s σ H R I h => ?_⟩
  refine Call_ (ld_blt I hg hm PyProof.Rows.boot_zip (PyProof.Rows.callWith_type1 (thn (ha.run pos pins s σ H _ I h) fun us s1 ⟨vs, H1, I1, r1, q1⟩ => ?_) hs hpl))
  obtain ⟨x, y, ex, q⟩ := q1
  subst ex
  cases r1 with
  | cons r rr =>
    cases rr with
    | cons r' rr =>
      cases rr
      obtain ⟨t, rfl⟩ := r
      obtain ⟨u, rfl⟩ := r'
      refine zip_begins2 (begins_text x t) (begins_text y u) trivial trivial fun h' hz hTI hTO h1 h2 hsz hk => wpAny_pyIter_zip hz ?_
      have I2 : Inv X pins σ H1 { s1 with heap := h' } := I1.kept (t' := s1.toks) hk
      refine ⟨s1.heap.objs.size + 4, [s1.heap.objs.size + 4, s1.heap.objs.size + 2, s1.heap.objs.size + 3, s1.heap.objs.size, s1.heap.objs.size + 1], _, _, H1, rfl, I2, turn_zipX (sep_new s1.heap.objs.size), ⟨hz, hTI, ⟨_, _, hTO⟩, ⟨_, h1, rfl, rfl⟩, ⟨_, h2, rfl, rfl⟩⟩, fun c hcm => ?_, q⟩
      have e' : c = s1.heap.objs.size + 4 ∨ c = s1.heap.objs.size + 2 ∨ c = s1.heap.objs.size + 3 ∨ c = s1.heap.objs.size ∨ c = s1.heap.objs.size + 1 := by simpa using hcm
      have hle : s1.heap.objs.size ≤ c := by
        rcases e' with z | z | z | z | z
        · rw [z]; exact Nat.le_add_right _ _
        · rw [z]; exact Nat.le_add_right _ _
        · rw [z]; exact Nat.le_add_right _ _
        · rw [z]; exact Nat.le_refl _
        · rw [z]; exact Nat.le_add_right _ _
      exact I1.fpOk hle (I1.hok.fresh hle)
theorem walk_zipX {x y : Str} : Walk (Itx x y) (min x.cps.size y.cps.size) (fun _ => True) (Itx x y).yld :=
  ⟨fun i _ hi _ => ⟨by omega, by omega⟩, fun _ _ => rfl, fun _ _ _ _ _ _ y => y⟩
end ZX
/-! list(text); text[::-1] as a text of the same length -/
namespace R1
open PySem PySem.Spec PyProof.Rows L2
theorem texts_in : ∀ l : List Value, (∀ v ∈ l, ∃ z t, v = .str z t) → ∃ ss : List Str, Vals (ss.map V.str) l
  | [], _ => ⟨[], .nil⟩
  | v :: l, h => by
    obtain ⟨ss, r⟩ := texts_in l fun u hu => h u (List.mem_cons_of_mem _ hu)
    obtain ⟨z, t, rfl⟩ := h v List.mem_cons_self
    exact ⟨z :: ss, .cons ⟨t, rfl⟩ r⟩
section
variable {X : Cx}
theorem cr_listT (hc : X.calm = true) : CallR X (.type "list") (fun xs H Q => ∃ x : Str, xs = [.str x] ∧ x.length ≤ sizeLine ∧ ∀ p (ss : List Str), H p = none → Q (.ref p) (upd H p (.lst (ss.map V.str)))) := by
  intro pins s σ H xs us Q I r h
  obtain ⟨x, rfl, hb, q⟩ := h
  obtain ⟨t, rfl⟩ : ∃ t, us = [Value.str x t] := by
    cases r with
    | cons r1 r2 =>
      cases r2
      obtain ⟨t, rfl⟩ := r1
      exact ⟨t, rfl⟩
  refine call_list_str (I.ok.hd hc) x t (hn := hb) fun h' tk acc c hk hS hacc => ?_
  obtain ⟨ss, rv⟩ := texts_in acc.toList fun v hv => by
    obtain ⟨j, hj⟩ := List.getElem?_of_mem hv
    obtain ⟨c, u, _, e⟩ := hacc.2 j v (by simpa using hj)
    exact ⟨_, u, e⟩
  have hl : (ss.map V.str).length ≤ sizeLine := by
    rw [rv.length, Array.length_toList, hacc.1]
    exact hb
  exact ⟨.ref s.heap.objs.size, upd H s.heap.objs.size (.lst (ss.map V.str)), I.laid (t' := tk) hk (Nat.le_refl _) ⟨hl, acc.toList, c, rv, hS⟩, rfl, q _ ss (I.hok.fresh (Nat.le_refl _))⟩
def tRevT (te : TE) : TE := fun σ H Q => te σ H fun x H1 => ∃ z : Str, x = .str z ∧ z.length ≤ sizeLine ∧ ∀ y : Str, y.length ≤ z.length → (∀ c ∈ y.cps.toList, c ∈ z.cps.toList) → Q (.str y) H1
theorem pe_revT {e : Expr} {te : TE} {k : Nat} {p1 p2 p3 pos : Pos} (he : PE X e te) : PE X (.Subscript e (.Slice none none (some (.UnaryOp .USub (.Constant (.int 1) k p1) p2)) p3) pos) (tRevT te) := by
  refine ⟨fun pins s σ H Q I h => ?_⟩
  refine Subscript_ (thn (he.run pins s σ H _ I h) fun v s1 ⟨x, H1, I1, r1, q1⟩ => ?_)
  obtain ⟨z, ex, hz, q⟩ := q1
  subst ex
  obtain ⟨t, rfl⟩ := r1
  have hst : PO X (some (.UnaryOp .USub (.Constant (.int 1) k p1) p2)) (tPart (tUn (rU fun i => .int (-i)) (tC (.int 1)))) := po_some (pe_un un_neg pe_int)
  refine wpAny_Slice (thn (po_none.run pins s1 σ H1 (fun o H2 => o = none ∧ H2 = H1) I1 ⟨rfl, rfl⟩) fun vl s2 ⟨l, H2, I2, pl, el, e2⟩ => ?_)
  subst el e2
  refine thn (po_none.run pins s2 σ H2 (fun o H3 => o = none ∧ H3 = H2) I2 ⟨rfl, rfl⟩) fun vu s3 ⟨u, H3, I3, pu, eu, e3⟩ => ?_
  subst eu e3
  refine thn (hst.run pins s3 σ H3 (fun o H4 => o = some (-1) ∧ H4 = H3) I3 ⟨1, rfl, -1, rfl, rfl, rfl⟩) fun vs s4 ⟨o, H4, I4, ps, eo, e4⟩ => ?_
  subst eo e4
  obtain ⟨l1, rfl, el⟩ := IsPart.raw pl
  obtain ⟨u1, rfl, eu⟩ := IsPart.raw pu
  obtain ⟨st1, rfl, es⟩ := IsPart.raw ps
  have I5 : Inv X pins σ H4 { s4 with heap := s4.heap.push { cls := .type "slice", data := .fields #[partValue l1, partValue u1, partValue st1] } } := I4.kept (t' := s4.toks) fun b ob q => Heap.get?_push_of_some _ q
  show wpAny (model X.prog X.w) X.A (subscriptTail e (.Slice none none (some (.UnaryOp .USub (.Constant (.int 1) k p1) p2)) p3) (.str z t) (.ref s4.heap.objs.size)) (EP X pins σ Q) X.xe { s4 with heap := s4.heap.push { cls := .type "slice", data := .fields #[partValue l1, partValue u1, partValue st1] } }
  refine tail_any (ops := [.str z t, .ref s4.heap.objs.size]) (typeIs_str _ _ _) (F.slot_str_getitem.lookup) ?_ (by with_unfolding_all rfl)
  refine wpAny_getItem_str_slice (l := l1) (u := u1) (st := st1) ⟨_, Heap.get?_push_size _ rfl, rfl, rfl⟩ (by rw [es]; rfl) ?_
  have e0 : sliceMade z t l1 u1 st1 = .str ⟨(((List.range z.length).map fun k => z.length - 1 - k).filterMap (z.cps[·]?)).toArray⟩ := by
    unfold sliceMade slicePicked
    rw [el, eu, es]
    show (if ((-1 : Int) == 1 && _) = true then _ else _) = _
    rw [if_neg (by simp)]
    show Made.str ⟨((sliceRange ((z.length : Int) - 1) (-1) (-1)).filterMap (z.cps[·]?)).toArray⟩ = _
    rw [PySem.W.krv_sliceRange]
  rw [e0]
  have hl : (⟨(((List.range z.length).map fun k => z.length - 1 - k).filterMap (z.cps[·]?)).toArray⟩ : Str).length ≤ z.length := by
    show (((List.range z.length).map fun k => z.length - 1 - k).filterMap (z.cps[·]?)).toArray.size ≤ _
    rw [List.size_toArray]
    refine Nat.le_trans (List.length_filterMap_le _ _) ?_
    rw [List.length_map, List.length_range]
    exact Nat.le_refl _
  have hm : ∀ c ∈ (⟨(((List.range z.length).map fun k => z.length - 1 - k).filterMap (z.cps[·]?)).toArray⟩ : Str).cps.toList, c ∈ z.cps.toList := fun c hc => by
    have hc' : c ∈ ((List.range z.length).map fun k => z.length - 1 - k).filterMap (z.cps[·]?) := by simpa using hc
    obtain ⟨i, _, hi⟩ := List.mem_filterMap.mp hc'
    rw [← Array.getElem?_toList] at hi
    exact List.mem_of_getElem? hi
  exact ⟨Nat.le_trans hl hz, .str _, H4, I5.tok _, ⟨_, rfl⟩, q _ hl hm⟩
end
end R1
/-! text[::-1] -/
namespace R1
open PySem PySem.Spec PyProof.Rows L2
section
variable {X : Cx}
def tRevS (te : TE) : TE := fun σ H Q => te σ H fun x H1 => ∃ z : Str, x = .str z ∧ z.length ≤ sizeLine ∧ Q (.str ⟨z.cps.toList.reverse.toArray⟩) H1
theorem pe_revS {e : Expr} {te : TE} {k : Nat} {p1 p2 p3 pos : Pos} (he : PE X e te) : PE X (.Subscript e (.Slice none none (some (.UnaryOp .USub (.Constant (.int 1) k p1) p2)) p3) pos) (tRevS te) := by
  refine ⟨fun pins s σ H Q I h => ?_⟩
  refine Subscript_ (thn (he.run pins s σ H _ I h) fun v s1 ⟨x, H1, I1, r1, q1⟩ => ?_)
  obtain ⟨z, ex, hz, q⟩ := q1
  subst ex
  obtain ⟨t, rfl⟩ := r1
  have hst : PO X (some (.UnaryOp .USub (.Constant (.int 1) k p1) p2)) (tPart (tUn (rU fun i => .int (-i)) (tC (.int 1)))) := po_some (pe_un un_neg pe_int)
  refine wpAny_Slice (thn (po_none.run pins s1 σ H1 (fun o H2 => o = none ∧ H2 = H1) I1 ⟨rfl, rfl⟩) fun vl s2 ⟨l, H2, I2, pl, el, e2⟩ => ?_)
  subst el e2
  refine thn (po_none.run pins s2 σ H2 (fun o H3 => o = none ∧ H3 = H2) I2 ⟨rfl, rfl⟩) fun vu s3 ⟨u, H3, I3, pu, eu, e3⟩ => ?_
  subst eu e3
  refine thn (hst.run pins s3 σ H3 (fun o H4 => o = some (-1) ∧ H4 = H3) I3 ⟨1, rfl, -1, rfl, rfl, rfl⟩) fun vs s4 ⟨o, H4, I4, ps, eo, e4⟩ => ?_
  subst eo e4
  obtain ⟨l1, rfl, el⟩ := IsPart.raw pl
  obtain ⟨u1, rfl, eu⟩ := IsPart.raw pu
  obtain ⟨st1, rfl, es⟩ := IsPart.raw ps
  have I5 : Inv X pins σ H4 { s4 with heap := s4.heap.push { cls := .type "slice", data := .fields #[partValue l1, partValue u1, partValue st1] } } := I4.kept (t' := s4.toks) fun b ob q => Heap.get?_push_of_some _ q
  show wpAny (model X.prog X.w) X.A (subscriptTail e (.Slice none none (some (.UnaryOp .USub (.Constant (.int 1) k p1) p2)) p3) (.str z t) (.ref s4.heap.objs.size)) (EP X pins σ Q) X.xe { s4 with heap := s4.heap.push { cls := .type "slice", data := .fields #[partValue l1, partValue u1, partValue st1] } }
  refine tail_any (ops := [.str z t, .ref s4.heap.objs.size]) (typeIs_str _ _ _) (F.slot_str_getitem.lookup) ?_ (by with_unfolding_all rfl)
  refine wpAny_getItem_str_slice (l := l1) (u := u1) (st := st1) ⟨_, Heap.get?_push_size _ rfl, rfl, rfl⟩ (by rw [es]; rfl) ?_
  have e0 : sliceMade z t l1 u1 st1 = .str ⟨(((List.range z.length).map fun k => z.length - 1 - k).filterMap (z.cps[·]?)).toArray⟩ := by
    unfold sliceMade slicePicked
    rw [el, eu, es]
    show (if ((-1 : Int) == 1 && _) = true then _ else _) = _
    rw [if_neg (by simp)]
    show Made.str ⟨((sliceRange ((z.length : Int) - 1) (-1) (-1)).filterMap (z.cps[·]?)).toArray⟩ = _
    rw [PySem.W.krv_sliceRange]
  rw [e0]
  have er : (⟨(((List.range z.length).map fun k => z.length - 1 - k).filterMap (z.cps[·]?)).toArray⟩ : Str) = ⟨z.cps.toList.reverse.toArray⟩ := by
    have e1 : ((List.range z.length).map fun k => z.length - 1 - k).filterMap (z.cps[·]?) = z.cps.toList.reverse := by
      rw [PySem.W.krv_range, List.filterMap_reverse]
      show ((List.range z.cps.size).filterMap (z.cps[·]?)).reverse = _
      rw [PySem.W.krv_all]
    rw [e1]
  rw [er]
  have hl : (⟨z.cps.toList.reverse.toArray⟩ : Str).length ≤ z.length := by
    show z.cps.toList.reverse.toArray.size ≤ z.cps.size
    rw [List.size_toArray, List.length_reverse, Array.length_toList]
    exact Nat.le_refl _
  exact ⟨Nat.le_trans hl hz, .str _, H4, I5.tok _, ⟨_, rfl⟩, q⟩
end
end R1
/-! enumerate(tuple) -/
namespace EN
open PySem PySem.Spec PyProof.Rows L2
theorem meets_new1 {v : Value} {o : Obj} {H : Heap → Prop} (B : Begins v o H) :
    Meets (Builtin.«enumerate.__new__» ⟨[.type "enumerate", v], []⟩) (fun _ R s => H s.heap ∧
      R (.ok (.ret (.ref (s.heap.push o).objs.size))) { s with heap := (s.heap.push o).push { cls := .type "enumerate", data := .fields #[.none, .bool false, .ref s.heap.objs.size, rawInt 0, .none, .none] } }) :=
  .of_wp fun prog w A R s h => by
    obtain ⟨hp, g, d, tk, os⟩ := s
    obtain ⟨h1, h⟩ := h
    have hsub := sub_enumerate
    have q1 : ∀ {A' : Around} {E : Value → Shared → Prop} {Q : Value → Shared → Prop}, Q (.ref hp.objs.size) ⟨hp.push o, g, d, tk, os⟩ → wpAny (model prog w) A' (pyIter v) Q E ⟨hp, g, d, tk, os⟩ :=
      fun q => B.iter prog w _ _ ⟨hp, g, d, tk, os⟩ _ h1 q
    wp_walk using q1
    refine wpAny_stack_any fun st => wpAny_pure ?_
    split
    · rename_i c _ _ _ _ _
      cases (c == Value.type "enumerate")
      · wp_walk using q1
        exact ⟨_, rfl, h⟩
      · wp_walk using q1
        exact ⟨_, rfl, h⟩
    · wp_walk using q1
      exact ⟨_, rfl, h⟩
section
variable {prog : Program} {w : World} {A : Around} {E : Value → Shared → Prop} {s : Shared}
theorem begins1 {v : Value} {o : Obj} {H : Heap → Prop} {Q : Value → Shared → Prop} (B : Begins v o H) (h1 : H s.heap)
    (h : ∀ h', IsEnum h' (s.heap.objs.size + 1) s.heap.objs.size 0 .none → h'.get? s.heap.objs.size = some o → h'.objs.size = s.heap.objs.size + 2 →
      (∀ b o, s.heap.get? b = some o → h'.get? b = some o) → Q (.ref (s.heap.objs.size + 1)) { s with heap := h' }) :
    wpAny (model prog w) A (call (.type "enumerate") [v]) Q E s := by
  refine callType_new F.called_enumerate (by decide) (F.typeCall_enumerate_1 _) (F.newCall_enumerate_1 _) (fun obj => F.args_object_init_2 obj _) F.entry_enumerate_new
    (meets_new1 B) ⟨h1, ?_⟩
  have hz : (s.heap.push o).objs.size = s.heap.objs.size + 1 := Heap.size_push ..
  show _ ∧ _
  rw [hz]
  have he : IsEnum ((s.heap.push o).push { cls := .type "enumerate", data := .fields #[.none, .bool false, .ref s.heap.objs.size, rawInt 0, .none, .none] }) (s.heap.objs.size + 1) s.heap.objs.size 0 .none := by
    have := Heap.get?_push_size (s.heap.push o) (o := { cls := .type "enumerate", data := .fields #[.none, .bool false, .ref s.heap.objs.size, rawInt 0, .none, .none] }) rfl
    rw [hz] at this
    exact this
  exact ⟨⟨_, he, rfl⟩, h _ he (Heap.get?_push_of_some _ (Heap.get?_push_size _ B.free)) (by rw [Heap.size_push, hz]) fun b o x => Heap.get?_push_of_some _ (Heap.get?_push_of_some _ x)⟩
end
/-- the tuple at a, its items with their places in new pairs -/
def ItT (K : PySem.W.Frag) (a : Addr) : It :=
  ⟨fun i H => ∃ (xs : List V) (x : V), SqT K H a xs ∧ xs[i]? = some x, fun i H v H' => ∃ T x, v = .ref T ∧ H T = none ∧ H' = upd H T (.tup [.int (i : Nat), x]) ∧ ∀ xs, SqT K H a xs → xs[i]? = some x, fun i H => ∃ xs : List V, SqT K H a xs ∧ xs.length = i⟩
theorem ne_iter {h : Heap} {it a : Addr} {i : Nat} {its : Array Value} (h1 : h.IsTupleIter it a i) (h2 : h.IsTuple a its) : a ≠ it := fun e => by
  subst e
  obtain ⟨o, ho, hc, _⟩ := h1
  obtain ⟨o', ho', hc', _⟩ := h2
  rw [ho] at ho'
  cases ho'
  rw [hc] at hc'
  injection hc' with q
  exact absurd q (by decide)
theorem turn_T {P : Program} {w : World} {K : PySem.W.Frag} {elts : List Expr} {kk : Nat} {tpos : Pos} (a e it : Addr) (nea : e ≠ a) :
    Turn P w K (.Tuple elts kk tpos) (ItT K a) [e, it] e (fun i h => (∃ old, IsEnum h e it ((i : Nat) : Int) old) ∧ h.IsTupleIter it a i ∧ e ≠ it) where
  mem := by simp
  obj := fun i h st b hb => by
    obtain ⟨⟨old, he⟩, ⟨o, ho, hc, hd⟩, _⟩ := st
    have e' : b = e ∨ b = it := by simpa using hb
    rcases e' with z | z
    · rw [z]; exact ⟨_, he, fun v q => nomatch q⟩
    · rw [z]; exact ⟨o, ho, fun v q => by rw [hd] at q; cases q⟩
  keep := fun i h h' st k => let ⟨⟨old, he⟩, hi, hne⟩ := st; ⟨⟨old, k e (by simp) _ he⟩, hi.at fun o q => k it (by simp) o q, hne⟩
  item := by
    intro X hP hw hK hc i pins s σ H E I hf st hg
    subst hP hw hK
    obtain ⟨⟨old, he⟩, hit, hne⟩ := st
    obtain ⟨xs, x, hq, hx⟩ := hg
    obtain ⟨its, rv, p, hz⟩ := I.tuple hq
    obtain ⟨u, hu, ru⟩ := rv.get hx
    have hel : e < s.heap.objs.size := Heap.lt_size he
    have hil : it < s.heap.objs.size := by obtain ⟨_, q, _⟩ := hit; exact Heap.lt_size q
    have p' : s.heap.IsTuple a its.toArray := p
    have lt : i < its.toArray.size := by
      rw [List.size_toArray]
      exact (List.getElem?_eq_some_iff.mp hu).1
    refine wpAny_pyNext_enum_itemD (Draws.tuple (A := X.A.in1) (I.ok.hd hc) it a (ne_iter hit p') its.toArray) he ⟨hit, p'⟩ lt hne (by simp [hne, nea]) fun x' h' tk px ho st' hT hsz hk => ?_
    have ex : x' = u := by
      rw [List.getElem?_toArray, hu] at px
      exact (Option.some.inj px).symm
    subst ex
    refine ⟨_, rfl, wpAny_letOwnedTupleGo_enum (s := { s with heap := h', toks := tk + 1 }) ho fun h'' he' sb => ?_⟩
    have hT2 : h''.get? s.heap.objs.size = some { cls := .type "tuple", data := .seq #[.int i tk, x'] } := (sb.2 _ (Nat.ne_of_gt hel)).trans hT
    have new : ObjOk X.prog X.w (upd H s.heap.objs.size (.tup [.int (i : Nat), x])) h'' s.heap.objs.size (.tup [.int (i : Nat), x]) :=
      ⟨by show 2 ≤ sizeLine; decide, [.int i tk, x'], .cons ⟨_, rfl⟩ (.cons ru .nil), ⟨_, hT2, rfl, _, rfl⟩⟩
    have I1 : Inv X pins σ (upd H s.heap.objs.size (.tup [.int (i : Nat), x])) { s with heap := h'', toks := tk + 1 } :=
      I.turnedNew (ch := [e, it]) (fun b ob hb q => (sb.2 b (fun z => hb (by simp [z]))).trans (hk b ob (fun z => hb (by simp [z])) (fun z => hb (by simp [z])) q)) hf (Nat.le_refl _) new
    refine ⟨.ref s.heap.objs.size, _, I1, rfl, ⟨_, x, rfl, I.hok.fresh (Nat.le_refl _), rfl, fun ys hy => by rw [I.tuple_inj hy hq]; exact hx⟩, ⟨⟨x', ?_⟩, st'.1.at fun o q => (sb.2 it (Ne.symm hne)).trans q, hne⟩, fun b hb => ?_⟩
    · have e1 : ((i + 1 : Nat) : Int) = (i : Int) + 1 := by omega
      rw [e1]
      exact he'
    · have hb' : b < s.heap.objs.size := by
        have e' : b = e ∨ b = it := by simpa using hb
        rcases e' with z | z
        · rw [z]; exact hel
        · rw [z]; exact hil
      rw [upd_ne (Nat.ne_of_lt hb')]
      exact (hf b hb).1
  done := by
    intro X hP hw hK hc i pins s σ H E I hf st hg
    subst hP hw hK
    obtain ⟨⟨old, he⟩, hit, hne⟩ := st
    obtain ⟨xs, hq, hx⟩ := hg
    obtain ⟨its, rv, p, hz⟩ := I.tuple hq
    have p' : s.heap.IsTuple a its.toArray := p
    obtain ⟨f0, f1, f2, f3, f4, f5⟩ := hf it (by simp)
    have hl := rv.length
    have ei : i = its.toArray.size := by rw [List.size_toArray]; omega
    exact wpAny_pyNext_enum_endD (Draws.tuple (A := X.A.in1) (I.ok.hd hc) it a (ne_iter hit p') its.toArray) he (by rw [← ei]; exact ⟨hit, p'⟩) fun h' eb => ⟨rfl, I.turned (t' := s.toks) (fun b o hb q => eb b o hb q) f0 f1 f3 f4 f5⟩
  self := fun A i s Q E st h => let ⟨⟨_, he⟩, _⟩ := st; wpAny_pyIter_enum he h
def iEnT (K : PySem.W.Frag) (ta : TA) : TI := fun σ H R => ta σ H fun vs H1 => ∃ a xs, vs = [.ref a] ∧ SqT K H1 a xs ∧ R (ItT K a) H1
theorem pi_enT {X : Cx} {e : Expr} {ta : TA} {p pos tpos : Pos} {elts : List Expr} {kk : Nat} (hg : Gl X "enumerate") (hm : X.mg "enumerate" = none) (ha : PA X [e] ta) (hs : starEach [e] X.env = [(false, eval e X.env)] := by rfl) :
    PI X (.Tuple elts kk tpos) (.Call (.Name "enumerate" p) [e] [] pos) (iEnT X.K ta) := by
  refine ⟨fun pins s σ H R I h => ?_⟩
  refine Call_ (ld_blt I hg hm boot_enumerate (PyProof.Rows.callWith_type1 (thn (ha.run pos pins s σ H _ I h) fun us s1 ⟨vs, H1, I1, r1, q1⟩ => ?_) hs rfl))
  obtain ⟨a, xs, ex, hq, q⟩ := q1
  subst ex
  cases r1 with
  | cons r rr =>
    cases rr
    cases r
    obtain ⟨its, rv, p', hz⟩ := I1.tuple hq
    have p2 : s1.heap.IsTuple a its.toArray := p'
    have al : a < s1.heap.objs.size := by
      obtain ⟨_, h0, _⟩ := p2
      exact Heap.lt_size h0
    refine begins1 (begins_tuple a its.toArray) p2 fun h' he hit hsz hk => wpAny_pyIter_enum he ?_
    have I2 : Inv X pins σ H1 { s1 with heap := h' } := I1.kept (t' := s1.toks) hk
    refine ⟨s1.heap.objs.size + 1, [s1.heap.objs.size + 1, s1.heap.objs.size], _, _, H1, rfl, I2, turn_T a (s1.heap.objs.size + 1) s1.heap.objs.size (fun z => absurd (z ▸ al) (Nat.not_lt.mpr (Nat.le_succ _))), ⟨⟨.none, he⟩, ⟨_, hit, rfl, rfl⟩, Nat.succ_ne_self _⟩, fun b hb => ?_, q⟩
    have e' : b = s1.heap.objs.size + 1 ∨ b = s1.heap.objs.size := by simpa using hb
    have hle : s1.heap.objs.size ≤ b := by
      rcases e' with z | z
      · rw [z]; exact Nat.le_add_right _ _
      · rw [z]; exact Nat.le_refl _
    exact I1.fpOk hle (I1.hok.fresh hle)
theorem walk_T {K : PySem.W.Frag} {a : Addr} {xs : List V} : Walk (ItT K a) xs.length (fun H => SqT K H a xs) (YPair (fun i => some (.int (i : Nat))) (fun i => xs[i]?)) := by
  refine ⟨fun i _ hi q => ⟨xs, xs[i], q, by simp [hi]⟩, fun _ q => ⟨xs, q, rfl⟩, fun i H v H' _ q y => ?_⟩
  obtain ⟨T, x, h1, h2, h3, h4⟩ := y
  exact ⟨T, .int (i : Nat), x, h1, h2, h3, rfl, h4 xs q⟩
end EN
/-! own classes: ==, != by an own __eq__; str() by an own __str__ -/
namespace OQ
open PySem PySem.Spec PyProof.Rows L2
set_option autoImplicit false
section
open PySem.W PySem.Calls
variable {prog : Program} {w : World} {A : Around} {E : Value → Shared → Prop} {s : Shared} {K : Frag} {x C f : Addr} {ox : Obj} {od : Option Obj} {b tb : Value}
theorem slot_ne : Slot "object" "__ne__" "object.__ne__" :=
  .of (owner := "object") (n := "__ne__") (by rw [typeLookup_type, builtinLookup_eq_fast]; kernel_rfl) (by decide +kernel) (by decide +kernel) (by decide +kernel)
    (by first | exact .inl (by decide +kernel) | exact .inr (by decide +kernel)) (by rw [isSubtype_type]; kernel_rfl)
theorem ifBound_B {M : Model} {name : Str} {id : String} {args : List Value} {Q : Option Value → Shared → Prop} (X : K.In s.heap) (I : InstAt s.heap x ox C od) (hs : findIn K (.ref C) name = some (some (.builtin id)))
    (hb : ∀ self, bindSpecial (.builtin id) self = pure (.builtin id, [self])) (h : wpAny M A (call (.builtin id) (.ref x :: args)) (fun v => Q (some v)) E s) : wpAny M A (callSpecialIfBound? (.ref x) name args) Q E s := by
  simp only [callSpecialIfBound?, bindSpecialIfBound?]
  refine wpAny_holding (wpAny_bind (wpAny_bind (wpAny_bind (I.type.here ((looks_findIn X hs).here ?_)))))
  refine wpAny_bind (wpAny_askSetting (wpAny_ite ?_))
  have fin : wpAny M A (call (.builtin id) ([.ref x] ++ args) >>= fun v => pure (some v)) Q E s := wpAny_bind (wpAny_mono h (fun v s' h' => wpAny_pure h') fun _ _ h' => h')
  split
  · exact wpAny_bind ((Looks.of_pure (hb _)).here (wpAny_pure (by exact fin)))
  · exact wpAny_tryCatch (wpAny_bind ((Looks.of_pure (hb _)).here (wpAny_pure (by exact fin))))
theorem ne_entry (hu : A.units < cLine) (X : K.In s.heap) (I : InstAt s.heap x ox C od) (hs : findIn K (.ref C) "__eq__" = some (some (.ref f))) (hf : isFn K (.ref f) = true) {Q : Fin → Shared → Prop}
    (hcall : wpAny (model prog w) A (call (.ref f) [.ref x, b]) (fun v s' => ∃ r, v = .bool r ∧ Q (.done (.ret (.bool (!r)))) s') E s) :
    wpAny (model prog w) A (Builtin.«object.__ne__» ⟨[.ref x, b], []⟩) Q E s := by
  unfold Builtin.«object.__ne__»
  refine wpAny_bind (wpAny_of_eq (a := ((Value.ref x : Value), [b])) (by first | rfl | (simp only [Builtin.slotArgs]; rfl)) ?_)
  refine wpAny_bind (m := cRoomFor _ _) (wpAny_cRoomFor hu ?_)
  refine wpAny_bind (m := callSpecialIfBound? (.ref x) (Str.ofString "__eq__") [b]) (ifBound_K X I hs hf (wpAny_mono hcall (fun v s' hv => ?_) fun _ _ e => e))
  obtain ⟨r, rfl, q⟩ := hv
  exact wpAny_bind (m := truthy (.bool r)) (wpAny_truthy_bool (wpAny_pure q))
theorem rc_ne {Q : Value → Shared → Prop} (hu : A.units + 1 < cLine) (X : K.In s.heap) (I : InstAt s.heap x ox C od) (hb : Looks (model prog w) s.heap (typeOf b) tb) (hn : notFirst K C tb = true)
    (hne : findIn K (.ref C) "__ne__" = some (some (.builtin "object.__ne__"))) (hm : mroIn K C (.type "object") = some true) (hs : findIn K (.ref C) "__eq__" = some (some (.ref f))) (hf : isFn K (.ref f) = true)
    (h : wpAny (model prog w) A.in1 (call (.ref f) [.ref x, b]) (fun v s' => ∃ r, v = .bool r ∧ Q (.bool (!r)) s') E s) : wpAny (model prog w) A (richCompare .NotEq (.ref x) b) Q E s := by
  have one : wpAny (model prog w) A (tryCompare (.ref x) "__ne__" b) (fun r s' => ∃ v, r = some v ∧ Q v s') E s := by
    unfold tryCompare
    have sub : Looks (model prog w) s.heap (isInstance (.ref x) (.type "object")) true := I.type.andThen (looks_mroIn X hm)
    refine wpAny_bind (ifBound_B X I hne slot_ne.bind (wpAny_call (codeAny_call_builtin slot_ne.plain F.cmpEntry_ne (check_slot F.cmpKind_ne F.cmpSplit_ne sub (F.cmpArgs_ne _ _) ?_))))
    refine ne_entry (by show A.units + 1 < cLine; exact hu) X I hs hf (wpAny_mono h (fun v s' hv => ?_) fun _ _ e => e)
    obtain ⟨r, rfl, q⟩ := hv
    exact ⟨r, rfl, wpAny_pure ⟨_, rfl, q⟩⟩
  unfold richCompare
  simp only [oneThing_ref]
  refine wpAny_holding (wpAny_bind (wpAny_cRoomFor (Nat.lt_of_succ_lt hu) ?_))
  refine wpAny_bind (I.type.here (wpAny_bind (hb.here ?_)))
  split
  · rename_i q
    have e : subIn K tb (.ref C) = some false := by
      rcases Bool.or_eq_true_iff.mp hn with e | e
      · rw [beq_iff_eq.mp e] at q; simp at q
      · exact beq_iff_eq.mp e
    refine wpAny_bind ((looks_subIn X e).here ?_)
    simp only [Bool.false_eq_true, if_false]
    refine wpAny_bind (wpAny_mono one (fun r s' z => ?_) fun _ _ e => e)
    obtain ⟨v, rfl, hq⟩ := z
    exact wpAny_pure hq
  · refine wpAny_bind (wpAny_pure ?_)
    simp only [Bool.false_eq_true, if_false]
    refine wpAny_bind (wpAny_mono one (fun r s' z => ?_) fun _ _ e => e)
    obtain ⟨v, rfl, hq⟩ := z
    exact wpAny_pure hq
end
/-! ### rules -/
section
variable {X : Cx} {CX : CXT} {C f : Addr} {fd : FuncData} {ps : List Str} {sp : Sp} {E : XK} {k : Nat}
theorem env_in {pins : List (Addr × Obj)} {σ : L2.St} {H : Hp} {s : Shared} {A : Around} (I : Inv X pins σ H s) (h : A.frames = X.A.frames) : Env0 X.prog X.w X.K X.mg X.base A X.stack s H := by
  have e := I.env0
  exact ⟨by rw [h]; exact e.frames, e.mod, e.bs, e.bsz, e.funs, e.frf, e.hok, e.bare⟩
/-- x == y by the class's own __eq__ -/
def rOEq (K : PySem.W.Frag) (C : Addr) (sp : Sp) (E : XK) : R2 := fun x y H Q => ∃ (a dx : Addr) (fs : List (Str × V)) (tb : Value), x = .ref a ∧ H a = some (.ins C dx fs) ∧ TyX K H y tb ∧ PySem.W.notFirst K C tb = true ∧ sp [.ref a, y] H (fun v H' => ∃ b, v = .bl b ∧ Q (.bl b) H') E
def rONe (K : PySem.W.Frag) (C : Addr) (sp : Sp) (E : XK) : R2 := fun x y H Q => ∃ (a dx : Addr) (fs : List (Str × V)) (tb : Value), x = .ref a ∧ H a = some (.ins C dx fs) ∧ TyX K H y tb ∧ PySem.W.notFirst K C tb = true ∧ sp [.ref a, y] H (fun v H' => ∃ b, v = .bl b ∧ Q (.bl (!b)) H') E
theorem run_two {pins : List (Addr × Obj)} {σ : L2.St} {H : Hp} {s : Shared} {A : Around} {Q : VK} {us : List Value} {vs : List V} (F : FnOk X.prog X.w X.K X.mg X.base CX k f fd ps sp) (hr : Room k A) (hA : A.frames = X.A.frames) (hb : Binds X.K fd ps []) (hx : Passes CX X E)
    (I : Inv X pins σ H s) (r : Vals vs us) (h : sp vs H Q E) : wpAny (model X.prog X.w) A (call (.ref f) us) (EP X pins σ Q) X.xe s := by
  have hl : us.length = ps.length := by rw [← r.length]; exact F.len _ _ _ _ h
  have b := hb s us I.kIn (by rw [List.append_nil]; exact hl)
  rw [List.append_nil] at b
  refine wpAny_call (codeAny_mono (F.run A X.stack s H ⟨us, []⟩ us vs Q E hr (env_in I hA) b r h) fun r s' hq => ?_)
  cases r with
  | error e => exact hx pins σ H s e s' I hq
  | ok fl =>
    cases fl with
    | ret u => exact I.after hq
    | next => exact False.elim hq
    | brk => exact False.elim hq
    | cont => exact False.elim hq
theorem op_oeq (F : FnOk X.prog X.w X.K X.mg X.base CX k f fd ps sp) (hs : Meth X.K C "__eq__" f) (hb : Binds X.K fd ps []) (hx : Passes CX X E) (hr : Room k X.A) : OpR X (compareOp .Eq) (rOEq X.K C sp E) := by
  intro pins s σ H x y v u Q I rx ry hq
  obtain ⟨a, dx, fs, tb, rfl, ha, ty, hn, h⟩ := hq
  cases rx
  obtain ⟨mA, J, _⟩ := ins_get I.hok ha
  obtain ⟨od, J, _⟩ := J.look
  obtain ⟨P0, kx, hp, _⟩ := kit_of I ry ty
  obtain ⟨m, hF⟩ := I.fr
  show wpAny (model X.prog X.w) X.A (richCompare .Eq (.ref a) u) (EP X pins σ Q) X.xe s
  refine PySem.W.cmp_K (op := .Eq) hr.units0 hF I.ok.mod.kin J (kx.ty _ _ I.kIn hp) hn hs.at_ hs.fn ?_
  refine thn (run_two F hr rfl hb hx I (vs := [.ref a, y]) (us := [.ref a, u]) (.cons rfl (.cons ry .nil)) h) fun v s1 hv => ?_
  obtain ⟨z, H1, I1, rz, b, rfl, q⟩ := hv
  cases rz
  exact ⟨.bl b, H1, I1, rfl, q⟩
theorem op_one (F : FnOk X.prog X.w X.K X.mg X.base CX k f fd ps sp) (hs : Meth X.K C "__eq__" f) (hne : PySem.W.findIn X.K (.ref C) "__ne__" = some (some (.builtin "object.__ne__"))) (hm : PySem.W.mroIn X.K C (.type "object") = some true) (hb : Binds X.K fd ps []) (hx : Passes CX X E) (hr : Room (k + 1) X.A) : OpR X (compareOp .NotEq) (rONe X.K C sp E) := by
  intro pins s σ H x y v u Q I rx ry hq
  obtain ⟨a, dx, fs, tb, rfl, ha, ty, hn, h⟩ := hq
  cases rx
  obtain ⟨mA, J, _⟩ := ins_get I.hok ha
  obtain ⟨od, J, _⟩ := J.look
  obtain ⟨P0, kx, hp, _⟩ := kit_of I ry ty
  show wpAny (model X.prog X.w) X.A (richCompare .NotEq (.ref a) u) (EP X pins σ Q) X.xe s
  refine rc_ne (by have := hr.un; omega) I.kIn J (kx.ty _ _ I.kIn hp) hn hne hm hs.at_ hs.fn ?_
  refine thn (run_two F hr.in1 rfl hb hx I (vs := [.ref a, y]) (us := [.ref a, u]) (.cons rfl (.cons ry .nil)) h) fun v s1 hv => ?_
  obtain ⟨z, H1, I1, rz, b, rfl, q⟩ := hv
  cases rz
  exact ⟨b, rfl, .bl (!b), H1, I1, rfl, q⟩
/-- str(x) by the class's own __str__ -/
def rStrO (C : Addr) (sp : Sp) (E : XK) : List V → Hp → VK → Prop := fun xs H Q => ∃ (a dx : Addr) (fs : List (Str × V)), xs = [.ref a] ∧ H a = some (.ins C dx fs) ∧ sp [.ref a] H (fun v H' => ∃ y : Str, v = .str y ∧ Q (.str y) H') E
theorem call_strO (F : FnOk X.prog X.w X.K X.mg X.base CX k f fd ps sp) (hs : Meth X.K C "__str__" f) (hb : Binds X.K fd ps []) (hx : Passes CX X E) (hr : Room (k + 2) X.A) : CallR X (.type "str") (rStrO C sp E) := by
  intro pins s σ H xs us Q I r h
  obtain ⟨a, dx, fs, rfl, ha, h⟩ := h
  cases r with
  | cons ra rr =>
    cases rr
    cases ra
    obtain ⟨mA, J, _⟩ := ins_get I.hok ha
    obtain ⟨od, J, _⟩ := J.look
    refine PySem.W.kso_call (hr.in1.in1).units0 I.kIn J hs.at_ hs.fn ?_
    refine thn (run_two F hr.in1.in1 rfl hb hx I (vs := [.ref a]) (us := [.ref a]) (.cons rfl .nil) h) fun v s1 hv => ?_
    obtain ⟨z, H1, I1, rz, y, rfl, q⟩ := hv
    obtain ⟨t, rfl⟩ := rz
    exact ⟨.str y, H1, I1, ⟨t, rfl⟩, q⟩
end
end OQ
/-! an own error whose __init__ begins with super().__init__(..) -/
namespace EX
open PySem PySem.Spec PyProof.Rows L2 NdefX
set_option autoImplicit false
/-- what the written part says of the class, its __init__ and the cell of its class -/
structure SupC (P : Program) (K : PySem.W.Frag) (C fI cc : Addr) (F : NF) : Prop where
  oex : OexC K C
  cl : F.cl = [(("__class__" : Str), cc)]
  cd : PySem.W.codeIn K (.ref F.c) F.qual = true
  code : ∃ (ccl : Value) (cdd : Option Addr) (vs : Array Value) (ccs : Array (Option Value)) (file : Str) (tf : Tok), K.lookup F.c = some (⟨ccl, cdd, .fields vs, ccs⟩ : Obj) ∧ vs[2]? = some (Value.str file tf) ∧ ((P.main.file : Str) == file) = true
  cell : ∃ (cl : Value) (cld : Option Addr) (csl : Array (Option Value)), K.lookup cc = some (⟨cl, cld, .cell (some (.ref C)), csl⟩ : Obj)
  top : (P.main.scope.names.lookup ("super" : Str)).isSome = false
  opq : PySem.W.nsIn K cStatics "thirdparty.any" = some none
  ini : PySem.W.ks_superIn K C C "__init__" = some (some (.builtin "ValueError.__init__"))
  ve : PySem.W.subIn K (.ref C) (.type "ValueError") = some true
  own : PySem.W.mroIn K C (.ref C) = some true
section
variable {X : Cx} {pins : List (Addr × Obj)} {σ : L2.St} {H : Hp} {s : Shared}
/-- the bound __init__ is called -/
theorem call_mw {A : Around} {E : Value → Shared → Prop} {a C u : Addr} {us : List Value} {Q : Value → Shared → Prop} (T : OexC X.K C) (I : Inv X pins σ H s) (e : H a = some (exo a C none)) (hu : s.heap.get? u = some (PySem.W.kxs_mw "ValueError.__init__" a)) (hl : us.length ≤ sizeLine) (h : ∀ s', Inv X pins σ H s' → Q .none s') :
    wpAny (model X.prog X.w) A (call (.ref u) us) Q E s := by
  obtain ⟨nm, q, N, bs, bm, sn, sub, ab, col, dd, k0, k1, k2, k3, k5, hC, hbm⟩ := T.cls
  have hC' := I.kIn _ _ hC
  obtain ⟨t1, ho⟩ := exo_at I.hok e
  obtain ⟨hp, g, d, t, os⟩ := s
  refine wpAny_call (codeAny_of_tree ?_)
  show wpAny _ A.in1 (callAny (.ref u) ⟨us, []⟩) _ _ _
  simp only [callAny]
  refine wpAny_bind (wpAny_load hu ?_)
  simp only [PySem.W.kxs_mw, show (Value.type "method-wrapper" == Value.type "method" || Value.type "method-wrapper" == Value.type "builtin_function_or_method" || Value.type "method-wrapper" == Value.type "method-wrapper") = true by decide, if_true]
  refine PySem.W.KFB.if_so (by decide) ?_
  refine wpAny_bind (PySem.W.check_bound_init F.excBase_ValueError.toExcCallFacts hC' ho rfl ?_)
  refine wpAny_bind (wpAny_pure (wpAny_pure ?_))
  refine ⟨plainId_quiet F.excBase_ValueError.init.plain _, codeAny_builtin F.excBase_ValueError.initEntry ?_⟩
  refine PySem.W.exc_init_tree (cls := .ref C) (t0 := t1) (dv := none) (c2 := .none) (c3 := .none) (b4 := .bool false) ho hl fun h' k hx _ => ?_
  have J := I.write (t' := t) (x := a) (e := a) (o := exo a C none) (by rw [e]; exact True.intro) (.inl rfl) k ⟨_, hx⟩ (exo_ok hx)
  have eu : upd H a (exo a C none) = H := by
    funext b
    by_cases hb : b = a
    · rw [hb, upd_same, e]
    · rw [upd_ne hb]
  rw [eu] at J
  exact h _ J
/-- THE RULE: an __init__ of an own error, its first statement super().__init__(msg) -/
theorem sup_ok {CX : CXT} {P : Program} {w : World} {K : PySem.W.Frag} {mg : Str → Option Value} {base : Heap} {k : Nat} {C fI cc : Addr} {F : NF} {N : List Str} {fl : Str} {msg : Expr} {rest : List Stmt} {p0 p1 p2 p3 p4 : Pos} {oc doc pm ctv : Value} {od : Option Addr} {osl : Array (Option Value)} {ar : Arg} {sp : Sp} {pl : Addr → Sem Bool}
    (T : SupC P K C fI cc F) (lk : K.lookup fI = some ⟨oc, od, .func (F.fd doc pm ctv), osl⟩) (hm : mg "super" = none) (S : NScope N ["self", fl] ["__class__"] F.scope)
    (hbody : F.body = .Expr (.Call (.Attribute (.Call (.Name "super" p0) [] [] p1) "__init__" p2) [msg] [] p3) p4 :: rest)
    (hpar : (F.params.posonlyargs ++ F.params.args).head? = some ar) (har : ar.arg = "self") (hks : F.scope.names.lookup ("super" : Str) = some .globalImplicit)
    (len : ∀ vs H Q E, sp vs H Q E → vs.length = 2)
    (h : ∀ (A : Around) (outer : List Env) (s : Shared) (H : Hp) (vs : List V) (Q : VK) (E : XK), Room k (A.deeper (envF F fI s.heap.objs.size)) → sp vs H Q E →
      ∃ (a : Addr) (y : V) (tm : TE) (t2 : TS), vs = [.ref a, y] ∧ H a = some (exo a C none) ∧ PE (ncx CX P w K mg base N F fI A outer s H E) msg tm ∧ PSs (ncx CX P w K mg base N F fI A outer s H E) rest t2 ∧
        tm (startF N vs [none]) H fun v H1 => [v].length = 1 ∧ H1 a = some (exo a C none) ∧ t2 { nx := fun _ H' => Q .non H', rt := Q } (startF N vs [none]) H1)
    (he : ∀ L : Addr, eval (.Call (.Attribute (.Call (.Name "super" p0) [] [] p1) "__init__" p2) [msg] [] p3) (envF F fI L) = (do
      let ov ← attributeBase (.Call (.Name "super" p0) [] [] p1) "__init__" (envF F fI L) (eval (.Call (.Name "super" p0) [] [] p1) (envF F fI L))
      standAt p2.atName
      let (f, first) ← holding [ov] (getMethod ov "__init__" (pl L))
      callWith p3 f first (backTo p3 (starEach [msg] (envF F fI L))) []))
    (hst : ∀ L : Addr, starEach [msg] (envF F fI L) = (false, eval msg (envF F fI L)) :: starEach [] (envF F fI L))
    (hsw : ∀ L : Addr, swapsWith (.Call (.Attribute (.Call (.Name "super" p0) [] [] p1) "__init__" p2) [msg] [] p3) none p4.line (envF F fI L) = pure false) :
    FnOk P w K mg base CX (k + 1) fI (F.fd doc pm ctv) ["self", fl] sp := by
  refine ⟨len, fun A outer s H args us vs Q E hr e0 hb r hsp => ?_⟩
  have hl := len _ _ _ _ hsp
  have KX : K.In s.heap := e0.mod.kin.keeps fun b o e => (e0.bs b o e).1
  have lim : s.heap.NoLimit := e0.mod.nolimit.keeps fun b o e => (e0.bs b o e).1
  obtain ⟨ccl, cdd, vsC, ccs, file, tf, hcode, hvs, hfile⟩ := T.code
  obtain ⟨cl1, cld, csl, hcell⟩ := T.cell
  have hcl : F.cl.lookup ("__class__" : Str) = some cc := by rw [T.cl]; rfl
  have hclA : ∀ y c, F.cl.lookup y = some c → y = ("__class__" : Str) ∧ c = cc := fun y c e => by
    rw [T.cl] at e
    by_cases hy : y = ("__class__" : Str)
    · subst hy
      exact ⟨rfl, (Option.some.inj e).symm⟩
    · have hb : (y == ("__class__" : Str)) = false := beq_false_of_ne hy
      simp only [List.lookup, hb] at e
      cases e
  have CA : CellsAt F.cl ["__class__"] [none] s.heap H := {
    len := rfl
    all := fun y c e => by
      obtain ⟨_, rfl⟩ := hclA y c e
      have hbk := e0.mod.kin _ _ hcell
      exact ⟨(e0.bs _ _ hbk).2, _, _, (e0.bs _ _ hbk).1, rfl⟩
    inj := fun x y c e1 e2 => (hclA x c e1).1.trans (hclA y c e2).1.symm
    has := fun i y e => by
      cases i with
      | zero =>
        have ey : y = ("__class__" : Str) := (Option.some.inj e).symm
        subst ey
        exact ⟨cc, hcl, fun v ev => by cases ev⟩
      | succ i => cases e }
  refine codeAny_call_function hr.depth (KX _ _ lk) rfl S.co S.gen rfl (PySem.W.codeRec_of KX T.cd) (hb _ _ _ _ ?_)
  refine wpAny_newFunctionEnv S.nocell (fun ⟨n, _⟩ hy => S.par n (List.of_mem_zip hy).1) (fun h₁ hns hsb => ⟨lim.fresh _ hsb, ?_⟩) S.kind
  show codeAny _ _ (.func F.body (envF F fI s.heap.objs.size)) _ _
  refine ks_codeAny_funcAt ?_
  have kp : ∀ b o, s.heap.get? b = some o → h₁.get? b = some o := fun b o e => hsb.extBut b o (Nat.ne_of_lt (Heap.lt_size e)) (Heap.get?_push_of_some _ e)
  obtain ⟨a, y, tm, t2, ev, ha, hm1, h2, hq⟩ := h A outer s H vs Q E (hr.deeper _) hsp
  have I : Inv (ncx CX P w K mg base N F fI A outer s H E) [] (startF N vs [none]) H { s with heap := h₁, toks := s.toks + (([("self" : Str), fl] : List Str).zip us).length } := inv_startN S hr.hd e0 hl r CA hns kp
  generalize hs1 : ({ s with heap := h₁, toks := s.toks + (([("self" : Str), fl] : List Str).zip us).length } : Shared) = s1 at I ⊢
  have KX1 : K.In s1.heap := I.kIn
  obtain ⟨nm, q, NN, bs, bm, sn, sub, ab, col, dd, k0, k1, k2, k3, k5, hC, hbm⟩ := T.oex.cls
  have hC1 := KX1 _ _ hC
  obtain ⟨t1, ho⟩ := exo_at I.hok ha
  have hne : a ≠ C := fun e => by
    rw [e, hC1] at ho
    cases ho
  rw [show execs F.body (envF F fI s.heap.objs.size) = execs (.Expr (.Call (.Attribute (.Call (.Name "super" p0) [] [] p1) "__init__" p2) [msg] [] p3) p4 :: rest) (envF F fI s.heap.objs.size) by rw [hbody]]
  refine ks_wpAt_execs_cons (ks_wpAt_Expr_any (ks_wpAt_MethodCall (pl := pl s.heap.objs.size) (ks_wpAt_super_base (env := envF F fI s.heap.objs.size) hks (S.frk "__class__" (List.mem_singleton.mpr rfl)) (by decide) rfl (KX1 _ _ lk) rfl hpar rfl (KX1 _ _ hcode) rfl hvs hfile T.top ?_) (he _)) I.quiet (hsw _))
  obtain ⟨mb, hb1, hb2⟩ := I.mod.blt
  refine PySem.W.ks_loadName_global S.kind hks (PySem.Calls.loadGlobal_builtin (I.mod.glob.keeps I.bk) hm (hb1.keeps I.bk) ((hb2 "super" (by decide)).trans (by decide +kernel : bootBuiltins "super" = some (.type "super"))) ⟨rfl, ?_⟩)
  refine wpAny_loadName_free S.kind (S.frk "__class__" (List.mem_singleton.mpr rfl)) hcl ⟨_, KX1 _ _ hcell, rfl⟩ ?_
  rw [har]
  have hself : F.scope.names.lookup ("self" : Str) = some .local := S.par "self" (List.mem_cons_self ..)
  obtain ⟨m, hnsM, hsl⟩ := I.loc
  have hN0 : N[(0 : Nat)]? = some ("self" : Str) := by
    have e := S.pre
    cases N with
    | nil => cases e
    | cons n N =>
      have e2 : n :: N.take 2 = ("self" : Str) :: [fl, "__class__"] := e
      rw [List.cons.injEq] at e2
      rw [e2.1]
      rfl
  have hms : m ("self" : Str) = some (.ref a) := by
    obtain ⟨u, ru, lu⟩ := hsl 0 "self" (.ref a) hN0 (by rw [ev]; rfl) (.inl hself)
    obtain rfl : u = Value.ref a := ru
    rcases lu with lu | ⟨lu, _⟩
    · exact lu.2
    · rw [show (ncx CX P w K mg base N F fI A outer s H E).env.kindOf "self" = some .local from hself] at lu
      rcases lu with z | z <;> cases z
  refine wpAny_loadName_local S.kind hself hnsM hms ?_
  obtain ⟨hp1, g1, d1, tk1, os1⟩ := s1
  refine ks_wpAny_isType_cls hC1 rfl ⟨rfl, ?_⟩
  refine ks_wpAny_call_super hC1 rfl ho rfl (fun c e => by cases e) (PySem.W.looks_mroIn KX1 T.own) (fun h' e kk => ?_)
  have I2 := I.kept (t' := tk1) kk
  have KX2 : K.In h' := I2.kIn
  have hC2 := KX2 _ _ hC
  have ho2 := kk _ _ ho
  have hcls : PySem.W.clsIn K C = some { name := nm, bases := bs, mro := .ref C :: bm, ns := NN, qualname := q, hasDict := true, slotNames := sn, subclasses := sub, abstract := ab, collection := col, hasDel := false } := by
    unfold PySem.W.clsIn
    rw [hC] <;> rfl
  have hini := T.ini
  unfold PySem.W.ks_superIn at hini
  rw [hcls, Option.bind_some] at hini
  have Ia : PySem.W.InstAt h' a _ C none := ⟨ho2, rfl, rfl, trivial⟩
  refine PySem.W.kxs_getMethod PySem.W.kxs_ValueError e (PySem.W.looks_opaque KX2 T.opq) (l₀ := .ref C :: bm) (fun A Q E s k q => wpAny_bind ((PySem.W.looks_clsIn KX2 hcls) A _ E s k (wpAny_pure q))) rfl KX2 hini (Ia.type.andThen (PySem.W.looks_subIn KX2 T.ve)) hne (by decide) ?_
  have kp3 : ∀ b o, h'.get? b = some o → (h'.push (PySem.W.kxs_mw "ValueError.__init__" a)).get? b = some o := fun b o e => Heap.get?_push_of_some _ e
  have I3 := I2.kept (h' := h'.push (PySem.W.kxs_mw "ValueError.__init__" a)) (t' := tk1 + 1) kp3
  have hu3 : (h'.push (PySem.W.kxs_mw "ValueError.__init__" a)).get? h'.objs.size = some (PySem.W.kxs_mw "ValueError.__init__" a) := Heap.get?_push_at rfl rfl
  have I4 : Inv (ncx CX P w K mg base N F fI A outer s H E) [(h'.objs.size, PySem.W.kxs_mw "ValueError.__init__" a)] (startF N vs [none]) H _ := I3.pins_of fun p hp => by
    rw [List.mem_singleton.mp hp]
    exact ⟨hu3, I2.hok.fresh (Nat.le_refl _), Nat.ne_of_gt I2.lt, I2.nofs (Nat.le_refl _), fun v z => by cases z⟩
  have ha1 : PA (ncx CX P w K mg base N F fI A outer s H E) [msg] _ := pa_cons hm1 pa_nil (hst _)
  have hst' := hst s.heap.objs.size
  refine PySem.W.kxs_callWith (i := "ValueError.__init__") (x := a) (by rw [hst']; rfl) ?_
  rw [hst']
  refine PySem.Calls.evalArgs_plain ?_
  have hrun := ha1.run p3 _ _ (startF N vs [none]) H (fun vs' H1 => vs'.length = 1 ∧ H1 a = some (exo a C none) ∧ t2 { nx := fun _ H' => Q .non H', rt := Q } (startF N vs [none]) H1) I4 ?_
  · have hst2 : backTo p3 (starEach [msg] (ncx CX P w K mg base N F fI A outer s H E).env) = backTo p3 ((false, eval msg (envF F fI s.heap.objs.size)) :: starEach [] (envF F fI s.heap.objs.size)) := congrArg (backTo p3) hst'
    rw [hst2] at hrun
    refine wpAny_mono hrun (fun ws s2 hw => ?_) fun e s' he => he
    obtain ⟨vs', H1, J, rv, hlen, ha2, hq2⟩ := hw
    have hu := (J.pin _ (List.mem_append_right _ (List.mem_singleton.mpr rfl))).1
    refine ⟨hu, ?_⟩
    have J0 : Inv (ncx CX P w K mg base N F fI A outer s H E) [] (startF N vs [none]) H1 s2 := J.pins_of fun p hp => by cases hp
    refine call_mw T.oex J0 ha2 hu (by
      show ws.length ≤ _
      rw [← rv.length, hlen, sizeLine_eq]; decide) fun s3 J3 => ?_
    refine wpAt_of_wpAny ?_
    refine wpAny_mono (h2.run [] s3 _ H1 _ J3 hq2) (fun fl s' hs => ?_) fun e s' hs => hs
    have fin : ∀ {σ' : L2.St} {H' : Hp} {v : V} {u : Value}, Inv (ncx CX P w K mg base N F fI A outer s H E) [] σ' H' s' → L2.RelV v u → Q v H' → CE outer P w H s Q u s' :=
      fun {σ' H' v u} J rv q => ⟨v, H', J.os, J.bare, J.base, J.hok, rv, q⟩
    cases fl with
    | ret u =>
      obtain ⟨v, σ', H', J, rv, q⟩ := hs
      exact fin J rv q
    | next =>
      obtain ⟨σ', H', J, q⟩ := hs
      exact fin (v := V.non) (u := Value.none) J rfl q
    | brk =>
      obtain ⟨_, _, _, q⟩ := hs
      exact False.elim q
    | cont =>
      obtain ⟨_, _, _, q⟩ := hs
      exact False.elim q
  · exact hq
end
end EX
/-! own errors: made, their fields, isinstance of them -/
namespace EX
open PySem PySem.Spec PyProof.Rows L2 NdefX
set_option autoImplicit false
section
variable {X : Cx}
/-- {x}: a text, an int or None, as a text that is not told -/
def MsgOk (x : V) : Prop := (∃ y : Str, x = .str y ∧ y.length ≤ 1000) ∨ (∃ i : Int, x = .int i ∧ i.natAbs.log2 < 1920) ∨ x = .non
def tFmtN (te : TE) : TE := fun σ H Q => te σ H fun x H1 => MsgOk x ∧ ∀ y : Str, y.length ≤ 10000 → Q (.str y) H1
theorem int_text {i : Int} (h : i.natAbs.log2 < 1920) : (Str.ofString (toString i)).length ≤ 10000 := by
  have e := int_text_length_le (k := 1920) (by decide) h
  rw [PySem.ofString_length]
  omega
theorem pe_fmtN {e : Expr} {te : TE} {pos : Pos} (he : PE X e te) : PE X (.FormattedValue e (-1) none pos) (tFmtN te) := by
  refine ⟨fun pins s σ H Q I h => ?_⟩
  refine wpAny_FormattedValue_plain (thn (he.run pins s σ H _ I h) fun v s1 hv => ?_)
  obtain ⟨x, H1, I1, r1, q, k⟩ := hv
  rcases q with ⟨y, rfl, hz⟩ | ⟨i, rfl, hz⟩ | rfl
  · obtain ⟨t, rfl⟩ := r1
    have q := k y (by omega)
    exact wpAny_formatField_str ⟨.str y, H1, I1, ⟨t, rfl⟩, q⟩ ⟨.str y, H1, I1.tok _, ⟨_, rfl⟩, q⟩ (by rw [sizeLine_eq]; omega)
  · obtain ⟨t, rfl⟩ := r1
    exact wpAny_formatField_int hz ⟨.str (toString i), H1, I1.tok _, ⟨_, rfl⟩, k _ (int_text hz)⟩
  · obtain rfl : v = Value.none := r1
    exact wpAny_formatField_none ⟨.str "None", H1, I1.tok _, ⟨_, rfl⟩, k "None" (by decide)⟩
/-- one argument, its end weakened -/
theorem pa_one {e : Expr} {te : TE} (he : PE X e te) (hs : starEach [e] X.env = (false, eval e X.env) :: starEach [] X.env := by rfl) : PA X [e] (fun σ H Q => ∃ Q0 : VK, te σ H Q0 ∧ ∀ y H1, Q0 y H1 → Q [y] H1) := by
  have h1 : PA X [e] _ := pa_cons he pa_nil hs
  refine ⟨fun pos pins s σ H Q I h => ?_⟩
  obtain ⟨Q0, h0, k⟩ := h
  have h2 := h1.run pos pins s σ H (fun vs H1 => ∃ y, vs = [y] ∧ Q0 y H1) I ?_
  · refine thn h2 fun us s1 hh => ?_
    obtain ⟨vs, H1, J, rv, y, rfl, q⟩ := hh
    exact ⟨[y], H1, J, rv, k y H1 q⟩
  · have e2 : (fun (x : V) (H1 : Hp) => ∃ y, [x] = [y] ∧ Q0 y H1) = Q0 := by
      funext x H1
      exact propext ⟨fun ⟨y, e, q⟩ => by cases e; exact q, fun q => ⟨x, rfl, q⟩⟩
    show te σ H (fun (x : V) (H1 : Hp) => ∃ y, [x] = [y] ∧ Q0 y H1)
    rw [e2]
    exact h0
end
/-! ### the class -/
def oexB (K : PySem.W.Frag) (C : Addr) : Bool := match K.lookup C with
  | some ⟨.type "type", _, .cls cd, sl⟩ => (match cd.mro, sl.toList with
    | .ref C' :: bm, [_, _, _, _, some (.builtin n), _] => C' == C && n == "ValueError.__new__" && !cd.hasDel && cd.hasDict && PySem.HandSPX.refsVE bm
    | _, _ => false)
  | _ => false
theorem oexB_ok {K : PySem.W.Frag} {C : Addr} (q : oexB K C = true) : ∃ nm q N bs bm sn sub ab col dd k0 k1 k2 k3 k5, K.lookup C = some (excClassObj nm q C N bs bm true sn sub ab col dd k0 k1 k2 k3 k5 "ValueError.__new__") ∧ PySem.HandSPX.refsVE bm = true := by
  unfold oexB at q
  split at q
  · rename_i dd cd sl ho
    split at q
    · rename_i C' bm k0 k1 k2 k3 n k5 hm hs
      simp only [Bool.and_eq_true, beq_iff_eq, Bool.not_eq_true'] at q
      obtain ⟨⟨⟨⟨rfl, rfl⟩, hdel⟩, hh⟩, ht⟩ := q
      obtain ⟨nm, bs, mro, ns, qn, hd, sn, sub, ab, col, del⟩ := cd
      dsimp only at hm hdel hh
      subst hm hdel hh
      have hsl : sl = #[k0, k1, k2, k3, some (.builtin "ValueError.__new__"), k5] := by
        obtain ⟨l⟩ := sl
        simp only at hs
        rw [hs]
      subst hsl
      exact ⟨nm, qn, ns, bs, bm, sn, sub, ab, col, dd, k0, k1, k2, k3, k5, ho, ht⟩
    · cases q
  · cases q
/-- an own error's class -/
structure ErrC (K : PySem.W.Frag) (C : Addr) : Prop where
  oex : OexC K C
  xf : XfC K C
  ha : PySem.W.findIn K (.ref C) "__class__" = some (some (.builtin "object.__class__"))
  hn : PySem.W.specialIn K (.builtin "object.__class__") "__get__" = some (some (.builtin "getset_descriptor.__get__"))
  ht : PySem.W.takesIn K (.builtin "object.__class__") = some true
  hm : PySem.W.mroIn K C (.type "object") = some true
def errB (K : PySem.W.Frag) (C : Addr) : Bool := oexB K C && (decide (PySem.W.findIn K (.ref C) "__setattr__" = some (some (.builtin "object.__setattr__"))) && (decide (PySem.W.subIn K (.ref C) (.type "BaseException") = some true) && (decide (PySem.W.typeIn K (.ref C) = some (.type "type")) && (PySem.W.keepIn K (.ref C) && (xfB K C &&
  (decide (PySem.W.findIn K (.ref C) "__class__" = some (some (.builtin "object.__class__"))) && (decide (PySem.W.specialIn K (.builtin "object.__class__") "__get__" = some (some (.builtin "getset_descriptor.__get__"))) && (decide (PySem.W.takesIn K (.builtin "object.__class__") = some true) && decide (PySem.W.mroIn K C (.type "object") = some true)))))))))
theorem errB_ok {K : PySem.W.Frag} {C : Addr} (h : errB K C = true) : ErrC K C := by
  unfold errB at h
  simp only [Bool.and_eq_true, decide_eq_true_eq] at h
  obtain ⟨h1, h2, h3, h4, h5, h6, h7, h8, h9, h10⟩ := h
  exact ⟨⟨oexB_ok h1, h2, h3, h4, h5⟩, xfB_ok h6, h7, h8, h9, h10⟩
/-! ### a caught error: its fields, isinstance -/
def tXfE (K : PySem.W.Frag) (a : Addr) (cls : Value) (d : Option Addr) (f : Str) (te : TE) : TE := fun σ H Q => te σ H fun x H1 => ∃ C : Addr, x = .ref a ∧ cls = .ref C ∧ ErrC K C ∧ PySem.W.findIn K (.ref C) f = some none ∧ ∃ (dd : Addr) (fs : List (Str × V)) (v : V), d = some dd ∧ H1 dd = some (.xd fs) ∧ fs.lookup f = some v ∧ Q v H1
theorem pe_xfE {X : Cx} {a : Addr} {oe : Obj} {cls : Value} {d : Option Addr} {pn : List (Addr × Obj)} {e : Expr} {te : TE} {pos : Pos} {n : Str}
    (hz : Zc cls d oe) (hf : ∃ vs, oe.data = .fields vs) (he : PE (X.suite a ((a, oe) :: pn)) e te) (hb : attributeBase e n X.env (eval e X.env) = eval e X.env := by rfl) :
    PE (X.suite a ((a, oe) :: pn)) (.Attribute e n pos) (tXfE X.K a cls d n te) := by
  refine ⟨fun pins s σ H Q I h => ?_⟩
  refine attr_of hb (thn (he.run pins s σ H _ I h) fun u s1 hh => ?_)
  obtain ⟨x, H1, I1, rx, C, ex, ec, T, hno, dd, fs, v, ed, ea, l, q⟩ := hh
  subst ex
  obtain rfl : u = Value.ref a := rx
  subst ec
  subst ed
  obtain ⟨ha, _⟩ := I1.pin (a, oe) (List.mem_append_left _ List.mem_cons_self)
  obtain ⟨vs, hd⟩ := hf
  have hx : ObjOk X.prog X.w H1 s1.heap dd (.xd fs) := I1.hok dd _ ea
  obtain ⟨mA, hns, hr⟩ := hx
  obtain ⟨od, ho, hl⟩ := lookIn_ns hns
  obtain ⟨u, hu, ru⟩ := RelO.some_of (v := v) (o := mA n) (by rw [← l]; exact hr n)
  have J : PySem.W.InstAt s1.heap a oe C (some od) := ⟨ha, hz.1, by unfold PySem.W.notCls; rw [hd] <;> rfl, by rw [hz.2]; exact ho⟩
  exact HandSPX.exc_get I1.kIn J T.xf.ga T.xf.gg T.xf.exC (PySem.W.findObj_own T.xf.hdC hno rfl (by rw [hl, hu])) (handed_of ru) ⟨v, H1, I1.tok _, ru, q⟩
theorem kit_err {K : PySem.W.Frag} {C x : Addr} {ox : Obj} {od : Option Obj} (T : ErrC K C) : PySem.W.KitX K (.ref x) (.ref C) (fun h => PySem.W.InstAt h x ox C od) := by
  have hf : PySem.W.findObj K C od "__class__" = some (.bind (.builtin "getset_descriptor.__get__") (.builtin "object.__class__")) := PySem.W.findObj_dataE (by obtain ⟨cd, hc, _⟩ := PySem.W.any_some T.xf.hdC; rw [hc]; rfl) T.ha T.hn T.ht
  exact {
    ty := fun _ _ _ I => I.type
    it := fun _ _ X _ => by
      obtain ⟨cdD, hcD, _⟩ := PySem.W.any_some T.xf.hdC
      unfold PySem.W.clsIn at hcD
      split at hcD
      · rename_i c' d' cd' sl' ho
        intro A' Q' E' s' k q
        unfold isType loadHead
        exact wpAny_bind (wpAny_loadPart (k _ _ (X _ _ ho)) (wpAny_pure q))
      · cases hcD
    ne := fun h tp dd its n sl X htp => by
      obtain ⟨cdD, hcD, _⟩ := PySem.W.any_some T.xf.hdC
      refine Bool.eq_false_iff.mpr fun q => ?_
      have e : C = tp := Value.ref.inj (beq_iff_eq.mp q)
      subst e
      unfold PySem.W.clsIn at hcD
      split at hcD
      · rename_i c' d' cd' sl' ho
        have z := (X _ _ ho).symm.trans htp
        cases z
      · cases hcD
    ca := fun X I k => PySem.W.kx_classE X I T.xf.ga T.xf.gg T.xf.exC hf T.hm k }
/-- isinstance(e, c), e the exception that the suite holds -/
def rIsX (K : PySem.W.Frag) (a : Addr) (cls : Value) (d : Option Addr) : List V → Hp → VK → Prop := fun xs H Q => ∃ (C : Addr) (c : V) (cv : Value) (b : Bool), xs = [.ref a, c] ∧ cls = .ref C ∧ ErrC K C ∧ (∀ dd, d = some dd → ∃ fs, H dd = some (.xd fs)) ∧ (∀ u, RelV c u → u = cv) ∧ PySem.W.kitOne K (.ref C) cv = some b ∧ Q (.bl b) H
theorem inst_err {X : Cx} {pins pn : List (Addr × Obj)} {σ : L2.St} {H : Hp} {s : Shared} {a C : Addr} {oe : Obj} {d : Option Addr} (I : Inv (X.suite a ((a, oe) :: pn)) pins σ H s) (hz : Zc (.ref C) d oe) (hf : ∃ vs, oe.data = .fields vs) (hd : ∀ dd, d = some dd → ∃ fs, H dd = some (.xd fs)) : ∃ od, PySem.W.InstAt s.heap a oe C od := by
  obtain ⟨hget, _⟩ := I.pin (a, oe) (List.mem_append.mpr (.inl List.mem_cons_self))
  obtain ⟨vs, hv⟩ := hf
  cases d with
  | none => exact ⟨none, hget, hz.1, by unfold PySem.W.notCls; rw [hv] <;> rfl, by rw [hz.2]; trivial⟩
  | some dd =>
    obtain ⟨fs, e⟩ := hd dd rfl
    have hx : ObjOk X.prog X.w H s.heap dd (.xd fs) := I.hok dd _ e
    obtain ⟨mA, hns, hr⟩ := hx
    obtain ⟨od, ho, hl⟩ := lookIn_ns hns
    exact ⟨some od, hget, hz.1, by unfold PySem.W.notCls; rw [hv] <;> rfl, by rw [hz.2]; exact ho⟩
theorem call_isX {X : Cx} {a : Addr} {oe : Obj} {cls : Value} {d : Option Addr} {pn : List (Addr × Obj)} (hz : Zc cls d oe) (hf : ∃ vs, oe.data = .fields vs) : CallR (X.suite a ((a, oe) :: pn)) (.builtin "isinstance") (rIsX X.K a cls d) := by
  intro pins s σ H xs us Q I r h
  obtain ⟨C, c, cv, b, rfl, rfl, T, hd, hcv, e, q⟩ := h
  cases r with
  | cons rx rr =>
    cases rr with
    | cons rt rr =>
      cases rr
      cases rx
      have ec := hcv _ rt
      subst ec
      obtain ⟨od, J⟩ := inst_err I hz hf hd
      exact PySem.W.kia_one (kit_err T) I.kIn J e (fun z => nomatch z) fun tk => ⟨.bl b, H, I.kept (t' := tk) fun _ _ z => z, rfl, q⟩
/-- isinstance(e, (c, ..)) -/
def rIsXT (K : PySem.W.Frag) (a : Addr) (cls : Value) (d : Option Addr) : List V → Hp → VK → Prop := fun xs H Q => ∃ (C t : Addr) (cs : List V) (cvs : List Value) (b : Bool), xs = [.ref a, .ref t] ∧ cls = .ref C ∧ ErrC K C ∧ (∀ dd, d = some dd → ∃ fs, H dd = some (.xd fs)) ∧ H t = some (.tup cs) ∧ (∀ us, Vals cs us → us = cvs) ∧ PySem.W.kitAny K (.ref C) cvs = some b ∧ Q (.bl b) H
theorem call_isXT {X : Cx} {a : Addr} {oe : Obj} {cls : Value} {d : Option Addr} {pn : List (Addr × Obj)} (hz : Zc cls d oe) (hf : ∃ vs, oe.data = .fields vs) : CallR (X.suite a ((a, oe) :: pn)) (.builtin "isinstance") (rIsXT X.K a cls d) := by
  intro pins s σ H xs us Q I r h
  obtain ⟨C, t, cs, cvs, b, rfl, rfl, T, hd, ht, hcv, e, q⟩ := h
  cases r with
  | cons rx rr =>
    cases rr with
    | cons rt rr =>
      cases rr
      cases rx
      cases rt
      obtain ⟨od, J⟩ := inst_err I hz hf hd
      have hx : ObjOk X.prog X.w H s.heap t (.tup cs) := I.hok t _ ht
      obtain ⟨hl, its, hv, ⟨oc, od', dt, sl⟩, ho, hc, n, hd2⟩ := hx
      dsimp only at hc hd2
      subst hc hd2
      have eI := hcv _ hv
      subst eI
      exact PySem.W.kia_tup (kit_err T) I.kIn J ho e (fun z => nomatch z) fun tk => ⟨.bl b, H, I.kept (t' := tk) fun _ _ z => z, rfl, q⟩
/-! ### an error is made -/
/-- what __init__ promises -/
def spErr (C : Addr) (fl : Str) (ok : V → Prop) : Sp := fun vs H Q _ => ∃ (a : Addr) (y : V), vs = [.ref a, y] ∧ H a = some (exo a C none) ∧ ok y ∧ ∀ dx, H dx = none → dx ≠ a → Q .non (upd (upd H dx (exd dx [(fl, y)])) a (exo a C (some dx)))
/-- C(e): the class, its dict with the one field -/
def tMkE (C : Addr) (fl : Str) (ok : V → Prop) (te : TE) : L2.St → Hp → XK → Prop := fun σ H Q => te σ H fun y H1 => ok y ∧ ∀ d, H1 d = none → Q (.ref C) (some d) (upd H1 d (.xd [(fl, y)]))
theorem pmk_err {X : Cx} {x fl : Str} {ok : V → Prop} {C fI : Addr} {fd : FuncData} {k : Nat} {e : Expr} {te : TE} {p pos : Pos} (T : ErrC X.K C) (iC : PySem.W.findIn X.K (.ref C) "__init__" = some (some (.ref fI))) (tI : PySem.W.typeIn X.K (.ref fI) = some (.type "function"))
    (F1 : FnOk X.prog X.w X.K X.mg X.base CX0 k fI fd ["self", fl] (spErr C fl ok)) (hr : Room (k + 1) X.A) (hb : Binds X.K fd ["self", fl] []) (hg : Gl X x) (hm : X.mg x = some (.ref C)) (he : PE X e te)
    (hdb : (x == ("__debug__" : Str)) = false := by decide) (hs : starEach [e] X.env = (false, eval e X.env) :: starEach [] X.env := by rfl) : PMk X (.Call (.Name x p) [e] [] pos) (tMkE C fl ok te) := by
  intro pins s σ H Q I h
  have h0 := pmk_oex (p := p) (pos := pos) T.oex iC tI F1 hr hb .nil pass0 hg hm (pa_one he hs) hdb hs (by rfl)
  refine h0 pins s σ H Q I ⟨_, h, fun y H1 ⟨oky, k⟩ => ⟨by show 1 ≤ 1000; decide, fun a na => ⟨a, y, rfl, upd_same, oky, fun dx ndx ne => ?_⟩⟩⟩
  have n1 : H1 dx = none := by
    rw [upd_ne ne] at ndx
    exact ndx
  refine ⟨rfl, dx, [(fl, y)], upd_same, (upd_ne ne).trans upd_same, n1, ?_⟩
  have eh : upd (del (upd (upd (upd H1 a (exo a C none)) dx (exd dx [(fl, y)])) a (exo a C (some dx))) a) dx (.xd [(fl, y)]) = upd H1 dx (.xd [(fl, y)]) := by
    funext b
    by_cases h1 : b = dx
    · rw [h1, upd_same, upd_same]
    · rw [upd_ne h1, upd_ne h1]
      by_cases h2 : b = a
      · rw [h2, del_same, na]
      · rw [del_ne h2, upd_ne h2, upd_ne h1, upd_ne h2]
  rw [eh]
  exact k dx n1
/-- C(), no own __init__ -/
theorem pmk_err0 {X : Cx} {x : Str} {C : Addr} {p pos : Pos} (q : PySem.W.excIn X.K C He.veBase "ValueError.__new__" = true) (T : ErrC X.K C) (hg : Gl X x) (hm : X.mg x = some (.ref C))
    (hdb : (x == ("__debug__" : Str)) = false := by decide) : PMk X (.Call (.Name x p) [] [] pos) (fun _ H Q => Q (.ref C) none H) := by
  intro pins s σ H Q I h
  refine wpAny_Call_Name_kw (ld_glob I hg hm ?_ hdb)
  refine PySem.W.callWith_K0 I.kIn T.oex.kC ?_
  obtain ⟨bm, N, nm, qn, bs, hdct, sn, sub, ab, col, dd, k0, k1, k2, k3, k5, mN, hC, hN, hni, Tl⟩ := exc_obj I.kIn q
  refine wpAny_call_exc_subT F.excBase_ValueError Tl hC hN hni (fun h' e hm => ?_) (by show 0 ≤ sizeLine; rw [sizeLine_eq]; omega)
  exact mk_of I hm (raises_own T.oex.exC T.oex.tyC) h (I.hok.gone hm.new)
end EX
/-! own errors as the top leaves them -/
namespace EX
open PySem PySem.Spec PyProof.Rows L2 NdefX
set_option autoImplicit false
/-- an error class with its __init__(self, fl) -/
structure DfE (P : Program) (K : PySem.W.Frag) (mg : Str → Option Value) (x fl : Str) (ok : V → Prop) where
  C : Addr
  fI : Addr
  fd : FuncData
  g : mg x = some (.ref C)
  T : ErrC K C
  iC : PySem.W.findIn K (.ref C) "__init__" = some (some (.ref fI))
  tI : PySem.W.typeIn K (.ref fI) = some (.type "function")
  no : PySem.W.findIn K (.ref C) fl = some none
  b : Binds K fd ["self", fl] []
  F : ∀ (w : World) (base : Heap), FnOk P w K mg base CX0 1 fI fd ["self", fl] (spErr C fl ok)
/-- an error class without an __init__ -/
structure DfE0 (K : PySem.W.Frag) (mg : Str → Option Value) (x : Str) where
  C : Addr
  g : mg x = some (.ref C)
  T : ErrC K C
  q : PySem.W.excIn K C He.veBase "ValueError.__new__" = true
/-! ### the two bodies -/
theorem app_len (a b : Str) : (a ++ b).length = a.length + b.length := by
  show (a.cps ++ b.cps).size = a.cps.size + b.cps.size
  rw [Array.size_append]
section
variable {P : Program} {w : World} {K : PySem.W.Frag} {mg : Str → Option Value} {base : Heap} {C fI cc : Addr} {F : NF} {fl : Str} {oc doc pm ctv : Value} {od : Option Addr} {osl : Array (Option Value)} {ar : Arg}
/-- f'.. {fl}' -/
theorem init_f {p0 p1 p2 p3 p4 q1 q2 q3 q4 q5 q6 q7 q8 : Pos} {m : Str} {j : Nat} {pl : Addr → Sem Bool} (T : SupC P K C fI cc F) (lk : K.lookup fI = some ⟨oc, od, .func (F.fd doc pm ctv), osl⟩) (hm : mg "super" = none) (S : NScope ["self", fl, "__class__"] ["self", fl] ["__class__"] F.scope) (no : PySem.W.findIn K (.ref C) fl = some none)
    (hbody : F.body = [.Expr (.Call (.Attribute (.Call (.Name "super" p0) [] [] p1) "__init__" p2) [.JoinedStr [.Constant (.str m) j q1, .FormattedValue (.Name fl q2) (-1) none q3] q4] [] p3) p4, .Assign [.Attribute (.Name "self" q5) fl q6] (.Name fl q7) q8]) (hml : m.length ≤ 1000)
    (hpar : (F.params.posonlyargs ++ F.params.args).head? = some ar) (har : ar.arg = "self") (hks : F.scope.names.lookup ("super" : Str) = some .globalImplicit) (hdb : (fl == ("__debug__" : Str)) = false) (hdc : (fl == ("__classdict__" : Str)) = false)
    (he : ∀ L : Addr, eval (.Call (.Attribute (.Call (.Name "super" p0) [] [] p1) "__init__" p2) [.JoinedStr [.Constant (.str m) j q1, .FormattedValue (.Name fl q2) (-1) none q3] q4] [] p3) (envF F fI L) = (do
      let ov ← attributeBase (.Call (.Name "super" p0) [] [] p1) "__init__" (envF F fI L) (eval (.Call (.Name "super" p0) [] [] p1) (envF F fI L))
      standAt p2.atName
      let (f, first) ← holding [ov] (getMethod ov "__init__" (pl L))
      callWith p3 f first (backTo p3 (starEach [.JoinedStr [.Constant (.str m) j q1, .FormattedValue (.Name fl q2) (-1) none q3] q4] (envF F fI L))) [])) :
    FnOk P w K mg base CX0 1 fI (F.fd doc pm ctv) ["self", fl] (spErr C fl MsgOk) := by
  have vs : F.scope.names.lookup ("self" : Str) = some .local := S.par "self" (List.mem_cons_self ..)
  have vf : F.scope.names.lookup fl = some .local := S.par fl (List.mem_cons_of_mem _ (List.mem_cons_self ..))
  refine sup_ok (k := 0) T lk hm S hbody hpar har hks (fun vs H Q E h => ?_) (fun A outer s H vs Q E hr h => ?_) he (fun L => rfl) (fun L => rfl)
  · obtain ⟨a, y, rfl, _⟩ := h
    rfl
  · obtain ⟨a, y, rfl, ha, ok, k⟩ := h
    refine ⟨a, y, _, _, rfl, ha, pe_joined (.cons pe_str (.cons (pe_fmtN (pe_var (i := 1) rfl (.inl vf) (hd := hdb) (hcd := hdc))) .nil)), pss_one (ps_ost (pe_var (i := 0) rfl (.inl vs)) (pe_var (i := 1) rfl (.inl vf) (hd := hdb) (hcd := hdc)) (by rfl)), ?_⟩
    refine ⟨m, rfl, by rw [app_len, sizeLine_eq]; show 0 + _ ≤ _; omega, y, rfl, ok, fun z hz => ⟨z, rfl, by rw [app_len, app_len, sizeLine_eq]; show 0 + _ + _ ≤ _; omega, rfl, ha, y, rfl, .ref a, rfl, a, C, rfl, T.oex, no, .inl ⟨ha, fun dx n1 n2 => k dx n1 n2⟩⟩⟩
/-- a written text -/
theorem init_c {p0 p1 p2 p3 p4 q1 q5 q6 q7 q8 : Pos} {m : Str} {j : Nat} {pl : Addr → Sem Bool} (T : SupC P K C fI cc F) (lk : K.lookup fI = some ⟨oc, od, .func (F.fd doc pm ctv), osl⟩) (hm : mg "super" = none) (S : NScope ["self", fl, "__class__"] ["self", fl] ["__class__"] F.scope) (no : PySem.W.findIn K (.ref C) fl = some none)
    (hbody : F.body = [.Expr (.Call (.Attribute (.Call (.Name "super" p0) [] [] p1) "__init__" p2) [.Constant (.str m) j q1] [] p3) p4, .Assign [.Attribute (.Name "self" q5) fl q6] (.Name fl q7) q8])
    (hpar : (F.params.posonlyargs ++ F.params.args).head? = some ar) (har : ar.arg = "self") (hks : F.scope.names.lookup ("super" : Str) = some .globalImplicit) (hdb : (fl == ("__debug__" : Str)) = false) (hdc : (fl == ("__classdict__" : Str)) = false)
    (he : ∀ L : Addr, eval (.Call (.Attribute (.Call (.Name "super" p0) [] [] p1) "__init__" p2) [.Constant (.str m) j q1] [] p3) (envF F fI L) = (do
      let ov ← attributeBase (.Call (.Name "super" p0) [] [] p1) "__init__" (envF F fI L) (eval (.Call (.Name "super" p0) [] [] p1) (envF F fI L))
      standAt p2.atName
      let (f, first) ← holding [ov] (getMethod ov "__init__" (pl L))
      callWith p3 f first (backTo p3 (starEach [.Constant (.str m) j q1] (envF F fI L))) [])) :
    FnOk P w K mg base CX0 1 fI (F.fd doc pm ctv) ["self", fl] (spErr C fl fun _ => True) := by
  have vs : F.scope.names.lookup ("self" : Str) = some .local := S.par "self" (List.mem_cons_self ..)
  have vf : F.scope.names.lookup fl = some .local := S.par fl (List.mem_cons_of_mem _ (List.mem_cons_self ..))
  refine sup_ok (k := 0) T lk hm S hbody hpar har hks (fun vs H Q E h => ?_) (fun A outer s H vs Q E hr h => ?_) he (fun L => rfl) (fun L => rfl)
  · obtain ⟨a, y, rfl, _⟩ := h
    rfl
  · obtain ⟨a, y, rfl, ha, ok, k⟩ := h
    refine ⟨a, y, _, _, rfl, ha, pe_str, pss_one (ps_ost (pe_var (i := 0) rfl (.inl vs)) (pe_var (i := 1) rfl (.inl vf) (hd := hdb) (hcd := hdc)) (by rfl)), ?_⟩
    exact ⟨rfl, ha, y, rfl, .ref a, rfl, a, C, rfl, T.oex, no, .inl ⟨ha, fun dx n1 n2 => k dx n1 n2⟩⟩
end
/-! ### the top's facts -/
/-- an __init__: its class, its field, its def -/
structure InD where
  cls : Str
  qual : Str
  fld : Str
  params : Arguments
  body : List Stmt
  scope : Scope
abbrev FnY : Type := Option (Str × Str × Arguments × FuncBody × Scope × Addr × Value × Value × Option Addr × Addr)
def fnY (K : PySem.W.Frag) (x : Str) : FnY := match K.lookup (He.ma K (He.ga K x) "__init__") with
  | some ⟨_, _, .func fd, _⟩ => some (fd.name, fd.qualname, fd.params, fd.body, fd.scope, fd.globals, fd.defaults, fd.kwdefaults, fd.annotations, fd.builtins)
  | _ => none
def InD.val (d : InD) : FnY := some ("__init__", d.qual, d.params, .stmts d.body, d.scope, mainGlobals, .none, .none, none, builtinsNs)
/-- the code object of the program's own text -/
def codeB (P : Program) (K : PySem.W.Frag) (c : Addr) (q : Str) : Bool := PySem.W.codeIn K (.ref c) q && (match K.lookup c with
  | some ⟨_, _, .fields vs, _⟩ => (match (vs[2]? : Option Value) with
    | some (Value.str file _) => (P.main.file : Str) == file
    | _ => false)
  | _ => false)
def codeV (P : Program) (K : PySem.W.Frag) (v : Value) (q : Str) : Bool := match v with
  | .ref c => codeB P K c q
  | _ => false
def cellB (K : PySem.W.Frag) (C c : Addr) : Bool := match K.lookup c with
  | some ⟨_, _, .cell (some (.ref D)), _⟩ => D == C
  | _ => false
def clB (K : PySem.W.Frag) (C : Addr) (l : List (Str × Addr)) : Bool := match l with
  | [(y, c)] => decide (y = "__class__") && cellB K C c
  | _ => false
def fdB (P : Program) (K : PySem.W.Frag) (C fI : Addr) : Bool := match K.lookup fI with
  | some ⟨_, _, .func fd, _⟩ => clB K C fd.closure && codeV P K fd.code fd.qualname
  | _ => false
def supB (P : Program) (K : PySem.W.Frag) (d : InD) : Bool := errB K (He.ga K d.cls) && (fdB P K (He.ga K d.cls) (He.ma K (He.ga K d.cls) "__init__") && (decide (PySem.W.nsIn K cStatics "thirdparty.any" = some none) && (decide (PySem.W.ks_superIn K (He.ga K d.cls) (He.ga K d.cls) "__init__" = some (some (.builtin "ValueError.__init__"))) &&
  (decide (PySem.W.subIn K (.ref (He.ga K d.cls)) (.type "ValueError") = some true) && (decide (PySem.W.mroIn K (He.ga K d.cls) (.ref (He.ga K d.cls)) = some true) && (decide (PySem.W.findIn K (.ref (He.ga K d.cls)) "__init__" = some (some (.ref (He.ma K (He.ga K d.cls) "__init__")))) &&
  (decide (PySem.W.typeIn K (.ref (He.ma K (He.ga K d.cls) "__init__")) = some (.type "function")) && (decide (PySem.W.findIn K (.ref (He.ga K d.cls)) d.fld = some none) && He.eqO (PySem.W.nsIn K mainGlobals d.cls) (some (some (.ref (He.ga K d.cls))))))))))))
theorem cellB_ok {K : PySem.W.Frag} {C c : Addr} (h : cellB K C c = true) : ∃ (cl : Value) (cld : Option Addr) (csl : Array (Option Value)), K.lookup c = some (⟨cl, cld, .cell (some (.ref C)), csl⟩ : Obj) := by
  unfold cellB at h
  split at h
  · rename_i a b D s e
    have : D = C := eq_of_beq h
    subst this
    exact ⟨a, b, s, e⟩
  · cases h
theorem codeB_ok {P : Program} {K : PySem.W.Frag} {c : Addr} {q : Str} (h : codeB P K c q = true) : PySem.W.codeIn K (.ref c) q = true ∧ ∃ (ccl : Value) (cdd : Option Addr) (vs : Array Value) (ccs : Array (Option Value)) (file : Str) (tf : Tok), K.lookup c = some (⟨ccl, cdd, .fields vs, ccs⟩ : Obj) ∧ vs[2]? = some (Value.str file tf) ∧ ((P.main.file : Str) == file) = true := by
  unfold codeB at h
  obtain ⟨h1, h⟩ := Bool.and_eq_true_iff.mp h
  refine ⟨h1, ?_⟩
  split at h
  · rename_i a b vs s e
    split at h
    · rename_i file t e2
      exact ⟨a, b, vs, s, file, t, e, e2, h⟩
    · cases h
  · cases h
/-- what is known of the class behind the top -/
theorem init_at {P : Program} {K : PySem.W.Frag} {d : InD} (e : fnY K d.cls = d.val) (c : supB P K d = true) (top : (P.main.scope.names.lookup ("super" : Str)).isSome = false) :
    ∃ (F : NF) (cc : Addr) (oc doc pm ctv : Value) (od : Option Addr) (osl : Array (Option Value)), F.name = "__init__" ∧ F.qual = d.qual ∧ F.params = d.params ∧ F.body = d.body ∧ F.scope = d.scope ∧ SupC P K (He.ga K d.cls) (He.ma K (He.ga K d.cls) "__init__") cc F ∧ K.lookup (He.ma K (He.ga K d.cls) "__init__") = some ⟨oc, od, .func (F.fd doc pm ctv), osl⟩ := by
  unfold supB at c
  simp only [Bool.and_eq_true, decide_eq_true_eq] at c
  obtain ⟨c1, c2, c3, c4, c5, c6, c7, c8, c9, c10⟩ := c
  have E := errB_ok c1
  unfold fdB at c2
  unfold fnY at e
  cases q : K.lookup (He.ma K (He.ga K d.cls) "__init__") with
  | none =>
    rw [q] at c2
    cases c2
  | some o =>
    obtain ⟨oc, od, dt, osl⟩ := o
    rw [q] at c2 e
    cases dt with
    | func fd =>
      obtain ⟨n1, n2, n3, n4, n5, n6, n7, n8, n9, n10, n11, n12, n13, n14, n15⟩ := fd
      have e2 : (some (n1, n2, n3, n4, n5, n6, n8, n9, n12, n15) : FnY) = some (("__init__" : Str), d.qual, d.params, FuncBody.stmts d.body, d.scope, mainGlobals, Value.none, Value.none, (none : Option Addr), builtinsNs) := e
      simp only [Option.some.injEq, Prod.mk.injEq] at e2
      obtain ⟨h1, h2, h3, h4, h5, h6, h7, h8, h9, h10⟩ := e2
      subst h1 h2 h3 h4 h5 h6 h7 h8 h9 h10
      have c3' : (clB K (He.ga K d.cls) n7 && codeV P K n13 d.qual) = true := c2
      obtain ⟨k1, k2⟩ := Bool.and_eq_true_iff.mp c3'
      unfold clB at k1
      split at k1
      · rename_i y cc
        obtain ⟨k3, k4⟩ := Bool.and_eq_true_iff.mp k1
        have ey : y = "__class__" := of_decide_eq_true k3
        subst ey
        cases n13 with
        | ref cd =>
          obtain ⟨k5, k6⟩ := codeB_ok k2
          exact ⟨⟨"__init__", d.qual, d.params, d.body, d.scope, [("__class__", cc)], cd⟩, cc, oc, n10, n11, n14, od, osl, rfl, rfl, rfl, rfl, rfl, ⟨E.oex, rfl, k5, k6, cellB_ok k4, top, c3, c4, c5, c6⟩, rfl⟩
        | _ => cases k2
      · cases k1
    | _ => cases c2
theorem mkE {P : Program} {K : PySem.W.Frag} {h : Heap} {mg : Str → Option Value} {d : InD} {ok : V → Prop} (X : K.In h) (G : h.Ns mainGlobals mg) (e : fnY K d.cls = d.val) (c : supB P K d = true) (top : (P.main.scope.names.lookup ("super" : Str)).isSome = false)
    (hb : ∀ (F : NF) (doc pm ctv : Value) (us : List Value), F.name = "__init__" → F.qual = d.qual → F.params = d.params → F.body = d.body → F.scope = d.scope → us.length = 2 → bindArgs (F.fd doc pm ctv) ⟨us, []⟩ = pure ((([("self" : Str), d.fld] : List Str)).zip us))
    (hF : ∀ (F : NF) (cc : Addr) (oc doc pm ctv : Value) (od : Option Addr) (osl : Array (Option Value)) (w : World) (base : Heap), F.params = d.params → F.body = d.body → F.scope = d.scope → SupC P K (He.ga K d.cls) (He.ma K (He.ga K d.cls) "__init__") cc F →
      K.lookup (He.ma K (He.ga K d.cls) "__init__") = some ⟨oc, od, .func (F.fd doc pm ctv), osl⟩ → PySem.W.findIn K (.ref (He.ga K d.cls)) d.fld = some none → FnOk P w K mg base CX0 1 (He.ma K (He.ga K d.cls) "__init__") (F.fd doc pm ctv) ["self", d.fld] (spErr (He.ga K d.cls) d.fld ok)) :
    ∃ D : DfE P K mg d.cls d.fld ok, D.C = He.ga K d.cls := by
  obtain ⟨F, cc, oc, doc, pm, ctv, od, osl, f1, f2, f3, f4, f5, S, lk⟩ := init_at e c top
  unfold supB at c
  simp only [Bool.and_eq_true, decide_eq_true_eq] at c
  obtain ⟨c1, c2, c3, c4, c5, c6, c7, c8, c9, c10⟩ := c
  exact ⟨⟨He.ga K d.cls, He.ma K (He.ga K d.cls) "__init__", F.fd doc pm ctv, PySem.W.mg_of X G (He.eqO_ok c10), errB_ok c1, c7, c8, c9, .all fun us hl => hb F doc pm ctv us f1 f2 f3 f4 f5 hl, fun w base => hF F cc oc doc pm ctv od osl w base f3 f4 f5 S lk c9⟩, rfl⟩
/-! ### the Hook -/
def ex0B (K : PySem.W.Frag) (x : Str) : Bool := errB K (He.ga K x) && (PySem.W.excIn K (He.ga K x) He.veBase "ValueError.__new__" && He.eqO (PySem.W.nsIn K mainGlobals x) (some (some (.ref (He.ga K x)))))
/-- isinstance of an instance of x, y: b -/
def kitB (K : PySem.W.Frag) (p : Str × Str × Bool) : Bool := decide (PySem.W.kitOne K (.ref (He.ga K p.1)) (.ref (He.ga K p.2.1)) = some p.2.2)
abbrev AlX : Type := He.AlD × Bool × List FnY
/-- an own class that isinstance, == and != ask -/
structure OwnC (K : PySem.W.Frag) (C : Addr) : Prop where
  ha : PySem.W.findIn K (.ref C) "__class__" = some (some (.builtin "object.__class__"))
  hn : PySem.W.specialIn K (.builtin "object.__class__") "__get__" = some (some (.builtin "getset_descriptor.__get__"))
  ht : PySem.W.takesIn K (.builtin "object.__class__") = some true
  hm : PySem.W.mroIn K C (.type "object") = some true
  me : PySem.W.kitOne K (.ref C) (.ref C) = some true
  ne : PySem.W.findIn K (.ref C) "__ne__" = some (some (.builtin "object.__ne__"))
def ownB (K : PySem.W.Frag) (x : Str) : Bool := decide (PySem.W.findIn K (.ref (He.ga K x)) "__class__" = some (some (.builtin "object.__class__"))) && (decide (PySem.W.specialIn K (.builtin "object.__class__") "__get__" = some (some (.builtin "getset_descriptor.__get__"))) && (decide (PySem.W.takesIn K (.builtin "object.__class__") = some true) &&
  (decide (PySem.W.mroIn K (He.ga K x) (.type "object") = some true) && (decide (PySem.W.kitOne K (.ref (He.ga K x)) (.ref (He.ga K x)) = some true) && decide (PySem.W.findIn K (.ref (He.ga K x)) "__ne__" = some (some (.builtin "object.__ne__")))))))
theorem ownB_ok {K : PySem.W.Frag} {x : Str} (h : ownB K x = true) : OwnC K (He.ga K x) := by
  unfold ownB at h
  simp only [Bool.and_eq_true, decide_eq_true_eq] at h
  obtain ⟨h1, h2, h3, h4, h5, h6⟩ := h
  exact ⟨h1, h2, h3, h4, h5, h6⟩
/-- isinstance of a value of the built-in class T, y: false; y is no such class's own -/
structure KtyF (K : PySem.W.Frag) (T : String) (C : Addr) : Prop where
  no : PySem.W.kitOne K (.type T) (.ref C) = some false
  nf : PySem.W.notFirst K C (.type T) = true
def ktyB (K : PySem.W.Frag) (p : String × Str) : Bool := decide (PySem.W.kitOne K (.type p.1) (.ref (He.ga K p.2)) = some false) && PySem.W.notFirst K (He.ga K p.2) (.type p.1)
theorem ktyB_ok {K : PySem.W.Frag} {p : String × Str} (h : ktyB K p = true) : KtyF K p.1 (He.ga K p.2) := by
  unfold ktyB at h
  simp only [Bool.and_eq_true, decide_eq_true_eq] at h
  exact ⟨h.1, h.2⟩
structure Xs where
  ini : List InD := []
  ex : List Str := []
  kit : List (Str × Str × Bool) := []
  exm : List (Str × Str × Bool) := []
  own : List Str := []
  kty : List (String × Str) := []
def Xs.ok (P : Program) (x : Xs) (K : PySem.W.Frag) : Bool := x.ini.all (supB P K) && (x.ex.all (ex0B K) && (x.kit.all (kitB K) && ((x.exm.all fun p => (He.Fa.exm p.1 p.2.1 p.2.2).ok K) && (x.own.all (ownB K) && x.kty.all (ktyB K)))))
def obsX (P : Program) (fa : List He.Fa) (fn : List He.DefD) (x : Xs) (K : PySem.W.Frag) : AlX := (He.obsD fa fn K, x.ok P K, x.ini.map fun d => fnY K d.cls)
def valX (fn : List He.DefD) (x : Xs) : AlX := (He.valD fn, true, x.ini.map InD.val)
def obsXG (P : Program) (n : Nat) (fa : List He.Fa) (fn : List He.DefD) (x : Xs) (g : Addr → Option Obj) : AlX := obsX P fa fn x (He.frG g (cStatics :: He.asD g n))
def SaysX (P : Program) (fa : List He.Fa) (fn : List He.DefD) (x : Xs) (K : PySem.W.Frag) : Prop := obsX P fa fn x K = valX fn x
def hookX (P : Program) (n : Nat) (fa : List He.Fa) (fn : List He.DefD) (x : Xs) : PySem.W.Hook where
  α := AlX
  obs := fun s => obsXG P n fa fn x s.heap.get?
  val := fun _ => valX fn x
  says := fun _ h => ∃ K : PySem.W.Frag, K.In h ∧ SaysX P fa fn x K
  of := fun _ _ e => ⟨_, He.frG_in, e⟩
  keeps := fun _ _ _ ⟨K, hK, c⟩ k => ⟨K, PySem.W.Frag.In.keeps hK k, c⟩
theorem obsXG_eq {P : Program} {n : Nat} {fa : List He.Fa} {fn : List He.DefD} {x : Xs} {g : Addr → Option Obj} {s : Shared} (h : ∀ a, g a = s.heap.get? a) : obsXG P n fa fn x g = (hookX P n fa fn x).obs s := by
  have e : g = s.heap.get? := funext h
  rw [e] <;> rfl
section
variable {P : Program} {fa : List He.Fa} {fn : List He.DefD} {x : Xs} {K : PySem.W.Frag}
theorem SaysX.d (c : SaysX P fa fn x K) : He.SaysD fa fn K := congrArg (fun z : AlX => z.1) c
theorem SaysX.b (c : SaysX P fa fn x K) : x.ok P K = true := congrArg (fun z : AlX => z.2.1) c
theorem SaysX.ini (c : SaysX P fa fn x K) (i : Nat) {d : InD} (h : x.ini[i]? = some d := by rfl) : supB P K d = true ∧ fnY K d.cls = d.val := by
  obtain ⟨b, _⟩ := Bool.and_eq_true_iff.mp c.b
  refine ⟨List.all_eq_true.mp b d (List.mem_of_getElem? h), ?_⟩
  have e : x.ini.map (fun d => fnY K d.cls) = x.ini.map InD.val := congrArg (fun z : AlX => z.2.2) c
  have e2 : (x.ini.map fun d => fnY K d.cls)[i]? = (x.ini.map InD.val)[i]? := by rw [e]
  rw [List.getElem?_map, List.getElem?_map, h] at e2
  exact Option.some.inj e2
theorem SaysX.ex {h : Heap} {mg : Str → Option Value} (c : SaysX P fa fn x K) (X : K.In h) (G : h.Ns mainGlobals mg) (i : Nat) {y : Str} (hy : x.ex[i]? = some y := by rfl) : ∃ D : DfE0 K mg y, D.C = He.ga K y := by
  obtain ⟨_, b⟩ := Bool.and_eq_true_iff.mp c.b
  obtain ⟨b, _⟩ := Bool.and_eq_true_iff.mp b
  have z := List.all_eq_true.mp b y (List.mem_of_getElem? hy)
  unfold ex0B at z
  simp only [Bool.and_eq_true] at z
  exact ⟨⟨He.ga K y, PySem.W.mg_of X G (He.eqO_ok z.2.2), errB_ok z.1, z.2.1⟩, rfl⟩
theorem SaysX.kit (c : SaysX P fa fn x K) (i : Nat) {p : Str × Str × Bool} (hy : x.kit[i]? = some p := by rfl) : PySem.W.kitOne K (.ref (He.ga K p.1)) (.ref (He.ga K p.2.1)) = some p.2.2 := by
  obtain ⟨_, b⟩ := Bool.and_eq_true_iff.mp c.b
  obtain ⟨_, b⟩ := Bool.and_eq_true_iff.mp b
  obtain ⟨b, _⟩ := Bool.and_eq_true_iff.mp b
  exact of_decide_eq_true (List.all_eq_true.mp b p (List.mem_of_getElem? hy))
theorem SaysX.exm (c : SaysX P fa fn x K) (i : Nat) {p : Str × Str × Bool} (hy : x.exm[i]? = some p := by rfl) : PySem.W.exmOne K (.ref (He.ga K p.1)) (.ref (He.ga K p.2.1)) = some p.2.2 := by
  obtain ⟨_, b⟩ := Bool.and_eq_true_iff.mp c.b
  obtain ⟨_, b⟩ := Bool.and_eq_true_iff.mp b
  obtain ⟨_, b⟩ := Bool.and_eq_true_iff.mp b
  obtain ⟨b, _⟩ := Bool.and_eq_true_iff.mp b
  exact He.exm_ok (List.all_eq_true.mp b p (List.mem_of_getElem? hy))
theorem SaysX.own (c : SaysX P fa fn x K) (i : Nat) {y : Str} (hy : x.own[i]? = some y := by rfl) : OwnC K (He.ga K y) := by
  obtain ⟨_, b⟩ := Bool.and_eq_true_iff.mp c.b
  obtain ⟨_, b⟩ := Bool.and_eq_true_iff.mp b
  obtain ⟨_, b⟩ := Bool.and_eq_true_iff.mp b
  obtain ⟨_, b⟩ := Bool.and_eq_true_iff.mp b
  obtain ⟨b, _⟩ := Bool.and_eq_true_iff.mp b
  exact ownB_ok (List.all_eq_true.mp b y (List.mem_of_getElem? hy))
theorem SaysX.kty (c : SaysX P fa fn x K) (i : Nat) {p : String × Str} (hy : x.kty[i]? = some p := by rfl) : KtyF K p.1 (He.ga K p.2) := by
  obtain ⟨_, b⟩ := Bool.and_eq_true_iff.mp c.b
  obtain ⟨_, b⟩ := Bool.and_eq_true_iff.mp b
  obtain ⟨_, b⟩ := Bool.and_eq_true_iff.mp b
  obtain ⟨_, b⟩ := Bool.and_eq_true_iff.mp b
  obtain ⟨_, b⟩ := Bool.and_eq_true_iff.mp b
  exact ktyB_ok (List.all_eq_true.mp b p (List.mem_of_getElem? hy))
end
end EX
/-! an error of the program that is kept behind its handler: except (A, B) as e: x = e -/
namespace EK
open PySem PySem.Spec PyProof.Rows L2
/-- the kept error: its class, its dict -/
def Kep (a : Addr) (cls : Value) (d : Option Addr) : HO := .ext fun h => ∃ (ob : Obj) (fs : Array Value), h.get? a = some ob ∧ Zc cls d ob ∧ ob.data = .fields fs
theorem kep_new {P : Program} {w : World} {H : Hp} {h : Heap} {a : Addr} {cls : Value} {d : Option Addr} {ob : Obj} {fs : Array Value} (e : h.get? a = some ob) (z : Zc cls d ob) (q : ob.data = .fields fs) : ObjOk P w H h a (Kep a cls d) :=
  ⟨⟨ob, fs, e, z, q⟩, ⟨ob, e⟩, fun _ _ ⟨o, v, e1, r⟩ st => ⟨o, v, st o e1, r⟩⟩
section
variable {X : Cx} {pins pins' : List (Addr × Obj)} {σ : L2.St} {H : Hp} {s : Shared}
/-- an object that is new since the entry comes to be tracked -/
theorem track {a : Addr} {cls : Value} {d : Option Addr} {ob : Obj} {fs : Array Value} (I : Inv X pins' σ H s) (ha : s.heap.get? a = some ob) (hz : Zc cls d ob) (hd : ob.data = .fields fs) (na : H a = none) (n0 : X.s_0.heap.get? a = none)
    (sub : ∀ p ∈ X.pn ++ pins, p ∈ X.pn ++ pins' ∧ p.1 ≠ a) (nL : a ≠ X.env.locals) : Inv X pins σ (upd H a (Kep a cls d)) s := by
  have old : ∀ b o, X.s_0.heap.get? b = some o → b ≠ a := fun b o e q => by
    rw [q, n0] at e
    cases e
  refine ⟨I.ok, I.os, I.bare, ⟨I.base.keep, I.base.slot, fun b o e n hx => ?_, I.base.there, fun b xs e => ?_, fun b o u e => ?_, fun b ps e => ?_⟩, I.loc, I.cell, ?_, fun y c e => ?_, fun p hp => ?_, fun b u e => ?_, I.len⟩
  · rw [upd_ne (old b o e)]
    exact I.base.free b o e n hx
  · have q := I.base.tups b xs e
    rw [upd_ne (ne_of_none q na)]
    exact q
  · have q := I.base.frzs b o u e
    rw [upd_ne (ne_of_none q na)]
    exact q
  · obtain ⟨more, q⟩ := I.base.tbls b ps e
    exact ⟨more, by rw [upd_ne (ne_of_none q na)]; exact q⟩
  · rw [upd_ne (Ne.symm nL)]
    exact I.free
  · have ne : c ≠ a := fun q => by
      obtain ⟨v, o, ho, hc⟩ := I.cell y c e
      rw [q, ha] at ho
      cases ho
      rw [hd] at hc
      cases hc
    rw [upd_ne ne]
    exact I.freeC y c e
  · obtain ⟨m, ne⟩ := sub p hp
    obtain ⟨e, n, q⟩ := I.pin p m
    exact ⟨e, by rw [upd_ne ne]; exact n, q⟩
  · by_cases hb : b = a
    · subst hb
      rw [upd_same] at e
      cases e
      exact kep_new ha hz hd
    · rw [upd_ne hb] at e
      refine (I.hok b u e).stay (fun _ _ _ q => q) (fun c q => ?_) fun c xs q => ?_
      · rw [upd_ne (ne_of_none q na)]
        exact q
      · rw [upd_ne (ne_of_none q na)]
        exact q
/-- the air over a heap that has grown -/
theorem fly_grow {B h h' : Heap} {l : List Env} {a : Addr} {Z : Obj → Prop} (gr : ∀ b o, h.get? b = some o → h'.get? b = some o) (x : HandSPX.FlyingZ B l a Z h) : HandSPX.FlyingZ B l a Z h' := by
  obtain ⟨x1, x2, x3, oe, vs, T, oT, ts, y1, y2, y3, y4, y5, y6, y7, y8⟩ := x
  exact ⟨fun b o e => gr b o (x1 b o e), x2, Heap.FunFrames.of_keeps (fun b o e _ => ⟨o, gr b o e, rfl⟩) x3, oe, vs, T, oT, ts, gr _ _ y1, y2, y3, y4, y5, y6, gr _ _ y7, y8⟩
end
/-- what 'except (c1, c2) as n: suite' wishes; slot i is n's -/
def wKeep (K : PySem.W.Frag) (c1 c2 : Value) (i : Nat) (ts : Addr → TS) (D : Ends) : WX := fun cls d σ H =>
  PySem.W.exmAny K cls [c1, c2] = some true ∧ ∀ a, H a = none → ts a { nx := fun σ' H' => D.nx (σ'.set i none) (upd H' a (Kep a cls d)), rt := fun _ _ => False, bk := fun _ _ => False, ct := fun _ _ => False } (σ.set i (some (.ref a))) H
section
variable {X : Cx} {x1 x2 n : Str} {c1 c2 : Value} {i kk : Nat} {body suite : List Stmt} {b₀ : Stmt} {p1 p2 p3 p4 pos : Pos} {tb : WX → TS} {ts : Addr → TS}
theorem ps_try_keep (hex : X.ex = []) (hst : X.stack = X.env :: X.outer) (hfm : X.env.frame = some X.env.locals) (hN : X.N.Nodup) (hi : X.N[i]? = some n) (hln : X.env.kindOf n = some .local) (m1 : Names X x1 c1) (m2 : Names X x2 c2)
    (hbody : ∀ (W : WX) (pn : List (Addr × Obj)) (xe : Value → Shared → Prop), Takes (X.tr pn xe) W → PassesOwn (model X.prog X.w) X.A X.env xe → PSs (X.tr pn xe) body (tb W))
    (hsuite : ∀ (a : Addr) (oe : Obj) (pn : List (Addr × Obj)), PSs (X.suite a ((a, oe) :: pn)) (b₀ :: suite) (ts a)) :
    PS X (.Try body [.ExceptHandler (some (.Tuple [.Name x1 p1, .Name x2 p2] kk p3)) (some n) (b₀ :: suite) p4] [] [] pos) (fun D σ H => tb (wKeep X.K c1 c2 i ts D) D σ H) := by
  refine ⟨fun pins s σ H D I h => ?_⟩
  have okX := I.ok
  have frA : X.A.frames = some (X.env :: X.outer) := by rw [okX.frames, hst]
  refine wpAny_Try_except ?_
  refine wpAny_mono ((hbody (wKeep X.K c1 c2 i ts D) (X.pn ++ pins) (fun e t1 => wpAny (model X.prog X.w) X.A (noteFrame e X.env) (fun _ t2 => wpAny (model X.prog X.w) X.A (setFlight e none) (fun _ t3 =>
    wpAny (model X.prog X.w) X.A (handleBy e X.env [.ExceptHandler (some (.Tuple [.Name x1 p1, .Name x2 p2] kk p3)) (some n) (b₀ :: suite) p4]) (SP X pins D) X.xe t3) X.xe t2) X.xe t1) (fun u s' xx => ?_) PassesOwn.looking).run [] s σ H D (I.toTry _) h) (fun f s1 hsp => ?_) (fun e s1 he => he)
  · obtain ⟨a, B, sI, pinsW, σ1, H1, cls, d, rfl, JW, gnd, up, sky, na, os, ag, wm, wk⟩ := xx
    have J : Inv X pins σ1 H1 sI := JW.ofTry okX
    have skyX : Sky B (X.env :: X.outer) a (Zc cls d) X.env.locals s'.heap := by rw [← hst]; exact sky
    show wpAny (model X.prog X.w) X.A (noteFrame (.ref a) X.env) _ _ _
    refine Sky.land Zc.steady frA hfm skyX fun h3 fl3 up3 => ?_
    have noB : B.get? a = none := fl3.2.1
    have J3 : Inv X pins σ1 H1 { s' with heap := h3 } := J.landed gnd fl3.1 (up.trans up3) os ag
    obtain ⟨ob3, fs3, ea3, za3, da3⟩ := fl3.there
    have nfr : a ∉ frs (X.env :: X.outer) := fun hm => by
      obtain ⟨_, o', e', nf⟩ := fl3.2.2.1.mem hm
      rw [ea3] at e'
      cases e'
      exact nf _ da3
    have nL : a ≠ X.env.locals := fun q => nfr (List.mem_filterMap.mpr ⟨X.env, List.mem_cons_self, by rw [hfm, q]⟩)
    have nF : a ∉ X.fs := fun hm => by
      obtain ⟨e, he, q⟩ := List.mem_filterMap.mp hm
      exact nfr (List.mem_filterMap.mpr ⟨e, List.mem_cons_of_mem _ he, q⟩)
    have nst : a ∉ frs X.stack := by rw [hst]; exact nfr
    have nI : sI.heap.get? a = none := by
      cases q : sI.heap.get? a with
      | none => rfl
      | some o =>
        rw [gnd a o q nst] at noB
        cases noB
    have n0 : a ∉ X.ex → X.s_0.heap.get? a = none := fun hx => by
      cases q : X.s_0.heap.get? a with
      | none => rfl
      | some o =>
        obtain ⟨o', q'⟩ := J.base.there a o q hx
        rw [nI] at q'
        cases q'
    have nx : a ∉ X.ex := fun hx => by
      rw [hex] at hx
      cases hx
    have np : ∀ p ∈ X.pn ++ pins, p.1 ≠ a := fun p hp q => by
      have h1 := (J.pin p hp).1
      rw [q, nI] at h1
      cases h1
    have S3 := J3.suite ea3 da3 na nL nF
    refine wpAny_handleBy_cons (codeAny_handlers_test ?_) (by intro q; cases q)
    have name : ∀ {x : Str} {c : Value} {p : Pos} {Q : Value → Shared → Prop} {E : Value → Shared → Prop}, Names X x c → Q c { s' with heap := h3 } → wpAny (model X.prog X.w) (X.A.mark (some (.ref a))) (eval (.Name x p) X.env) Q E { s' with heap := h3 } := fun {x c p Q E} m q => by
      obtain ⟨hg, hdb, hm | ⟨hm, hv, hn⟩⟩ := m
      · exact ld_glob (X := X.suite a ((a, ob3) :: (X.pn ++ pins))) S3 hg hm q hdb
      · exact ld_blt (X := X.suite a ((a, ob3) :: (X.pn ++ pins))) S3 hg hm hv q hn hdb
    refine wpAny_Tuple ?_
    refine wpAny_items_cons (name m1 ?_)
    refine wpAny_items_cons (name m2 ?_)
    refine wpAny_items_nil ⟨by size_fits, ?_⟩
    generalize eg : (h3.push { cls := .type "tuple", data := .seq [c1, c2].toArray }) = g3
    have gr : ∀ b o, h3.get? b = some o → g3.get? b = some o := fun b o e => by
      rw [← eg]
      exact Heap.get?_push_of_some _ e
    have LT : PySem.W.Looks (model X.prog X.w) g3 (typeOf (.ref a)) cls := fun A Q E t k q => wpAny_typeOf_ref (k _ _ (gr _ _ ea3)) (by rw [za3.1]; exact q)
    have LM := PySem.W.exm_tup2 (M := model X.prog X.w) (J3.kIn.keeps gr) LT (by rw [← eg]; exact Heap.get?_push_size h3 rfl) wm
    refine LM.here ?_
    refine codeAny_handlers_suite_as ?_
    have flg := fly_grow gr fl3
    refine HandSPX.lands_againZ flg fun h4 fl4 up4 => ?_
    have J4 : Inv X pins σ1 H1 { s' with heap := h4 } := J.landed gnd fl4.1 ((up.trans (up3.trans (Heap.UpToSlots.of_keeps gr))).trans up4) os ag
    obtain ⟨ob4, fs4, ea4, za4, da4⟩ := fl4.there
    have S4 := J4.suite ea4 da4 na nL nF
    refine store_ok (X := X.suite a ((a, ob4) :: (X.pn ++ pins))) (v := .ref a) S4 hN hi (.inl hln) rfl (fun s5 S5 => ?_) (.inr hln)
    refine wpAny_mono ((hsuite a ob4 (X.pn ++ pins)).run [] s5 _ H1 _ S5 (wk a na)) (fun f s6 hsp => ?_) (fun _ _ q => False.elim q)
    cases f with
    | next =>
      obtain ⟨σ6, H6, S6, q6⟩ := hsp
      have mem6 : ∀ p ∈ X.pn ++ (a, ob4) :: pins, p ∈ (X.suite a ((a, ob4) :: (X.pn ++ pins))).pn ++ [] := fun p hp => by
        show p ∈ ((a, ob4) :: (X.pn ++ pins)) ++ []
        simp only [List.mem_append, List.mem_cons, List.append_nil] at hp ⊢
        rcases hp with h | h | h
        · exact .inr (.inl h)
        · exact .inl h
        · exact .inr (.inr h)
      have T6 : Inv X ((a, ob4) :: pins) σ6 H6 s6 := ⟨okX, S6.os, S6.bare, S6.base, S6.loc, S6.cell, S6.free, S6.freeC, fun p hp => S6.pin p (mem6 p hp), S6.hok, S6.len⟩
      refine gone_ok T6 hN hi hln fun s7 J7 => ?_
      obtain ⟨e7, n7, _⟩ := J7.pin (a, ob4) (List.mem_append_right _ List.mem_cons_self)
      exact ⟨_, _, track J7 e7 za4 da4 n7 (n0 nx) (fun p hp => ⟨by rcases List.mem_append.mp hp with h | h; exact List.mem_append_left _ h; exact List.mem_append_right _ (List.mem_cons_of_mem _ h), np p hp⟩) nL, q6⟩
    | brk =>
      obtain ⟨_, _, _, q6⟩ := hsp
      exact False.elim q6
    | cont =>
      obtain ⟨_, _, _, q6⟩ := hsp
      exact False.elim q6
    | ret u =>
      obtain ⟨_, _, _, _, _, q6⟩ := hsp
      exact False.elim q6
  · cases f with
    | next =>
      obtain ⟨σ', H', JW, q⟩ := hsp
      exact wpAny_execs_nil ⟨σ', H', JW.ofTry okX, q⟩
    | brk =>
      obtain ⟨σ', H', JW, q⟩ := hsp
      exact ⟨σ', H', JW.ofTry okX, q⟩
    | cont =>
      obtain ⟨σ', H', JW, q⟩ := hsp
      exact ⟨σ', H', JW.ofTry okX, q⟩
    | ret u =>
      obtain ⟨v, σ', H', JW, r, q⟩ := hsp
      exact ⟨v, σ', H', JW.ofTry okX, r, q⟩
end
end EK
namespace EK
open PySem PySem.Spec PyProof.Rows L2
/-! ### what is asked of a kept error -/
/-- isinstance(x, c), x a kept error -/
def rIsK (K : PySem.W.Frag) : List V → Hp → VK → Prop := fun xs H Q => ∃ (a C : Addr) (d : Option Addr) (c : V) (cv : Value) (b : Bool), xs = [.ref a, c] ∧ H a = some (Kep a (.ref C) d) ∧ EX.ErrC K C ∧ (∀ dd, d = some dd → ∃ fs, H dd = some (.xd fs)) ∧ (∀ u, RelV c u → u = cv) ∧ PySem.W.kitOne K (.ref C) cv = some b ∧ Q (.bl b) H
theorem kep_inst {X : Cx} {pins : List (Addr × Obj)} {σ : L2.St} {H : Hp} {s : Shared} {a C : Addr} {d : Option Addr} (I : L2.Inv X pins σ H s) (ha : H a = some (Kep a (.ref C) d)) (hd : ∀ dd, d = some dd → ∃ fs, H dd = some (.xd fs)) : ∃ ob od, PySem.W.InstAt s.heap a ob C od := by
  obtain ⟨⟨ob, fs, e, z, q⟩, _, _⟩ := I.hok a _ ha
  cases d with
  | none => exact ⟨ob, none, e, z.1, by unfold PySem.W.notCls; rw [q] <;> rfl, by rw [z.2]; trivial⟩
  | some dd =>
    obtain ⟨gs, ed⟩ := hd dd rfl
    have hx : ObjOk X.prog X.w H s.heap dd (.xd gs) := I.hok dd _ ed
    obtain ⟨mA, hns, _⟩ := hx
    obtain ⟨od, ho, _⟩ := lookIn_ns hns
    exact ⟨ob, some od, e, z.1, by unfold PySem.W.notCls; rw [q] <;> rfl, by rw [z.2]; exact ho⟩
theorem call_isK {X : Cx} : CallR X (.builtin "isinstance") (rIsK X.K) := by
  intro pins s σ H xs us Q I r h
  obtain ⟨a, C, d, c, cv, b, rfl, ha, T, hd, hcv, e, q⟩ := h
  obtain ⟨ob, od, J⟩ := kep_inst I ha hd
  cases r with
  | cons rx rr =>
    cases rr with
    | cons rt rr =>
      cases rr
      cases rx
      cases hcv _ rt
      exact PySem.W.kia_one (EX.kit_err T) I.kIn J e (fun z => nomatch z) fun tk => ⟨.bl b, H, I.kept (t' := tk) fun _ _ z => z, rfl, q⟩
/-- x.f, x a kept error -/
def tXfK (K : PySem.W.Frag) (f : Str) (te : TE) : TE := fun σ H Q => te σ H fun x H1 => ∃ (a C dd : Addr) (fs : List (Str × V)) (v : V), x = .ref a ∧ H1 a = some (Kep a (.ref C) (some dd)) ∧ EX.ErrC K C ∧ PySem.W.findIn K (.ref C) f = some none ∧ H1 dd = some (.xd fs) ∧ fs.lookup f = some v ∧ Q v H1
theorem pe_xfK {X : Cx} {e : Expr} {te : TE} {pos : Pos} {n : Str} (he : PE X e te) (hb : attributeBase e n X.env (eval e X.env) = eval e X.env := by rfl) : PE X (.Attribute e n pos) (tXfK X.K n te) := by
  refine ⟨fun pins s σ H Q I h => ?_⟩
  refine attr_of hb (thn (he.run pins s σ H _ I h) fun u s1 hh => ?_)
  obtain ⟨x, H1, I1, rx, a, C, dd, fs, v, ex, ha, T, hno, ea, l, q⟩ := hh
  subst ex
  obtain rfl : u = Value.ref a := rx
  obtain ⟨⟨ob, gs, e1, z, dq⟩, _, _⟩ := I1.hok a _ ha
  have hx : ObjOk X.prog X.w H1 s1.heap dd (.xd fs) := I1.hok dd _ ea
  obtain ⟨mA, hns, hr⟩ := hx
  obtain ⟨od, ho, hl⟩ := lookIn_ns hns
  obtain ⟨u, hu, ru⟩ := RelO.some_of (v := v) (o := mA n) (by rw [← l]; exact hr n)
  have J : PySem.W.InstAt s1.heap a ob C (some od) := ⟨e1, z.1, by unfold PySem.W.notCls; rw [dq] <;> rfl, by rw [z.2]; exact ho⟩
  exact HandSPX.exc_get I1.kIn J T.xf.ga T.xf.gg T.xf.exC (PySem.W.findObj_own T.xf.hdC hno rfl (by rw [hl, hu])) (handed_of ru) ⟨v, H1, I1.tok _, ru, q⟩
/-! ### the wish behind a state of known length -/
theorem takes_len {X : Cx} {W : WX} (t : Takes X W) : Takes X (fun c d σ H => σ.length = X.N.length → W c d σ H) := fun u s' ⟨a, B, sI, pins, σ, H, cls, d, e, I, gnd, up, sky, na, os, ag, w⟩ =>
  t u s' ⟨a, B, sI, pins, σ, H, cls, d, e, I, gnd, up, sky, na, os, ag, w I.len⟩
/-- a reading from a stronger one -/
theorem pe_more {X : Cx} {e : Expr} {te : TE} (he : PE X e te) : PE X e (fun σ H Q => ∃ Q' : VK, te σ H Q' ∧ ∀ v H', Q' v H' → Q v H') :=
  ⟨fun pins s σ H Q I ⟨Q', h, m⟩ => wpAny_mono (he.run pins s σ H Q' I h) (fun u s1 ⟨v, H1, I1, r, q⟩ => ⟨v, H1, I1, r, m _ _ q⟩) (fun _ _ x => x)⟩
/-- a def whose code object is known -/
theorem funD_okC {P : Program} {w : World} {K : PySem.W.Frag} {mg : Str → Option Value} {base : Heap} {x qual : Str} {params : Arguments} {body : List Stmt} {scope : Scope} {dvs : List V} {kws : List (Str × V)} {f c : Addr} {fd : FuncData} {CX : CXT} {N ps : List Str} {k : Nat} {sp : Sp}
    (F : FunD K x qual params body scope dvs kws f fd) (hc : ∀ oc od gd osl, K.lookup f = some ⟨oc, od, .func gd, osl⟩ → gd.code = .ref c) (S : FnScope N ps scope) (len : ∀ vs H Q E, sp vs H Q E → vs.length = ps.length)
    (bd : ∀ (A : Around) (outer : List Env) (s : Shared) (H : Hp) (vs : List V) (Q : VK) (E : XK), Room k (A.deeper (envOfC qual scope s.heap.objs.size f (.ref c))) → sp vs H Q E →
      ∃ t, PSs (cxOf CX P w K mg base N qual scope f (.ref c) A outer s H E) body t ∧ t { nx := fun _ H' => Q .non H', rt := Q } (start N vs) H) : FnOk P w K mg base CX (k + 1) f fd ps sp := by
  obtain ⟨oc, od, dV, kV, doc, pm, an, cdv, ct, osl, rfl, lk, hcd, _, _⟩ := F.ex
  have e : cdv = .ref c := hc _ _ _ _ lk
  subst e
  exact fn_of lk hcd S len fun A outer s H vs Q E hr hsp => bd A outer s H vs Q E hr hsp
end EK
/-! a try whose clauses 'except A as e', 'except B as e' all name the error; a class made that may raise -/
namespace EK
open PySem PySem.Spec PyProof.Rows L2
abbrev Cl1 := Value × (Addr → Value → Option Addr → TS)
/-- the ends of a clause's suite: slot i is empty behind it -/
def EndsI (i : Nat) (D : Ends) : Ends := { nx := fun σ H => D.nx (σ.set i none) H, rt := D.rt, bk := fun σ H => D.bk (σ.set i none) H, ct := fun σ H => D.ct (σ.set i none) H }
/-- one of the clauses takes the error, those before it do not -/
def wEach (K : PySem.W.Frag) (i : Nat) (D : Ends) : List Cl1 → WX
  | [] => fun _ _ _ _ => False
  | (c, ts) :: l => fun cls d σ H => (PySem.W.exmOne K cls c = some true ∧ ∀ a, H a = none → ts a cls d (EndsI i D) (σ.set i (some (.ref a))) H) ∨ (PySem.W.exmOne K cls c = some false ∧ wEach K i D l cls d σ H)
inductive Each (X : Cx) (n : Str) : List ExceptHandler → List Cl1 → Prop
  | nil : Each X n [] []
  | cons {x : Str} {c : Value} {ts : Addr → Value → Option Addr → TS} {b₀ : Stmt} {suite : List Stmt} {np pos : Pos} {hds : List ExceptHandler} {l : List Cl1} (hc : Names X x c)
      (hsu : ∀ (a : Addr) (oe : Obj) (cls : Value) (d : Option Addr) (pn : List (Addr × Obj)), Zc cls d oe → (∃ vs, oe.data = .fields vs) → PSs (X.suite a ((a, oe) :: pn)) (b₀ :: suite) (ts a cls d)) (r : Each X n hds l) :
      Each X n (.ExceptHandler (some (.Name x np)) (some n) (b₀ :: suite) pos :: hds) ((c, ts) :: l)
section
variable {X : Cx} {n : Str} {i : Nat} {body : List Stmt} {h₀ : ExceptHandler} {hds : List ExceptHandler} {l : List Cl1} {pos : Pos} {tb : WX → TS}
theorem ps_try_each (hst : X.stack = X.env :: X.outer) (hfm : X.env.frame = some X.env.locals) (hN : X.N.Nodup) (hi : X.N[i]? = some n) (hln : X.env.kindOf n = some .local)
    (hbody : ∀ (W : WX) (pn : List (Addr × Obj)) (xe : Value → Shared → Prop), Takes (X.tr pn xe) W → PassesOwn (model X.prog X.w) X.A X.env xe → PSs (X.tr pn xe) body (tb W))
    (hh : Each X n (h₀ :: hds) l) : PS X (.Try body (h₀ :: hds) [] [] pos) (fun D σ H => tb (wEach X.K i D l) D σ H) := by
  refine ⟨fun pins s σ H D I h => ?_⟩
  have okX := I.ok
  have frA : X.A.frames = some (X.env :: X.outer) := by rw [okX.frames, hst]
  refine wpAny_Try_except ?_
  refine wpAny_mono ((hbody (wEach X.K i D l) (X.pn ++ pins) (fun e t1 => wpAny (model X.prog X.w) X.A (noteFrame e X.env) (fun _ t2 => wpAny (model X.prog X.w) X.A (setFlight e none) (fun _ t3 =>
    wpAny (model X.prog X.w) X.A (handleBy e X.env (h₀ :: hds)) (SP X pins D) X.xe t3) X.xe t2) X.xe t1) (fun u s' xx => ?_) PassesOwn.looking).run [] s σ H D (I.toTry _) h) (fun f s1 hsp => ?_) (fun e s1 he => he)
  · obtain ⟨a, B, sI, pinsW, σ1, H1, cls, d, rfl, JW, gnd, up, sky, na, os, ag, wish⟩ := xx
    have J : Inv X pins σ1 H1 sI := JW.ofTry okX
    have skyX : Sky B (X.env :: X.outer) a (Zc cls d) X.env.locals s'.heap := by rw [← hst]; exact sky
    show wpAny (model X.prog X.w) X.A (noteFrame (.ref a) X.env) _ _ _
    refine Sky.land Zc.steady frA hfm skyX fun h3 fl3 up3 => ?_
    have J3 : Inv X pins σ1 H1 { s' with heap := h3 } := J.landed gnd fl3.1 (up.trans up3) os ag
    obtain ⟨ob3, fs3, ea3, za3, da3⟩ := fl3.there
    have nfr : a ∉ frs (X.env :: X.outer) := fun hm => by
      obtain ⟨_, o', e', nf⟩ := fl3.2.2.1.mem hm
      rw [ea3] at e'
      cases e'
      exact nf _ da3
    have nL : a ≠ X.env.locals := fun q => nfr (List.mem_filterMap.mpr ⟨X.env, List.mem_cons_self, by rw [hfm, q]⟩)
    have nF : a ∉ X.fs := fun hm => by
      obtain ⟨e, he, q⟩ := List.mem_filterMap.mp hm
      exact nfr (List.mem_filterMap.mpr ⟨e, List.mem_cons_of_mem _ he, q⟩)
    have S3 := J3.suite ea3 da3 na nL nF
    have LT : PySem.W.Looks (model X.prog X.w) h3 (typeOf (.ref a)) cls := fun A Q E t k q => wpAny_typeOf_ref (k _ _ ea3) (by rw [za3.1]; exact q)
    have name : ∀ {x : Str} {c : Value} {p : Pos} {Q : Value → Shared → Prop} {E : Value → Shared → Prop}, Names X x c → Q c { s' with heap := h3 } → wpAny (model X.prog X.w) (X.A.mark (some (.ref a))) (eval (.Name x p) X.env) Q E { s' with heap := h3 } := fun {x c p Q E} m q => by
      obtain ⟨hg, hdb, hm | ⟨hm, hv, hn⟩⟩ := m
      · exact ld_glob (X := X.suite a ((a, ob3) :: (X.pn ++ pins))) S3 hg hm q hdb
      · exact ld_blt (X := X.suite a ((a, ob3) :: (X.pn ++ pins))) S3 hg hm hv q hn hdb
    have each : ∀ {hs : List ExceptHandler} {m : List Cl1}, Each X n hs m → wEach X.K i D m cls d σ1 H1 → wpAny (model X.prog X.w) X.A (handleBy (.ref a) X.env hs) (SP X pins D) X.xe { s' with heap := h3 } := by
      intro hs m hk
      induction hk with
      | nil => exact fun q => False.elim q
      | @cons x c ts b₀ suite np pos2 hs2 m2 hc hsu r ih =>
        intro q
        refine wpAny_handleBy_cons (codeAny_handlers_test (name hc ?_)) (by intro q; cases q)
        rcases q with ⟨yes, go⟩ | ⟨no, go⟩
        · refine (PySem.W.exm_one (M := model X.prog X.w) J3.kIn LT yes).here ?_
          refine codeAny_handlers_suite_as ?_
          refine HandSPX.lands_againZ fl3 fun h4 fl4 up4 => ?_
          have J4 : Inv X pins σ1 H1 { s' with heap := h4 } := J.landed gnd fl4.1 ((up.trans up3).trans up4) os ag
          obtain ⟨ob4, fs4, ea4, za4, da4⟩ := fl4.there
          have S4 := J4.suite ea4 da4 na nL nF
          refine store_ok (X := X.suite a ((a, ob4) :: (X.pn ++ pins))) (v := .ref a) S4 hN hi (.inl hln) rfl (fun s5 S5 => ?_) (.inr hln)
          refine wpAny_mono ((hsu a ob4 cls d (X.pn ++ pins) za4 ⟨_, da4⟩).run [] s5 _ H1 _ S5 (go a na)) (fun f s6 hsp => ?_) (fun _ _ q => False.elim q)
          have tail : ∀ {σ6 : L2.St} {H6 : Hp} {Q : Shared → Prop}, Inv (X.suite a ((a, ob4) :: (X.pn ++ pins))) [] σ6 H6 s6 → (∀ s7, Inv X pins (σ6.set i none) H6 s7 → Q s7) →
              wpAny (model X.prog X.w) X.A (do bindName X.env n .none; unbindBehindTheSuite X.env n pos2) (fun _ s7 => Q s7) X.xe s6 := fun {σ6 H6 Q} S6 hq => gone_ok (S6.unsuite okX) hN hi hln hq
          cases f with
          | ret u =>
            obtain ⟨v6, σ6, H6, S6, r6, q6⟩ := hsp
            exact tail S6 fun s7 J7 => ⟨_, _, _, J7, r6, q6⟩
          | next =>
            obtain ⟨σ6, H6, S6, q6⟩ := hsp
            exact tail S6 fun s7 J7 => ⟨_, _, J7, q6⟩
          | brk =>
            obtain ⟨σ6, H6, S6, q6⟩ := hsp
            exact tail S6 fun s7 J7 => ⟨_, _, J7, q6⟩
          | cont =>
            obtain ⟨σ6, H6, S6, q6⟩ := hsp
            exact tail S6 fun s7 J7 => ⟨_, _, J7, q6⟩
        · exact (PySem.W.exm_one (M := model X.prog X.w) J3.kIn LT no).here (ih go)
    exact each hh wish
  · cases f with
    | ret u =>
      obtain ⟨v, σ', H', JW, r, q⟩ := hsp
      exact ⟨v, σ', H', JW.ofTry okX, r, q⟩
    | next =>
      obtain ⟨σ', H', JW, q⟩ := hsp
      exact wpAny_execs_nil ⟨σ', H', JW.ofTry okX, q⟩
    | brk =>
      obtain ⟨σ', H', JW, q⟩ := hsp
      exact ⟨σ', H', JW.ofTry okX, q⟩
    | cont =>
      obtain ⟨σ', H', JW, q⟩ := hsp
      exact ⟨σ', H', JW.ofTry okX, q⟩
end
section
variable {X : Cx} {CX : CXT} {k : Nat} {f C : Addr} {fd : FuncData} {ps : List Str} {sp : Sp} {E : L2.St → XK} {x : Str} {p pos : Pos} {e : Expr} {es : List Expr} {t : TA}
/-- C(e, ..): a new object, or what __init__ raises, told by the names' state -/
def tMakeS (C : Addr) (sp : Sp) (E : L2.St → XK) (t : TA) : TE := fun σ H Q => t σ H fun vs H1 => ∀ x dx, H1 x = none → H1 dx = none → dx ≠ x → sp (.ref x :: vs) (upd (upd H1 dx (.own x)) x (.ins C dx [])) (fun v H2 => v = .non ∧ Q (.ref x) H2) (E σ)
theorem pe_makeS (M : Mk X.K C f) (F : FnOk X.prog X.w X.K X.mg X.base CX k f fd ps sp) (hr : Room (k + 1) X.A) (hg : Gl X x) (hm : X.mg x = some (.ref C)) (hb : Binds X.K fd ps []) (hx : ∀ σ, PassesAt CX X σ (E σ))
    (ha : PA X (e :: es) t) (hdb : (x == ("__debug__" : Str)) = false := by decide) (he : starEach (e :: es) X.env = (false, eval e X.env) :: starEach es X.env := by rfl) (hpl : (backTo pos (starEach es X.env)).any (·.1) = false := by rfl) :
    PE X (.Call (.Name x p) (e :: es) [] pos) (tMakeS C sp E t) := by
  refine ⟨fun pins s σ H Q I h => ?_⟩
  refine wpAny_Call_Name_kw (ld_glob I hg hm ?_ hdb)
  refine PySem.W.callWith_K (h₀ := X.base) I.ok.mod.kin M.kp (thn (ha.run pos pins s σ H _ I h) fun us s1 ⟨vs, H1, I1, r, q⟩ => ⟨I1.kIn, ?_⟩) he hpl
  have a0 := I1.hok.fresh (Nat.le_refl s1.heap.objs.size)
  have a1 := I1.hok.fresh (Nat.le_succ s1.heap.objs.size)
  have hq := q (s1.heap.objs.size + 1) s1.heap.objs.size a1 a0 (Nat.ne_of_lt (Nat.lt_succ_self _))
  have J := Inv.made (C := C) I1
  have rv : Vals (V.ref (s1.heap.objs.size + 1) :: vs) (Value.ref (s1.heap.objs.size + 1) :: us) := .cons rfl r
  have hl : ((Value.ref (s1.heap.objs.size + 1) :: us) ++ ([] : List Value)).length = ps.length := by
    rw [List.append_nil, ← F.len _ _ _ _ hq]
    exact rv.length.symm
  refine wpAny_call (make_map (f := f) I1.kIn M.makes M.init (beq_iff_eq.mp M.fn) (codeAny_mono (F.run _ X.stack _ _ ⟨Value.ref (s1.heap.objs.size + 1) :: us, []⟩ (Value.ref (s1.heap.objs.size + 1) :: us) _ _ (E σ) (hr.make C us [])
    (J.env0.make C us []) (by have b := hb _ (Value.ref (s1.heap.objs.size + 1) :: us) J.kIn hl; rw [List.append_nil] at b; exact b) rv hq) fun r s' hq' => ?_))
  match r, hq' with
  | .error er, hq' => exact hx σ pins _ _ er s' J hq'
  | .ok (.ret u), hq' =>
    obtain ⟨v, H', I3, r3, ev, q3⟩ := J.after hq'
    subst ev
    exact ⟨r3, ⟨V.ref (s1.heap.objs.size + 1), H', I3, rfl, q3⟩⟩
end
end EK
/-! The law's own def, run where nothing is being shown (no guard stands): repr of lists and tuples there. -/
namespace GA
open PySem PySem.Spec PyProof.Rows L2
/-- the def keeps its promise when the law's caller calls it -/
structure FnAt (P : Program) (w : World) (K : PySem.W.Frag) (mg : Str → Option Value) (base : Heap) (f : Addr) (fd : FuncData) (ps : List Str) (sp : Sp) : Prop where
  run : ∀ (s : Shared) (H : Hp) (args : Args) (us : List Value) (vs : List V) (Q : VK) (E : XK), Env0 P w K mg base callerA [] s H → BindsTo s fd args (ps.zip us) → Vals vs us → sp vs H Q E →
    codeAny (model P w) callerA (.call (.ref f) args) (CR CX0 [] P w H s Q E) s
section
variable {P : Program} {w : World} {K : PySem.W.Frag} {mg : Str → Option Value} {base : Heap} {x qual : Str} {params : Arguments} {body : List Stmt} {scope : Scope} {dvs : List V} {kws : List (Str × V)} {f : Addr} {fd : FuncData}
theorem okAt {N ps : List Str} {k : Nat} {sp : Sp} (F : FunD K x qual params body scope dvs kws f fd) (S : FnScope N ps scope) (hR : Room (k + 1) callerA) (len : ∀ vs H Q E, sp vs H Q E → vs.length = ps.length)
    (bd : ∀ (cdv : Value) (s : Shared) (H : Hp) (vs : List V) (Q : VK) (E : XK), Room k (callerA.deeper (envOfC qual scope s.heap.objs.size f cdv)) → sp vs H Q E →
      ∃ t, PSs (cxOf CX0 P w K mg base N qual scope f cdv callerA [] s H E) body t ∧ t { nx := fun _ H' => Q .non H', rt := Q } (start N vs) H) : FnAt P w K mg base f fd ps sp := by
  obtain ⟨oc, od, dV, kV, doc, pm, an, cdv, ct, osl, rfl, lk, hcd, _, _⟩ := F.ex
  refine ⟨fun s H args us vs Q E e0 hb r hsp => ?_⟩
  have vl := len _ _ _ _ hsp
  have kx : K.In s.heap := e0.mod.kin.keeps fun b o e => (e0.bs b o e).1
  have nl : s.heap.NoLimit := e0.mod.nolimit.keeps fun b o e => (e0.bs b o e).1
  have kinds : ∀ y ∈ ps.zip us, scope.names.lookup y.1 = some .local ∨ (scope.names.lookup y.1 = some .cell ∧ ((cellsFrom (s.heap.objs.size + 1) scope.names []).lookup y.1).isSome = true) := by
    rintro ⟨y1, y2⟩ hy
    rcases S.par y1 (List.of_mem_zip hy).1 with q | q
    · left; exact q
    · right; exact ⟨q, PySem.W.cellsFrom_some _ _ _ (.inl q)⟩
  refine codeAny_call_function hR.depth (kx _ _ lk) rfl S.co S.gen rfl (PySem.W.codeRec_of kx hcd) (hb _ _ _ _ ?_)
  refine wpAny_newFunctionEnv_cells S.kind kinds fun env ee s1 ic => ?_
  subst ee
  refine ⟨nl.keeps ic.toInCall.keep, codeAny_func ?_⟩
  obtain ⟨t, pt, rd⟩ := bd cdv s H vs Q E (hR.deeper _) hsp
  have iv : L2.Inv (cxOf CX0 P w K mg base N qual scope f cdv callerA [] s H E) [] (start N vs) H s1 := inv_start S hR.hd e0 vl r ic
  refine wpAny_mono (pt.run [] s1 (start N vs) H _ iv rd) (fun fl s2 q => ?_) fun e s2 q => q
  have out : ∀ {σ2 : L2.St} {H2 : Hp} {a : V} {u : Value}, L2.Inv (cxOf CX0 P w K mg base N qual scope f cdv callerA [] s H E) [] σ2 H2 s2 → RelV a u → Q a H2 → CE [] P w H s Q u s2 := by
    intro σ2 H2 a u J ra qa
    exact ⟨a, H2, J.os, J.bare, J.base, J.hok, ra, qa⟩
  cases fl with
  | ret u =>
    obtain ⟨a, σ2, H2, J, ra, qa⟩ := q
    exact out J ra qa
  | next =>
    obtain ⟨σ2, H2, J, qa⟩ := q
    exact out (a := V.non) (u := Value.none) J rfl qa
  | brk =>
    obtain ⟨_, _, _, z⟩ := q
    exact z.elim
  | cont =>
    obtain ⟨_, _, _, z⟩ := q
    exact z.elim
end
/-- the law's call -/
theorem lawAt {P : Program} {w : World} {K : PySem.W.Frag} {mg mb : Str → Option Value} {fa a : Addr} {fd : FuncData} {x : Str} {sp : Sp} {s₁ : Shared} {vs : List Value} {ns : List Int}
    (kx : K.In s₁.heap) (hn : s₁.heap.Ns mainGlobals mg) (hb : s₁.heap.Ns builtinsNs mb) (hbb : ∀ y : Str, y ≠ "__name__" → mb y = bootBuiltins y) (lim : s₁.heap.NoLimit) (hg : s₁.gens = #[])
    (ha : s₁.heap.get? a = some { cls := .type "list", data := .seq vs.toArray }) (hi : IntsAre vs ns) (hl : ns.length ≤ sizeLine)
    (F : ∀ base : Heap, K.In base → base.Ns mainGlobals mg → FnAt P w K mg base fa fd [x] sp) (bd : ∀ (s : Shared) (u : Value), BindsTo s fd ⟨[u], []⟩ [(x, u)])
    (hsp : ∀ H : Hp, Only H → SqL K H a (ns.map V.int) → sp [.ref a] H (fun v _ => v = .bl true) fun _ _ _ => False) :
    codeAny (model P w) callerA (.call (.ref fa) ⟨[.ref a], []⟩) (fun r s' => r = .ok (.ret (.bool true)) ∧ OldK s₁.heap s'.heap ∧ s'.os = s₁.os ∧ AllBare s'.gens) s₁ := by
  have rel := vals_ints hi
  have lenV := hi.length
  have main : ∀ H : Hp, Only H → SqL K H a (ns.map V.int) → HOk P w H s₁.heap → (∀ b, H b ≠ none → b = a) → (H a ≠ none → K.lookup a = none) →
      codeAny (model P w) callerA (.call (.ref fa) ⟨[.ref a], []⟩) (fun r s' => r = .ok (.ret (.bool true)) ∧ OldK s₁.heap s'.heap ∧ s'.os = s₁.os ∧ AllBare s'.gens) s₁ := by
    intro H only sq ok onlyA notK
    have low : ∀ {b : Addr} {o : Obj}, s₁.heap.get? b = some o → H b = none → (hidT s₁.heap H).get? b = some o := fun e z => hidT_get e z
    have noD : ∀ {b : Addr} {o : Obj} {es : Array DictEntry} {ep : Nat}, s₁.heap.get? b = some o → o.data = .dict es ep → H b = none := by
      intro b o es ep e d
      cases q : H b with
      | none => rfl
      | some u =>
        have eb := onlyA b (by rw [q]; simp)
        subst eb
        rw [ha] at e
        cases e
        cases (show Data.seq vs.toArray _ = Data.dict es ep from d)
    have nsL : ∀ {b : Addr} {m : Str → Option Value}, s₁.heap.Ns b m → (hidT s₁.heap H).Ns b m := by
      rintro b m ⟨o, es, ep, e, d, r⟩
      exact ⟨o, es, ep, low e (noD e d), d, r⟩
    have kb : K.In (hidT s₁.heap H) := fun b o e => low (kx b o e) (by
      cases q : H b with
      | none => rfl
      | some u =>
        have eb := onlyA b (by rw [q]; simp)
        subst eb
        have z := notK (by rw [q]; simp)
        rw [z] at e
        cases e)
    have hM : Mod K mg (hidT s₁.heap H) := ⟨kb, nsL hn, ⟨mb, nsL hb, hbb⟩, by
      obtain ⟨mc, z1, z2⟩ := lim
      exact ⟨mc, nsL z1, z2⟩⟩
    have e0 : Env0 P w K mg (hidT s₁.heap H) callerA [] s₁ H := ⟨rfl, hM, fun b o e => of_hidT e, Nat.le_of_eq (hidT_size _ _), trivial, fun b q => absurd (show b ∈ ([] : List Addr) from q) (by simp), ok, .of_eq hg⟩
    refine codeAny_mono ((F _ kb (nsL hn)).run s₁ H ⟨[.ref a], []⟩ [.ref a] [.ref a] _ _ e0 (bd s₁ (.ref a)) (.cons rfl .nil) (hsp H only sq)) fun r s2 h => ?_
    cases r with
    | error e => exact (show False from h).elim
    | ok fl =>
      cases fl with
      | next => exact (show False from h).elim
      | brk => exact (show False from h).elim
      | cont => exact (show False from h).elim
      | ret u =>
        obtain ⟨v, H2, os, bare, un, ok2, rv, qv⟩ := h
        obtain rfl : v = .bl true := qv
        obtain rfl : u = Value.bool true := rv
        refine ⟨rfl, OldK.of_keep fun b o e => ?_, os, bare⟩
        cases q : H b with
        | none => exact un.keep b o e q (fun z => absurd (show b ∈ ([] : List Addr) from z) (by simp)) (by simp)
        | some u =>
          rcases only b with z | ⟨ob, xs, z⟩
          · rw [q] at z
            cases z
          · have z2 := un.frzs b ob _ z
            obtain ⟨e1, _⟩ := ok b _ z
            obtain ⟨e2, _⟩ := ok2 b _ z2
            rw [e] at e1
            cases e1
            exact e2
  cases hk : K.lookup a with
  | some o =>
    have e := kx a o hk
    rw [ha] at e
    cases e
    exact main (fun _ => none) (fun _ => .inl rfl) (.inr ⟨_, vs.toArray, _, hk, rfl, rfl, rfl, by rw [List.size_toArray, lenV]; exact hl, by simpa using rel⟩) (fun b u z => by cases (show (none : Option HO) = some u from z)) (fun b z => absurd rfl z) fun z => absurd rfl z
  | none =>
    refine main (fun b => if b = a then some (.frz { cls := .type "list", data := .seq vs.toArray } (.lst (ns.map V.int))) else none) (fun b => ?_) (.inl (.inr ⟨{ cls := .type "list", data := .seq vs.toArray }, if_pos rfl⟩)) (fun b u z => ?_) (fun b z => ?_) fun _ => hk
    · by_cases c : b = a
      · exact .inr ⟨_, _, if_pos c⟩
      · exact .inl (if_neg c)
    · by_cases c : b = a
      · have y := (if_pos c).symm.trans z
        cases y
        subst c
        exact ⟨ha, by rw [List.length_map]; exact hl, vs, _, rel, ha⟩
      · have y := (if_neg c).symm.trans z
        cases y
    · by_cases c : b = a
      · exact c
      · exact absurd (if_neg c) z
/-- the end of a law by such a promise -/
theorem walkAt {l : PySem.W.OpenLaw} {n : Nat} {q : Program} {loose : List Str} {XP : (Str → Option Value) → Heap → Prop} {YP : World → Heap → Prop} {d : DefRec} {x : Str}
    (hn : l.most = some n) (hn2 : n ≤ sizeLine) (hdf : d.params.defaults = [])
    (F : ∀ (w : World) (mg : Str → Option Value) (fa : Addr) (h : Heap), YP w h → h.Ns mainGlobals mg → mg d.name = some (.ref fa) →
      ∃ (K : PySem.W.Frag) (fd : FuncData) (sp : Sp), K.In h ∧ (∀ (s : Shared) (u : Value), BindsTo s fd ⟨[u], []⟩ [(x, u)]) ∧
        (∀ (H : Hp) (a : Addr) (ns : List Int), ns.length ≤ n → Only H → SqL K H a (ns.map V.int) → sp [.ref a] H (fun v _ => v = .bl true) fun _ _ _ => False) ∧
        ∀ base : Heap, K.In base → base.Ns mainGlobals mg → FnAt l.prog w K mg base fa fd [x] sp) :
    PySem.W.WalkO q loose XP YP l.row.toRowW d [] (fun f vs => PySem.call f vs) := by
  refine Att.attach_call hn hdf fun w s₀ s₁ mg mb fa o pm cd doc a vs ns G Y ho hd hcd hmg hobj hints hlen hg => ?_
  obtain ⟨K, fd, sp, kx, hb, hsp, hF⟩ := F w mg fa _ Y G.T.g hmg
  exact lawAt kx G.T.g G.T.b G.T.builtins G.T.nolimit hg hobj hints (Nat.le_trans hlen hn2) hF hb fun H only sq => hsp H a ns hlen only sq
/-! ### repr of what is read as data -/
section
variable {X : Cx}
theorem cr_reprD (hg : X.A.guards = some []) (hu : X.A.units + 66 < cLine) : CallR X (.builtin "repr") (fun xs H Q => ∃ (a : Addr) (d : PyData), xs = [.ref a] ∧ Dp X.K H (.ref a) d ∧ d.showable = true ∧ d.hasDict = false ∧ d.depth ≤ 64 ∧ d.shown.length ≤ sizeLine ∧ Q (.str d.shown) H) := by
  intro pins s σ H xs us Q I r h
  obtain ⟨a, d, rfl, hd, sh, nd, dp, sz, q⟩ := h
  rw [Vals.ref1 r]
  obtain ⟨as, rd⟩ := Dp.reads I d _ _ hd rfl
  refine repr_of_reads' rd sh (fun z => by rw [nd] at z; cases z) hg (by omega) (fun b o e => e) (fun h' u tk kp => ?_) sz
  exact ⟨.str d.shown, H, I.kept (t' := tk) kp, ⟨_, rfl⟩, q⟩
theorem cr_reprN : CallR X (.builtin "repr") (fun xs H Q => xs = [.non] ∧ Q (.str "None") H) := by
  intro pins s σ H xs us Q I r h
  obtain ⟨rfl, q⟩ := h
  obtain ⟨u, rfl, ru⟩ := vals1 r
  cases ru
  exact PySem.P.repr_of_none ⟨.str _, H, I.tok _, ⟨_, rfl⟩, q⟩
end
end GA
namespace DW
open PySem PySem.Spec PyProof.Rows L2
/-! ### a def that stands in the module -/
structure Df (K : PySem.W.Frag) (mg : Str → Option Value) (x : Str) (st : Stmt) (ps : List Str) where
  f : Addr
  fd : FuncData
  F : FunD K x x (defArgs st) (defBody st) (defScope st) [] [] f fd
  g : mg x = some (.ref f)
  b : Binds K fd ps []
/-! ### heaps: all but the tape stays -/
structure Kp (t : Addr) (H H' : Hp) : Prop where
  old : ∃ kvs, H t = some (.dK kvs)
  new : ∃ kvs, H' t = some (.dK kvs)
  oth : ∀ b o, b ≠ t → H b = some o → H' b = some o
theorem Kp.trans {t : Addr} {H H1 H2 : Hp} (a : Kp t H H1) (b : Kp t H1 H2) : Kp t H H2 := ⟨a.old, b.new, fun c o n e => b.oth c o n (a.oth c o n e)⟩
theorem Kp.of {t : Addr} {H H' : Hp} {kvs : List (Key × V)} (e : H t = some (.dK kvs)) (s : Same H H') : Kp t H H' := ⟨⟨_, e⟩, ⟨_, s _ _ e⟩, fun b o _ h => s b o h⟩
theorem Kp.at {t b : Addr} {H H' : Hp} {o : HO} (k : Kp t H H') (h : H b = some o) (n : ∀ kvs, o ≠ .dK kvs) : H' b = some o := by
  obtain ⟨kvs, e⟩ := k.old
  exact k.oth b o (fun z => by
    subst z
    rw [e] at h
    exact n kvs (Option.some.inj h).symm) h
theorem Kp.lst {t b : Addr} {H H' : Hp} {xs : List V} {K : PySem.W.Frag} (k : Kp t H H') (h : SqL K H b xs) : SqL K H' b xs := by
  rcases h with (h | ⟨o, h⟩) | h
  · exact .inl (.inl (k.at h fun _ z => by cases z))
  · exact .inl (.inr ⟨o, k.at h fun _ z => by cases z⟩)
  · exact .inr h
theorem Kp.tup {t b : Addr} {H H' : Hp} {xs : List V} {K : PySem.W.Frag} (k : Kp t H H') (h : SqT K H b xs) : SqT K H' b xs := by
  rcases h with (h | ⟨o, h⟩) | h
  · exact .inl (.inl (k.at h fun _ z => by cases z))
  · exact .inl (.inr ⟨o, k.at h fun _ z => by cases z⟩)
  · exact .inr h
theorem same_upd {H : Hp} {p : Addr} {o : HO} (h : H p = none) : Same H (upd H p o) := fun b x e => by
  rw [upd_ne (ne_of_none e h)]
  exact e
theorem Kp.gone {t b : Addr} {H H' : Hp} (k : Kp t H H') (h : H' b = none) : H b = none := by
  cases q : H b with
  | none => rfl
  | some o =>
    by_cases e : b = t
    · obtain ⟨kvs, z⟩ := k.new
      rw [e, z] at h
      cases h
    · rw [k.oth b o e q] at h
      cases h
/-! ### the tape -/
def tpd (c : Addr) (p l : Int) : List (Key × V) := [(.inr "cells", .ref c), (.inr "place", .int p), (.inr "left", .int l)]
structure Tape (H : Hp) (t c : Addr) (n : Nat) : Prop where
  ex : ∃ (cells : List Int) (p : Nat) (l : Int), H t = some (.dK (tpd c p l)) ∧ H c = some (.lst (cells.map V.int)) ∧ 0 < cells.length ∧ cells.length ≤ 63 ∧ p ≤ n ∧ 0 ≤ l
section
variable {H H' : Hp} {t c : Addr} {n m : Nat}
theorem Tape.dk (T : Tape H t c n) : ∃ kvs, H t = some (.dK kvs) := by
  obtain ⟨cells, p, l, h, _⟩ := T.ex
  exact ⟨_, h⟩
theorem Tape.same (T : Tape H t c n) (s : Same H H') : Tape H' t c n := by
  obtain ⟨cells, p, l, h, hc, r⟩ := T.ex
  exact ⟨cells, p, l, s _ _ h, s _ _ hc, r⟩
theorem Tape.kp (T : Tape H t c n) (s : Same H H') : Kp t H H' := by
  obtain ⟨kvs, h⟩ := T.dk
  exact Kp.of h s
theorem Tape.mono (T : Tape H t c n) (h : n ≤ m) : Tape H t c m := by
  obtain ⟨cells, p, l, h1, h2, h3, h4, h5, h6⟩ := T.ex
  exact ⟨cells, p, l, h1, h2, h3, h4, Nat.le_trans h5 h, h6⟩
theorem Kp.refl (T : Tape H t c n) : Kp t H H := T.kp (Same.refl H)
/-- a store at an object that is not the tape's -/
theorem Tape.upd {D : Addr} {o : HO} (T : Tape H t c n) (h1 : D ≠ t) (h2 : D ≠ c) : Tape (upd H D o) t c n := by
  obtain ⟨cells, p, l, h, hc, r⟩ := T.ex
  exact ⟨cells, p, l, (upd_ne h1.symm).trans h, (upd_ne h2.symm).trans hc, r⟩
theorem Tape.ne1 {D : Addr} (T : Tape H t c n) (h : H D = none) : D ≠ t := fun z => by
  obtain ⟨cells, p, l, e, hc, r⟩ := T.ex
  rw [z, e] at h
  cases h
theorem Tape.ne2 {D : Addr} (T : Tape H t c n) (h : H D = none) : D ≠ c := fun z => by
  obtain ⟨cells, p, l, e, hc, r⟩ := T.ex
  rw [z, hc] at h
  cases h
theorem Kp.put {D : Addr} {o : HO} (k : Kp t H H') (h : H D = Option.none) (h1 : D ≠ t) : Kp t H (L2.upd H' D o) := by
  obtain ⟨kvs, e⟩ := k.new
  refine ⟨k.old, ⟨kvs, (upd_ne h1.symm).trans e⟩, fun b u n q => ?_⟩
  rw [upd_ne (ne_of_none q h)]
  exact k.oth b u n q
end
theorem ks1 : ¬ (("cells" : Str) = "place") := by decide +kernel
theorem ks2 : ¬ (("cells" : Str) = "left") := by decide +kernel
theorem ks3 : ¬ (("place" : Str) = "left") := by decide +kernel
theorem ks1' : ¬ (("place" : Str) = "cells") := by decide +kernel
theorem ks2' : ¬ (("left" : Str) = "cells") := by decide +kernel
theorem ks3' : ¬ (("left" : Str) = "place") := by decide +kernel
theorem tp_cells (c : Addr) (p l : Int) : valV (tpd c p l) (Sum.inr ("cells" : Str)) = some (.ref c) := by simp [tpd, valV]
theorem tp_place (c : Addr) (p l : Int) : valV (tpd c p l) (Sum.inr ("place" : Str)) = some (.int p) := by simp [tpd, valV, ks1]
theorem tp_left (c : Addr) (p l : Int) : valV (tpd c p l) (Sum.inr ("left" : Str)) = some (.int l) := by simp [tpd, valV, ks2, ks3]
theorem tp_put_place (c : Addr) (p q l : Int) : putK (tpd c p l) (Sum.inr ("place" : Str)) (.int q) = tpd c q l := by simp [putK, tpd, ks1, ks3']
theorem tp_put_left (c : Addr) (p l m : Int) : putK (tpd c p l) (Sum.inr ("left" : Str)) (.int m) = tpd c p m := by simp [putK, tpd, ks2, ks3]
theorem tp_merge (c : Addr) (p l : Int) : mergeK [] (tpd c p l) = tpd c p l := by simp [mergeK, putK, tpd, ks1, ks2, ks3]
theorem g_cells {H : Hp} {t c : Addr} {p l : Int} (h : H t = some (.dK (tpd c p l))) : DGet H t (.str "cells") (some (.ref c)) := by
  have q := DGet.k (k := Sum.inr ("cells" : Str)) h
  rw [tp_cells] at q
  exact q
theorem g_place {H : Hp} {t c : Addr} {p l : Int} (h : H t = some (.dK (tpd c p l))) : DGet H t (.str "place") (some (.int p)) := by
  have q := DGet.k (k := Sum.inr ("place" : Str)) h
  rw [tp_place] at q
  exact q
theorem g_left {H : Hp} {t c : Addr} {p l : Int} (h : H t = some (.dK (tpd c p l))) : DGet H t (.str "left") (some (.int l)) := by
  have q := DGet.k (k := Sum.inr ("left" : Str)) h
  rw [tp_left] at q
  exact q
theorem p_place {H : Hp} {t c : Addr} {p l : Int} (q : Int) (h : H t = some (.dK (tpd c p l))) : DPut H t (.str "place") (.int q) (upd H t (.dK (tpd c q l))) := by
  have z := DPut.k (k := Sum.inr ("place" : Str)) (v := V.int q) h (by show 3 < sizeLine; decide)
  rw [tp_put_place] at z
  exact z
theorem p_left {H : Hp} {t c : Addr} {p l : Int} (q : Int) (h : H t = some (.dK (tpd c p l))) : DPut H t (.str "left") (.int q) (upd H t (.dK (tpd c p q))) := by
  have z := DPut.k (k := Sum.inr ("left" : Str)) (v := V.int q) h (by show 3 < sizeLine; decide)
  rw [tp_put_left] at z
  exact z
def spBegin (K : PySem.W.Frag) : Sp := fun vs H Q _ => ∃ (a : Addr) (ns : List Int), vs = [.ref a] ∧ SqL K H a (ns.map V.int) ∧ ∀ H' t c, Same H H' → H t = none → H c = none → Tape H' t c 0 → Q (.ref t) H'
def spDraw : Sp := fun vs H Q _ => ∃ (t c : Addr) (m : Int) (n : Nat), vs = [.ref t, .int m] ∧ Tape H t c n ∧ n < 2 ^ 40 ∧ 0 < m ∧ m < 2 ^ 30 ∧ ∀ H' r, Kp t H H' → Tape H' t c (n + 1) → 0 ≤ r → r < m → Q (.int r) H'
/-- pick: from a list, from a text -/
def spPick (K : PySem.W.Frag) : Sp := fun vs H Q _ => ∃ (t c : Addr) (n : Nat) (x : V), vs = [.ref t, x] ∧ Tape H t c n ∧ n < 2 ^ 40 ∧
  ((∃ a xs, x = .ref a ∧ SqL K H a xs ∧ xs ≠ [] ∧ xs.length < 2 ^ 30 ∧ ∀ H' y, Kp t H H' → Tape H' t c (n + 1) → y ∈ xs → Q y H') ∨
   (∃ z : Str, x = .str z ∧ z.length ≠ 0 ∧ z.length < 2 ^ 20 ∧ ∀ H' d, Kp t H H' → Tape H' t c (n + 1) → d ∈ z.cps.toList → Q (.str ⟨#[d]⟩) H'))
section
variable {P : Program} {w : World} {K : PySem.W.Frag} {mg : Str → Option Value} {base : Heap}
theorem scBegin : FnScope ["_law_script"] ["_law_script"] (defScope sBegin) := ⟨rfl, rfl, rfl, by decide +kernel, rfl, by decide +kernel, by decide +kernel⟩
theorem cut63 (ns : List Int) : ∃ ms : List Int, cutV (ns.map V.int) none (some 63) = ms.map V.int ∧ ms.length ≤ 63 := by
  refine ⟨ns.take 63, ?_, ?_⟩
  · unfold cutV
    rw [HT.sIx_none, show HT.sIx (ns.map V.int).length (ns.map V.int).length (some 63) = min 63 (ns.map V.int).length from HT.sIx_nat _ _ 63, List.map_take]
    show List.take _ (List.drop 0 _) = _
    rw [List.drop_zero, Nat.sub_zero]
    by_cases c : 63 ≤ (ns.map V.int).length
    · rw [Nat.min_eq_left c]
    · rw [Nat.min_eq_right (by omega), List.take_length, List.take_of_length_le (by omega)]
  · rw [List.length_take]
    omega
theorem ok_begin (D : Df K mg "_law_begin" sBegin ["_law_script"]) : FnOk P w K mg base CX0 1 D.f D.fd ["_law_script"] (spBegin K) := by
  refine D.F.ok scBegin (fun vs H Q E h => ?_) (fun cdv A outer s H vs Q E hr h => ?_)
  · obtain ⟨a, ns, rfl, _⟩ := h
    rfl
  · obtain ⟨a, ns, rfl, hS, k⟩ := h
    refine ⟨_, pss_one (ps_ret (pe_disp (pps_cons pe_str (pe_orT (pe_slice sl_list (pv 0) po_none (po_some pe_int)) (pe_one (pe_lst (pa_cons pe_int pa_nil)))) (pps_cons pe_str pe_int (pps_cons pe_str pe_int pps_nil))) (by rfl) (by rfl) (fun z => by cases z) (by decide))), ?_⟩
    intro t ht
    have s1 : Same H (upd H t (.dK [])) := same_upd ht
    obtain ⟨ms, em, hm⟩ := cut63 ns
    refine ⟨_, rfl, 63, rfl, a, ns.map V.int, rfl, s1.seq hS, fun c hc => ?_⟩
    have nct : c ≠ t := fun z => by
      rw [z, upd_same] at hc
      cases hc
    rw [em]
    refine ⟨!(ms.map V.int).isEmpty, .inl ⟨_, SqL.of upd_same, rfl⟩, ite2 (fun e => ?_) (fun e => ?_)⟩
    · refine ⟨Eq.trans (upd_ne nct.symm) upd_same, tpd c 0 0, rfl, by show 3 ≤ 15; decide, ?_⟩
      rw [tp_merge]
      refine k _ t c (fun b o eb => ?_) ht (s1.free hc) ⟨ms, 0, 0, upd_same, Eq.trans (upd_ne nct) upd_same, ?_, hm, Nat.le_refl _, Int.le_refl _⟩
      · have nb : b ≠ t := ne_of_none eb ht
        rw [upd_ne nb]
        exact same_upd hc _ _ (s1 _ _ eb)
      · cases ms with
        | nil => cases e
        | cons x r => exact Nat.succ_pos _
    · refine ⟨by show 1 ≤ sizeLine; decide, fun d hd => ?_⟩
      have ndt : d ≠ t := fun z => by
        rw [z, upd_ne nct.symm, upd_same] at hd
        cases hd
      refine ⟨Eq.trans (upd_ne ndt.symm) (Eq.trans (upd_ne nct.symm) upd_same), tpd d 0 0, rfl, by show 3 ≤ 15; decide, ?_⟩
      rw [tp_merge]
      refine k _ t d (fun b o eb => ?_) ht (s1.free ((same_upd hc).free hd)) ⟨[0], 0, 0, upd_same, Eq.trans (upd_ne ndt) upd_same, Nat.succ_pos _, by decide, Nat.le_refl _, Int.le_refl _⟩
      have nb : b ≠ t := ne_of_none eb ht
      rw [upd_ne nb]
      exact same_upd hd _ _ (same_upd hc _ _ (s1 _ _ eb))
theorem scDraw : FnScope ["_law_tape", "_law_many", "_law_place", "_law_count", "_law_cell", "_law_found"] ["_law_tape", "_law_many"] (defScope sDraw) := ⟨rfl, rfl, rfl, by decide +kernel, rfl, by decide +kernel, by decide +kernel⟩
theorem tape_put {H : Hp} {t c : Addr} {cells : List Int} {n p : Nat} {l : Int} {kvs : List (Key × V)} (e : H t = some (.dK kvs)) (hc : H c = some (.lst (cells.map V.int))) (h1 : 0 < cells.length) (h2 : cells.length ≤ 63) (hp : p ≤ n) (hl : 0 ≤ l) :
    Tape (upd H t (.dK (tpd c p l))) t c n := by
  have nct : c ≠ t := ne_of hc e (by intro z; cases z)
  exact ⟨cells, p, l, upd_same, Eq.trans (upd_ne nct) hc, h1, h2, hp, hl⟩
theorem kp_put {H : Hp} {t : Addr} {kvs kvs' : List (Key × V)} (e : H t = some (.dK kvs)) : Kp t H (upd H t (.dK kvs')) := ⟨⟨_, e⟩, ⟨_, upd_same⟩, fun b o n h => (upd_ne n).trans h⟩
theorem ok_draw (D : Df K mg "_law_draw" sDraw ["_law_tape", "_law_many"]) (ml : mg "len" = none) : FnOk P w K mg base CX0 1 D.f D.fd ["_law_tape", "_law_many"] spDraw := by
  refine D.F.ok scDraw (fun vs H Q E h => ?_) (fun cdv A outer s H vs Q E hr h => ?_)
  · obtain ⟨t, c, m, n, rfl, _⟩ := h
    rfl
  · obtain ⟨t, c, m, n, rfl, T, hn, m0, m1, k⟩ := h
    have hu := hu_of hr
    refine ⟨_, C8.pss_cut (ps_if (pt_cmpR op_lt (pe_dget hu (pv 0) pe_str (fun _ _ => rfl)) (pv 1) (nomark _))
        (pss_cons (ps_par (i := 2) (j := 3) rfl scDraw.nd rfl rfl (by decide) rfl rfl (pa_cons (pe_dget hu (pv 0) pe_str (fun _ _ => rfl)) (pa_cons (pe_callB call_len_seq (by rfl) ml PySem.boot_len (pa_cons (pe_dget hu (pv 0) pe_str (fun _ _ => rfl)) pa_nil)) pa_nil)) (by rfl))
        (pss_cons (ps_asg (pe_tup (pa_cons (pe_ix ix_list (pe_dget hu (pv 0) pe_str (fun _ _ => rfl)) (pe_op op_mod (pv 2) (pv 3)) (fun _ _ => rfl)) (pa_cons (pe_op op_add (pv 2) pe_int) pa_nil)))
            (pg_tup rfl (pgs_cons (pg_name (i := 4) scDraw.nd rfl (.inl rfl)) (pgs_cons (pg_sub (pv 0) pe_str (set_dict hu)) pgs_nil))))
        (pss_cons (ps_dput hu (pv 0) pe_str (pe_op op_mod (pe_op op_pow (pe_op op_add (pe_op op_add (pe_op op_mod (pv 4) pe_int) (pe_op op_mul pe_int (pv 2))) pe_int) pe_int) (pe_op op_add (pe_op op_pow pe_int pe_int) pe_int)) rfl)
        (pss_one (ps_if (pw_and (pt_cmpR op_ge (pv 4) (pe_op op_pow pe_int pe_int) (nomark _)) (pw_and1 (pt_cmpR op_lt (pv 2) (pv 3) (nomark _)))).pt
          (pss_one (ps_dput hu (pv 0) pe_str (pe_op op_sub (pv 4) (pe_op op_pow pe_int pe_int)) rfl)) pss_nil))))) pss_nil)
      (pss_cons (ps_asg (pe_tup (pa_cons (pe_op op_mod (pe_dget hu (pv 0) pe_str (fun _ _ => rfl)) (pv 1)) (pa_cons (pe_op op_fdiv (pe_dget hu (pv 0) pe_str (fun _ _ => rfl)) (pv 1)) pa_nil)))
            (pg_tup rfl (pgs_cons (pg_name (i := 5) scDraw.nd rfl (.inl rfl)) (pgs_cons (pg_sub (pv 0) pe_str (set_dict hu)) pgs_nil))))
      (pss_one (ps_ret (pv 5)))), ?_⟩
    have m1' : m < 1073741824 := m1
    obtain ⟨cells, p, l, ht, hc, c0, c63, hp, l0⟩ := T.ex
    refine ⟨fun σ' H' => ∃ y2 y3 y4, σ' = [some (.ref t), some (.int m), y2, y3, y4, none] ∧ Kp t H H' ∧ Tape H' t c (n + 1), ?_, ?_⟩
    · refine ⟨.ref t, rfl, t, .int l, rfl, g_left ht, .int m, rfl, l, m, rfl, rfl, _, rfl, ite2 (fun e => ?_) (fun e => ?_)⟩
      · refine ⟨.ref t, rfl, t, .int p, rfl, g_place ht, .ref t, rfl, t, .ref c, rfl, g_cells ht, c, _, rfl, .inl (SqL.of hc), _, _, rfl, ?_⟩
        have lp : 0 < (cells.map V.int).length := by
          rw [List.length_map]
          exact c0
        have jl : p % (cells.map V.int).length < cells.length := by
          have := Nat.mod_lt p lp
          rw [List.length_map] at this ⊢
          exact this
        have ga : (cells.map V.int)[p % (cells.map V.int).length]? = some (.int cells[p % (cells.map V.int).length]) := by
          rw [List.getElem?_map, List.getElem?_eq_getElem jl]
          rfl
        generalize cells[p % (cells.map V.int).length] = z at ga
        refine ⟨.ref t, rfl, t, .ref c, rfl, g_cells ht, _, rfl, _, rfl, (p : Int), ((cells.map V.int).length : Int), rfl, rfl, by omega, c, _, _, .int z, rfl, rfl, SqL.of hc, at_of (j := p % (cells.map V.int).length) (by rw [Int.natCast_emod]) ga, .int p, rfl, (p : Int), 1, rfl, rfl, by show 2 ≤ sizeLine; decide, fun q hq => ?_⟩
        have s1 : Same H (upd H q (.tup [.int z, .int ((p : Int) + 1)])) := same_upd hq
        have ht1 := s1 _ _ ht
        have hc1 := s1 _ _ hc
        have nct : c ≠ t := ne_of hc ht (by intro z; cases z)
        refine ⟨q, _, rfl, SqT.of upd_same, rfl, _, _, rfl, _, _, rfl, .ref t, rfl, t, _, rfl, p_place ((p : Int) + 1) ht1, rfl, ?_⟩
        have hn' : n < 1099511627776 := hn
        have zm0 : 0 ≤ z % 2147483647 := Int.emod_nonneg _ (by decide)
        have zm1 : z % 2147483647 < 2147483647 := Int.emod_lt_of_pos _ (by decide)
        have b0 : (z % 2147483647 + 69621 * (p : Int) + 48271).natAbs < 2 ^ 64 := by omega
        refine ⟨.int z, rfl, z, 2147483647, rfl, rfl, (by show (0 : Int) < 2147483647; decide), .int p, rfl, 69621, (p : Int), rfl, rfl, .inl ⟨by decide, by decide⟩, _, _, rfl, rfl, _, 48271, rfl, rfl, _, 17, rfl, rfl, ⟨by decide, by decide, b0⟩, 10, 50, rfl, rfl, ⟨by decide, by decide, by decide⟩, _, 151, rfl, rfl, _, _, rfl, rfl, ?_, ?_⟩
        · exact (by decide +kernel : (0 : Int) < 10 ^ (50 : Int).toNat + 151)
        have ht2 : (upd (upd H q (.tup [.int z, .int ((p : Int) + 1)])) t (.dK (tpd c ((p : Int) + 1) l))) t = some (.dK (tpd c ((p : Int) + 1) l)) := upd_same
        refine ⟨.ref t, rfl, t, _, rfl, p_left ((z % 2147483647 + 69621 * (p : Int) + 48271) ^ (17 : Int).toNat % (10 ^ (50 : Int).toNat + 151)) ht2, ?_⟩
        have x0 : 0 ≤ (z % 2147483647 + 69621 * (p : Int) + 48271) ^ (17 : Int).toNat % (10 ^ (50 : Int).toNat + 151) := Int.emod_nonneg _ (by decide +kernel)
        generalize (z % 2147483647 + 69621 * (p : Int) + 48271) ^ (17 : Int).toNat % (10 ^ (50 : Int).toNat + 151) = x17 at x0 ⊢
        have k3 : Kp t H (upd (upd (upd H q (.tup [.int z, .int ((p : Int) + 1)])) t (.dK (tpd c ((p : Int) + 1) l))) t (.dK (tpd c ((p : Int) + 1) x17))) := ((Kp.of ht s1).trans (kp_put ht1)).trans (kp_put ht2)
        have hc3 := k3.at hc (fun _ z => by cases z)
        refine ⟨.int z, rfl, 10, 18, rfl, rfl, ⟨by decide, by decide, by decide⟩, z, _, rfl, rfl, _, rfl, ite2 (fun e2 => ?_) (fun e2 => ?_)⟩
        · refine ⟨.int p, rfl, _, rfl, _, _, rfl, rfl, _, rfl, ite2 (fun e3 => ?_) (fun e3 => ?_)⟩
          · have hz : (0 : Int) ≤ z - 10 ^ (18 : Int).toNat := by
              have e4 : (10 : Int) ^ (18 : Int).toNat ≤ z := of_decide_eq_true e2
              omega
            refine ⟨.int z, rfl, 10, 18, rfl, rfl, ⟨by decide, by decide, by decide⟩, z, _, rfl, rfl, .ref t, rfl, t, _, rfl, p_left (z - 10 ^ (18 : Int).toNat) upd_same, ?_⟩
            exact ⟨_, _, _, rfl, k3.trans (kp_put upd_same), tape_put (p := p + 1) upd_same hc3 c0 c63 (by omega) hz⟩
          · exact ⟨_, _, _, rfl, k3, ⟨cells, p + 1, x17, upd_same, hc3, c0, c63, by omega, x0⟩⟩
        · exact ⟨_, _, _, rfl, k3, ⟨cells, p + 1, x17, upd_same, hc3, c0, c63, by omega, x0⟩⟩
      · exact ⟨none, none, none, rfl, Kp.refl T, T.mono (Nat.le_succ n)⟩
    · rintro σ' H' ⟨y2, y3, y4, rfl, k1, T1⟩
      obtain ⟨cells, p, l, ht, hc, c0, c63, hp, l0⟩ := T1.ex
      refine ⟨.ref t, rfl, t, .int l, rfl, g_left ht, .int m, rfl, l, m, rfl, rfl, m0, .ref t, rfl, t, .int l, rfl, g_left ht, .int m, rfl, l, m, rfl, rfl, ⟨m0, m1⟩, by show 2 ≤ sizeLine; decide, fun q hq => ?_⟩
      have s1 : Same H' (upd H' q (.tup [.int (l % m), .int (l / m)])) := same_upd hq
      have ht1 := s1 _ _ ht
      refine ⟨q, _, rfl, SqT.of upd_same, rfl, _, _, rfl, _, _, rfl, .ref t, rfl, t, _, rfl, p_left (l / m) ht1, rfl, ?_⟩
      refine ⟨_, rfl, k _ _ ((k1.trans (T1.kp s1)).trans (kp_put ht1)) (tape_put ht1 (s1 _ _ hc) c0 c63 hp (Int.ediv_nonneg l0 (by omega))) (Int.emod_nonneg _ (by omega)) (Int.emod_lt_of_pos _ m0)⟩
theorem at_cp {α : Type} {xs : List α} {z : Int} {j : Nat} {v : α} (e : z = (j : Int)) (h : xs[j]? = some v) : atI xs z = some v := by
  rw [e]
  exact atI_nat h
theorem scPick : FnScope ["_law_tape", "_law_items"] ["_law_tape", "_law_items"] (defScope sPick) := ⟨rfl, rfl, rfl, by decide +kernel, rfl, by decide +kernel, by decide +kernel⟩
theorem ok_pick (D : Df K mg "_law_pick" sPick ["_law_tape", "_law_items"]) (Dd : Df K mg "_law_draw" sDraw ["_law_tape", "_law_many"]) (ml : mg "len" = none) : FnOk P w K mg base CX0 2 D.f D.fd ["_law_tape", "_law_items"] (spPick K) := by
  have Gd : FnOk P w K mg base CX0 1 Dd.f Dd.fd ["_law_tape", "_law_many"] spDraw := ok_draw Dd ml
  refine D.F.ok scPick (fun vs H Q E h => ?_) (fun cdv A outer s H vs Q E hr h => ?_)
  · obtain ⟨t, c, n, x, rfl, _⟩ := h
    rfl
  · obtain ⟨t, c, n, x, rfl, T, hn, h⟩ := h
    rcases h with ⟨a, xs, rfl, hx, ne, hl, k⟩ | ⟨z, rfl, ne, hl, k⟩
    · refine ⟨_, pss_one (ps_ret (pe_ix ix_list (pv 1) (pe_call Gd hr (by rfl) Dd.g Dd.F.kp Dd.b .nil pass0 (pa_cons (pv 0) (pa_cons (pe_callB call_len_seq (by rfl) ml PySem.boot_len (pa_cons (pv 1) pa_nil)) pa_nil))) (fun _ _ => rfl))), ?_⟩
      have l0 : 0 < xs.length := List.length_pos_iff.mpr ne
      refine ⟨.ref a, rfl, .ref t, rfl, .ref a, rfl, a, xs, rfl, .inl hx, t, c, _, n, rfl, T, hn, by omega, by omega, fun H' r k1 T1 r0 r1 => ?_⟩
      have rl : r.toNat < xs.length := by omega
      refine ⟨a, xs, r, xs[r.toNat], rfl, rfl, k1.lst hx, at_of (j := r.toNat) (by omega) (List.getElem?_eq_getElem rl), k H' _ k1 T1 (List.getElem_mem rl)⟩
    · refine ⟨_, pss_one (ps_ret (pe_ix ix_str (pv 1) (pe_call Gd hr (by rfl) Dd.g Dd.F.kp Dd.b .nil pass0 (pa_cons (pv 0) (pa_cons (pe_callB call_len_str (by rfl) ml PySem.boot_len (pa_cons (pv 1) pa_nil)) pa_nil))) (fun _ _ => rfl))), ?_⟩
      have zl : z.cps.toList.length = z.length := Array.length_toList
      refine ⟨.str z, rfl, .ref t, rfl, .str z, rfl, z, rfl, ?_, t, c, _, n, rfl, T, hn, by omega, by omega, fun H' r k1 T1 r0 r1 => ?_⟩
      · rw [sizeLine_eq]; omega
      have rl : r.toNat < z.cps.toList.length := by omega
      refine ⟨z, r, z.cps.toList[r.toNat], rfl, rfl, ?_, at_cp (by omega) (List.getElem?_eq_getElem rl), k H' _ k1 T1 (List.getElem_mem rl)⟩
      rw [sizeLine_eq]
      omega
end
end DW
namespace DW
open PySem PySem.Spec PyProof.Rows L2 TL
set_option autoImplicit false
/-! ### texts as lists of codes -/
def one (c : Nat) : Str := ⟨#[c]⟩
theorem tl_one (c : Nat) : tl (one c) = [c] := rfl
theorem tl_inj {x y : Str} (h : tl x = tl y) : x = y := by
  obtain ⟨⟨a⟩⟩ := x
  obtain ⟨⟨b⟩⟩ := y
  have e : a = b := h
  rw [e]
theorem joinL_nil : ∀ l : List (List Nat), joinL [] l = l.flatten
  | [] => rfl
  | [p] => by simp [joinL]
  | p :: q :: r => by
    show p ++ ([] ++ joinL [] (q :: r)) = (p :: q :: r).flatten
    rw [joinL_nil (q :: r)]
    simp
theorem tl_cat (ys : List Str) : tl (Txt.join "" ys) = (ys.map tl).flatten := by
  have e : tl (Str.join "" ys) = joinL (tl "") (ys.map tl) := tl_join "" ys
  rw [join_eq, e, show tl "" = [] from rfl, joinL_nil]
theorem flat_ones (cs : List Nat) : ((cs.map one).map tl).flatten = cs := by
  induction cs with
  | nil => rfl
  | cons c r ih =>
    show [c] ++ ((r.map one).map tl).flatten = c :: r
    rw [ih]
    rfl
theorem lt_ones (x p : Nat) : ltCps (tl (one x)) (tl (one p)) = decide (x < p) := by
  simp [one, ltCps]
theorem sorted_ones : ∀ ys : List Str, (∀ y ∈ ys, ∃ c, y = one c) → ys.Nodup → sortedS ys = true → ∃ cs : List Nat, ys = cs.map one ∧ cs.Pairwise (· < ·)
  | [], _, _, _ => ⟨[], rfl, List.Pairwise.nil⟩
  | [y], h, _, _ => by
    obtain ⟨c, rfl⟩ := h y List.mem_cons_self
    exact ⟨[c], rfl, List.pairwise_singleton _ _⟩
  | y :: z :: r, h, nd, so => by
    obtain ⟨hy, nd'⟩ := List.nodup_cons.mp nd
    obtain ⟨c, rfl⟩ := h y List.mem_cons_self
    obtain ⟨d, rfl⟩ := h z (List.mem_cons_of_mem _ List.mem_cons_self)
    have so' : (!ltCps (tl (one d)) (tl (one c)) && risingS (one d) r) = true := so
    rw [Bool.and_eq_true] at so'
    obtain ⟨cs, e, pw⟩ := sorted_ones (one d :: r) (fun u hu => h u (List.mem_cons_of_mem _ hu)) nd' so'.2
    have lt : c < d := by
      have q := so'.1
      rw [lt_ones] at q
      have n1 : ¬ d < c := by simpa using q
      have n2 : c ≠ d := fun z => hy (by rw [z]; exact List.mem_cons_self)
      omega
    cases cs with
    | nil => cases e
    | cons d' cs =>
      have e1 : one d = one d' := (List.cons.inj e).1
      have e2 : d = d' := by
        have q := congrArg tl e1
        exact (List.cons.inj q).1
      subst e2
      refine ⟨c :: d :: cs, by rw [List.map_cons, ← e], List.pairwise_cons.mpr ⟨fun u hu => ?_, pw⟩⟩
      rcases List.mem_cons.mp hu with q | q
      · omega
      · have := (List.pairwise_cons.mp pw).1 u q
        omega
theorem sum_ones : ∀ ys : List Str, (∀ y ∈ ys, ∃ c, y = one c) → (ys.map (·.length)).sum = ys.length
  | [], _ => rfl
  | y :: r, h => by
    obtain ⟨c, rfl⟩ := h y List.mem_cons_self
    rw [List.map_cons, List.sum_cons, sum_ones r fun u hu => h u (List.mem_cons_of_mem _ hu), List.length_cons]
    show 1 + r.length = r.length + 1
    omega
theorem yes {σ : L2.St} {H : Hp} {F G : Hp → Prop} (h : F H) : tYes σ H (fun b H3 => if b = true then F H3 else G H3) := by
  show (if true = true then F H else G H)
  rw [if_pos rfl]
  exact h
/-- an alphabet -/
def Alph (z : Str) : Prop := (tl z).Pairwise (· < ·) ∧ 1 ≤ (tl z).length ∧ (tl z).length ≤ 3 ∧ ∀ c ∈ tl z, 97 ≤ c ∧ c ≤ 122
def abc : Str := "abcdefghijklmnopqrstuvwxyz"
theorem abc_low : ∀ c ∈ tl abc, 97 ≤ c ∧ c ≤ 122 := by decide +kernel
theorem abc_len : (tl abc).length = 26 := by decide +kernel
theorem al1 : Alph "ab" := by unfold Alph; decide +kernel
theorem al2 : Alph "abc" := by unfold Alph; decide +kernel
theorem al3 : Alph "a" := by unfold Alph; decide +kernel
theorem al4 : Alph "bx" := by unfold Alph; decide +kernel
theorem al5 : Alph "cmz" := by unfold Alph; decide +kernel
theorem alph_of {ds : List Nat} {ls ys : List Str} (h1 : 1 ≤ ds.length) (h3 : ds.length ≤ 3) (low : ∀ c ∈ ds, 97 ≤ c ∧ c ≤ 122) (nd : ls.Nodup) (mem : ∀ k, k ∈ ls ↔ k ∈ ds.map one) (le : ls.length ≤ (ds.map one).length)
    (pm : ys.Perm ls) (so : sortedS ys = true) : Alph (Txt.join "" ys) := by
  have hm : ∀ y ∈ ys, y ∈ ds.map one := fun y hy => (mem y).mp (pm.mem_iff.mp hy)
  obtain ⟨cs, rfl, pw⟩ := sorted_ones ys (fun y hy => by
    obtain ⟨c, _, e⟩ := List.mem_map.mp (hm y hy)
    exact ⟨c, e.symm⟩) (pm.nodup_iff.mpr nd) so
  have e : tl (Txt.join "" (cs.map one)) = cs := by rw [tl_cat, flat_ones]
  have hl : cs.length = ls.length := by
    have q := pm.length_eq
    rw [List.length_map] at q
    exact q
  rw [List.length_map] at le
  unfold Alph
  rw [e]
  refine ⟨pw, ?_, by omega, fun c hc => ?_⟩
  · cases ds with
    | nil => cases h1
    | cons d r =>
      have q : one d ∈ ls := (mem _).mpr List.mem_cons_self
      have q2 : one d ∈ cs.map one := pm.mem_iff.mpr q
      have := List.length_pos_of_mem q2
      rw [List.length_map] at this
      omega
  · obtain ⟨d, hd, e⟩ := List.mem_map.mp (hm (one c) (List.mem_map.mpr ⟨c, hc, rfl⟩))
    have e2 : d = c := by
      have q := congrArg tl e
      exact (List.cons.inj q).1
    rw [← e2]
    exact low d hd
/-! ### what the module's names hold -/
structure Bl (mg : Str → Option Value) : Prop where
  len : mg "len" = none
  range : mg "range" = none
  sorted : mg "sorted" = none
  set : mg "set" = none
def spAlpha : Sp := fun vs H Q _ => ∃ (t c : Addr) (n : Nat), vs = [.ref t] ∧ Tape H t c n ∧ n + 10 < 2 ^ 40 ∧ ∀ H' z, Kp t H H' → Tape H' t c (n + 10) → Alph z → Q (.str z) H'
abbrev DfDraw (K : PySem.W.Frag) (mg : Str → Option Value) := Df K mg "_law_draw" sDraw ["_law_tape", "_law_many"]
abbrev DfPick (K : PySem.W.Frag) (mg : Str → Option Value) := Df K mg "_law_pick" sPick ["_law_tape", "_law_items"]
end DW
namespace DW
open PySem PySem.Spec PyProof.Rows L2 TL
set_option autoImplicit false
section
variable {P : Program} {w : World} {K : PySem.W.Frag} {mg : Str → Option Value} {base : Heap}
theorem scAlpha : FnScope ["_law_tape", "_law_letters", "_law_drawn", "_law_k"] ["_law_tape"] (defScope sAlpha) := ⟨rfl, rfl, rfl, by decide +kernel, rfl, by decide +kernel, by decide +kernel⟩
theorem ok_alpha (D : Df K mg "_law_alphabet" sAlpha ["_law_tape"]) (Dd : DfDraw K mg) (Dp : DfPick K mg) (B : Bl mg) : FnOk P w K mg base CX0 3 D.f D.fd ["_law_tape"] spAlpha := by
  have Gd : FnOk P w K mg base CX0 1 Dd.f Dd.fd ["_law_tape", "_law_many"] spDraw := ok_draw Dd B.len
  have Gp : FnOk P w K mg base CX0 2 Dp.f Dp.fd ["_law_tape", "_law_items"] (spPick K) := ok_pick Dp Dd B.len
  refine D.F.ok scAlpha (fun vs H Q E h => ?_) (fun cdv A outer s H vs Q E hr h => ?_)
  · obtain ⟨t, c, n, rfl, _⟩ := h
    rfl
  · obtain ⟨t, c, n, rfl, T, hn, k⟩ := h
    have hr1 : Room 1 _ := hr.mono (by decide)
    refine ⟨_, pss_cons (ps_set (i := 1) scAlpha.nd rfl (Or.inr rfl) pe_str)
      (pss_cons (ps_setLc (i := 2) (own := [("_law_k", 3)]) (g := gName 3) (tt := tYes) rfl scAlpha.nd rfl rfl (sw_true rfl rfl rfl (by decide +kernel))
        (pi_range1 rfl B.range (pa_cons (pe_op op_add pe_int (pe_call Gd hr1 (by rfl) Dd.g Dd.F.kp Dd.b .nil pass0 (pa_cons (pv 0) (pa_cons pe_int pa_nil)))) pa_nil))
        (blkOk_by (N := ["_law_tape", "_law_letters", "_law_drawn", "_law_k"]) (sc := defScope sAlpha) (by decide +kernel)) (fun _ _ _ _ _ => pg_name (i := 3) scAlpha.nd rfl (Or.inl rfl)) (fun _ _ _ _ _ => pts_nil)
        (fun _ _ _ _ _ => pe_ix ix_str (pv 1) (pe_call Gd hr1 (by rfl) Dd.g Dd.F.kp Dd.b .nil pass0 (pa_cons (pv 0) (pa_cons pe_int pa_nil))) (fun _ _ => rfl)))
      (pss_one (ps_ret (pe_call Gp hr (by rfl) Dp.g Dp.F.kp Dp.b .nil pass0 (pa_cons (pv 0) (pa_cons
        (pe_op op_cat (pe_lst (pa_cons pe_str (pa_cons pe_str (pa_cons pe_str (pa_cons pe_str (pa_cons pe_str pa_nil))))))
          (pe_op op_rep (pe_lst (pa_cons (pe_join pe_str (pe_callB (TX.cr_sortTx rfl) (by rfl) B.sorted (by decide +kernel) (pa_cons (pe_callTy (TX.cr_setL rfl) (by rfl) B.set (by decide +kernel) (pa_cons (pv 2) pa_nil)) pa_nil))) pa_nil)) pe_int)) pa_nil)))))), ?_⟩
    refine ⟨.ref t, rfl, t, c, 3, n, rfl, T, by omega, by decide, by decide, fun H1 r k1 T1 r0 r1 => ?_⟩
    refine ⟨1, r, rfl, rfl, 1 + r, rfl, by omega, by omega, fun D hD => ?_⟩
    have D1 := T1.ne1 hD
    have D2 := T1.ne2 hD
    have D0 := k1.gone hD
    refine lc_range (lo := 0) (n := (1 + r).toNat) (fun i H' => ∃ ds : List Nat, ds.length = i ∧ (∀ c ∈ ds, 97 ≤ c ∧ c ≤ 122) ∧ H' D = some (.lst ((ds.map one).map V.str)) ∧ Kp t H H' ∧ Tape H' t c (n + 1 + i)) ?_ ?_ ?_
    · exact ⟨[], rfl, fun c hc => (nomatch hc), upd_same, k1.put D0 D1, T1.upd D1 D2⟩
    · rintro i G hi ⟨ds, dl, low, gD, kG, TG⟩
      refine ⟨rfl, yes ?_⟩
      refine ⟨.str abc, rfl, .ref t, rfl, t, c, 26, n + 1 + i, rfl, TG, by omega, by decide, by decide, fun H4 q k4 T4 q0 q1 => ?_⟩
      have ql : q.toNat < (tl abc).length := by
        rw [abc_len]
        omega
      have gD4 := k4.at gD (fun _ z => by cases z)
      refine ⟨abc, q, (tl abc)[q.toNat], rfl, rfl, by decide +kernel, at_cp (j := q.toNat) (by omega) (List.getElem?_eq_getElem ql), _, gD4, ?_, ?_⟩
      · rw [List.length_map, List.length_map, dl, sizeLine_eq]
        omega
      · refine ⟨ds ++ [(tl abc)[q.toNat]], by rw [List.length_append, dl]; rfl, fun c hc => ?_, ?_, ?_, ?_⟩
        · rcases List.mem_append.mp hc with z | z
          · exact low c z
          · rw [List.mem_singleton.mp z]
            exact abc_low _ (List.getElem_mem ql)
        · rw [upd_same, List.map_append, List.map_append]
          rfl
        · exact (kG.trans k4).put D0 D1
        · exact T4.upd D1 D2
    · rintro G ⟨ds, dl, low, gD, kG, TG⟩
      refine ⟨.ref t, rfl, by show 5 ≤ sizeLine; decide, fun l1 e1 => ?_⟩
      have s1 := same_upd (o := .lst [V.str "ab", V.str "abc", V.str "a", V.str "bx", V.str "cmz"]) e1
      refine ⟨⟨_, rfl⟩, .ref D, rfl, D, ds.map one, rfl, SqL.of (s1 _ _ gD), ?_, fun a ls ea nd mem le => ?_⟩
      · rw [List.length_map, dl]
        unfold scanBound
        omega
      have s2 := same_upd (o := TX.SetTx P w a ls) ea
      refine ⟨a, ls, rfl, upd_same, ?_, fun ys p pm so ep => ?_⟩
      · rw [List.length_map] at le
        omega
      have al := alph_of (by omega) (by omega) low nd mem le pm so
      have s3 := same_upd (o := .lst (ys.map V.str)) ep
      refine ⟨"", p, ys, rfl, rfl, .inl (SqL.of upd_same), ?_, by show 1 ≤ sizeLine; decide, fun l2 e2 => ?_⟩
      · rw [sum_ones ys fun y hy => ?_]
        · rw [pm.length_eq]
          rw [List.length_map] at le
          show ls.length + ls.length * 0 ≤ 16777216
          omega
        · obtain ⟨u, _, e⟩ := List.mem_map.mp ((mem y).mp (pm.mem_iff.mp hy))
          exact ⟨u, e.symm⟩
      have s4 := same_upd (o := .lst [V.str (Txt.join "" ys)]) e2
      refine ⟨l2, 5, _, rfl, rfl, upd_same, by decide, by decide, by show 1 * 5 ≤ sizeLine; decide, fun l3 e3 => ?_⟩
      have s5 := same_upd (o := .lst (List.replicate (5 : Int).toNat [V.str (Txt.join "" ys)]).flatten) e3
      refine ⟨l1, l3, _, _, rfl, rfl, s5 _ _ (s4 _ _ (s3 _ _ (s2 _ _ upd_same))), upd_same, by show 5 + 5 ≤ sizeLine; decide, fun l4 e4 => ?_⟩
      have s6 := same_upd (o := .lst ([V.str "ab", V.str "abc", V.str "a", V.str "bx", V.str "cmz"] ++ (List.replicate (5 : Int).toNat [V.str (Txt.join "" ys)]).flatten)) e4
      have sa := ((((s1.trans s2).trans s3).trans s4).trans s5).trans s6
      refine ⟨t, c, n + 1 + (1 + r).toNat, .ref l4, rfl, TG.same sa, by omega, .inl ⟨l4, _, rfl, SqL.of upd_same, by simp, by show 10 < 2 ^ 30; decide, fun H' y k' T' hy => ?_⟩⟩
      have hy' : ∃ z, y = V.str z ∧ Alph z := by
        rcases List.mem_append.mp hy with q | q
        · simp only [List.mem_cons, List.not_mem_nil, or_false] at q
          rcases q with q | q | q | q | q
          · exact ⟨_, q, al1⟩
          · exact ⟨_, q, al2⟩
          · exact ⟨_, q, al3⟩
          · exact ⟨_, q, al4⟩
          · exact ⟨_, q, al5⟩
        · obtain ⟨u, hu, hy⟩ := List.mem_flatten.mp q
          rw [List.eq_of_mem_replicate hu] at hy
          exact ⟨_, List.mem_singleton.mp hy, al⟩
      obtain ⟨z, rfl, az⟩ := hy'
      exact k H' z ((kG.trans (TG.kp sa)).trans k') (T'.mono (by omega)) az
end
end DW
namespace DW
open PySem PySem.Spec PyProof.Rows L2 TL
set_option autoImplicit false
/-! ### text * int, repr(text) -/
theorem foldl_app : ∀ (l : List (Array Nat)) (acc : Array Nat), (l.foldl (· ++ ·) acc).toList = acc.toList ++ (l.map Array.toList).flatten
  | [], acc => by simp
  | a :: r, acc => by
    rw [List.foldl_cons, foldl_app r, Array.toList_append, List.map_cons, List.flatten_cons, List.append_assoc]
theorem tl_mul (z : Str) (k : Int) : tl (Txt.mul z k) = (List.replicate k.toNat (tl z)).flatten := by
  unfold Txt.mul
  by_cases h : k < 1
  · rw [if_pos h, show k.toNat = 0 by omega]
    rfl
  · rw [if_neg h]
    by_cases h2 : (k == 1 || z.length == 0) = true
    · rw [if_pos h2]
      rw [Bool.or_eq_true] at h2
      rcases h2 with e | e
      · rw [eq_of_beq e]
        simp
      · have e0 : tl z = [] := List.length_eq_zero_iff.mp (by rw [Array.length_toList]; exact eq_of_beq e)
        rw [e0]
        simp
    · rw [if_neg h2]
      show ((List.replicate k.toNat z.cps).foldl (· ++ ·) #[]).toList = _
      rw [foldl_app, List.map_replicate]
      simp
section
variable {X : Cx}
def rRepS : R2 := fun x y H Q => ∃ (z : Str) (k : Int), x = .str z ∧ y = .int k ∧ 0 ≤ k ∧ k ≤ 1000 ∧ z.length ≤ 1000 ∧ ∀ r : Str, tl r = (List.replicate k.toNat (tl z)).flatten → Q (.str r) H
theorem op_repS : OpR X (binaryOp .Mult) rRepS := by
  intro pins s σ H x y v u Q I rx ry h
  obtain ⟨z, k, rfl, rfl, k0, k1, zl, q⟩ := h
  obtain ⟨t, rfl⟩ := rx
  obtain ⟨t2, rfl⟩ := ry
  have pr : z.length * k.toNat ≤ 1000 * 1000 := Nat.mul_le_mul zl (by omega)
  refine SB.mul ⟨?_, fun h1 _ h3 => ?_, fun _ _ => ?_⟩ fun t' tk => ⟨.str (Txt.mul z k), H, I.tok _, ⟨_, rfl⟩, q _ (tl_mul z k)⟩
  · have a : ¬ k < -(2 ^ 63) := by omega
    have b : ¬ k ≥ 2 ^ 63 := by omega
    simp [a, b]
    omega
  · have e : (z.length : Int) ≤ (2 ^ 63 - 1) / k := by
      rw [Int.le_ediv_iff_mul_le (by omega)]
      have : ((z.length * k.toNat : Nat) : Int) ≤ 1000 * 1000 := by exact_mod_cast pr
      rw [Int.natCast_mul, Int.toNat_of_nonneg k0] at this
      omega
    omega
  · unfold Builtin.Str.tooLong
    rw [sizeLine_eq]
    simp
    omega
theorem cr_reprS : CallR X (.builtin "repr") (fun xs H Q => ∃ y : Str, xs = [.str y] ∧ (reprText y).length ≤ sizeLine ∧ Q (.str (reprText y)) H) := by
  intro pins s σ H xs us Q I r h
  obtain ⟨y, rfl, hz, q⟩ := h
  obtain ⟨u, rfl, t, rfl⟩ := vals1 r
  exact PySem.P.repr_of_str ⟨.str _, H, I.tok _, ⟨_, rfl⟩, q⟩ hz
end
theorem rc_le : ∀ c, c < 128 → (Builtin.Str.reprChar 34 c).length ≤ 4 ∧ (Builtin.Str.reprChar 39 c).length ≤ 4 := by decide +kernel
theorem rq (x : Str) : reprQuote x = 34 ∨ reprQuote x = 39 := by
  unfold reprQuote
  split
  · exact .inl rfl
  · exact .inr rfl
theorem repr_fold (q : Nat) (hq : q = 34 ∨ q = 39) : ∀ (l : List Nat) (n : Nat), (∀ c ∈ l, c < 128) → l.foldl (fun n c => n + (Builtin.Str.reprChar q c).length) n ≤ n + 4 * l.length
  | [], n, _ => by simp
  | c :: r, n, h => by
    have h1 := rc_le c (h c List.mem_cons_self)
    have h2 : (Builtin.Str.reprChar q c).length ≤ 4 := by
      rcases hq with e | e
      · rw [e]; exact h1.1
      · rw [e]; exact h1.2
    have ih := repr_fold q hq r (n + (Builtin.Str.reprChar q c).length) fun d hd => h d (List.mem_cons_of_mem _ hd)
    rw [List.foldl_cons, List.length_cons]
    omega
theorem repr_le {x : Str} (h : ∀ c ∈ tl x, c < 128) : (reprText x).length ≤ 2 + 4 * (tl x).length := by
  rw [← reprLen_eq, ← Array.foldl_toList]
  exact repr_fold _ (rq x) _ _ h
/-! ### factors, products -/
abbrev Fc := Bool × Str
def kd (b : Bool) : Str := if b then "star" else "opt"
def IsF (K : PySem.W.Frag) (H : Hp) (v : V) (f : Fc) : Prop := ∃ a, v = .ref a ∧ SqT K H a [.str (kd f.1), .str f.2]
def FOk (z : Str) (f : Fc) : Prop := tl f.2 ≠ [] ∧ (tl f.2).Sublist (tl z) ∧ (f.1 = false → (tl f.2).length = 1)
inductive IsFs (K : PySem.W.Frag) (H : Hp) : List V → List Fc → Prop where
  | nil : IsFs K H [] []
  | cons {v : V} {f : Fc} {vs : List V} {fs : List Fc} (h : IsF K H v f) (r : IsFs K H vs fs) : IsFs K H (v :: vs) (f :: fs)
theorem IsFs.snoc {K : PySem.W.Frag} {H : Hp} {v : V} {f : Fc} : ∀ {vs : List V} {fs : List Fc}, IsFs K H vs fs → IsF K H v f → IsFs K H (vs ++ [v]) (fs ++ [f])
  | _, _, .nil, h => .cons h .nil
  | _, _, .cons a r, h => .cons a (r.snoc h)
theorem IsFs.len {K : PySem.W.Frag} {H : Hp} : ∀ {vs : List V} {fs : List Fc}, IsFs K H vs fs → vs.length = fs.length
  | _, _, .nil => rfl
  | _, _, .cons _ r => by rw [List.length_cons, List.length_cons, r.len]
theorem IsFs.get {K : PySem.W.Frag} {H : Hp} : ∀ {vs : List V} {fs : List Fc}, IsFs K H vs fs → ∀ (i : Nat) (v : V), vs[i]? = some v → ∃ f, fs[i]? = some f ∧ IsF K H v f
  | _, _, .nil, i, v, h => by simp at h
  | _, _, .cons a r, 0, v, h => by
    have e := Option.some.inj h
    subst e
    exact ⟨_, rfl, a⟩
  | _, _, .cons a r, i + 1, v, h => r.get i v h
theorem IsF.mono {K : PySem.W.Frag} {H H' : Hp} {v : V} {f : Fc} (h : IsF K H v f) (m : ∀ b xs, SqT K H b xs → SqT K H' b xs) : IsF K H' v f := by
  obtain ⟨a, e, q⟩ := h
  exact ⟨a, e, m _ _ q⟩
theorem IsFs.mono {K : PySem.W.Frag} {H H' : Hp} (m : ∀ b xs, SqT K H b xs → SqT K H' b xs) : ∀ {vs : List V} {fs : List Fc}, IsFs K H vs fs → IsFs K H' vs fs
  | _, _, .nil => .nil
  | _, _, .cons a r => .cons (a.mono m) (r.mono m)
theorem same_tup {H H' : Hp} {K : PySem.W.Frag} (s : Same H H') (b : Addr) (xs : List V) (h : SqT K H b xs) : SqT K H' b xs := by
  rcases h with (h | ⟨o, h⟩) | h
  · exact .inl (.inl (s _ _ h))
  · exact .inl (.inr ⟨o, s _ _ h⟩)
  · exact .inr h
theorem kp_tup {t : Addr} {H H' : Hp} {K : PySem.W.Frag} (k : Kp t H H') (b : Addr) (xs : List V) (h : SqT K H b xs) : SqT K H' b xs := k.tup h
/-- a store at what is no tuple -/
theorem upd_tup {H : Hp} {D : Addr} {xs0 : List V} {o : HO} {K : PySem.W.Frag} (hD : H D = some (.lst xs0)) (b : Addr) (xs : List V) (h : SqT K H b xs) : SqT K (upd H D o) b xs := by
  rcases h with (h | ⟨u, h⟩) | h
  · exact .inl (.inl ((upd_ne (ne_of h hD (by intro z; cases z))).trans h))
  · exact .inl (.inr ⟨u, (upd_ne (ne_of h hD (by intro z; cases z))).trans h⟩)
  · exact .inr h
def IsP (K : PySem.W.Frag) (H : Hp) (v : V) (fs : List Fc) : Prop := ∃ a xs, v = .ref a ∧ SqT K H a xs ∧ IsFs K H xs fs
theorem IsP.mono {K : PySem.W.Frag} {H H' : Hp} {v : V} {fs : List Fc} (h : IsP K H v fs) (m : ∀ b xs, SqT K H b xs → SqT K H' b xs) : IsP K H' v fs := by
  obtain ⟨a, xs, e, q, r⟩ := h
  exact ⟨a, xs, e, m _ _ q, r.mono m⟩
def spFactor (K : PySem.W.Frag) : Sp := fun vs H Q _ => ∃ (t c : Addr) (n : Nat) (z : Str), vs = [.ref t, .str z] ∧ Tape H t c n ∧ n + 10 < 2 ^ 40 ∧ Alph z ∧ ∀ H' v f, Kp t H H' → Tape H' t c (n + 10) → IsF K H' v f → FOk z f → Q v H'
def spProduct (K : PySem.W.Frag) : Sp := fun vs H Q _ => ∃ (t c : Addr) (n : Nat) (z : Str) (m : Int), vs = [.ref t, .str z, .int m] ∧ Tape H t c n ∧ n + 1000 < 2 ^ 40 ∧ Alph z ∧ 0 ≤ m ∧ m ≤ 50 ∧
  ∀ H' v fs, Kp t H H' → Tape H' t c (n + 1000) → IsP K H' v fs → (∀ f ∈ fs, FOk z f) → (fs.length : Int) ≤ m → Q v H'
section
variable {P : Program} {w : World} {K : PySem.W.Frag} {mg : Str → Option Value} {base : Heap}
theorem scFactor : FnScope ["_law_tape", "_law_alphabet_here", "_law_letters", "_law_letter"] ["_law_tape", "_law_alphabet_here"] (defScope sFactor) := ⟨rfl, rfl, rfl, by decide +kernel, rfl, by decide +kernel, by decide +kernel⟩
theorem ok_factor (D : Df K mg "_law_factor" sFactor ["_law_tape", "_law_alphabet_here"]) (Dd : DfDraw K mg) (Dp : DfPick K mg) (B : Bl mg) : FnOk P w K mg base CX0 3 D.f D.fd ["_law_tape", "_law_alphabet_here"] (spFactor K) := by
  have Gd : FnOk P w K mg base CX0 1 Dd.f Dd.fd ["_law_tape", "_law_many"] spDraw := ok_draw Dd B.len
  have Gp : FnOk P w K mg base CX0 2 Dp.f Dp.fd ["_law_tape", "_law_items"] (spPick K) := ok_pick Dp Dd B.len
  refine D.F.ok scFactor (fun vs H Q E h => ?_) (fun cdv A outer s H vs Q E hr h => ?_)
  · obtain ⟨t, c, n, z, rfl, _⟩ := h
    rfl
  · obtain ⟨t, c, n, z, rfl, T, hn, al, k⟩ := h
    have hr1 : Room 1 _ := hr.mono (by decide)
    have zl : z.length = (tl z).length := (Array.length_toList).symm
    obtain ⟨pw, l1, l3, low⟩ := al
    refine ⟨_, pss_cons (ps_if (pt_cmpR op_gt (pe_call Gd hr1 (by rfl) Dd.g Dd.F.kp Dd.b .nil pass0 (pa_cons (pv 0) (pa_cons pe_int pa_nil))) pe_int (nomark _))
        (pss_one (ps_ret (pe_tup (pa_cons pe_str (pa_cons (pe_call Gp hr (by rfl) Dp.g Dp.F.kp Dp.b .nil pass0 (pa_cons (pv 0) (pa_cons (pv 1) pa_nil))) pa_nil))))) pss_nil)
      (pss_cons (ps_set (i := 2) scFactor.nd rfl (Or.inl rfl) (pe_join pe_str (pe_lc (own := [("_law_letter", 3)]) (g := gName 3) rfl scFactor.nd (pi_str (pv 1))
          (blkOk_by (N := ["_law_tape", "_law_alphabet_here", "_law_letters", "_law_letter"]) (sc := defScope sFactor) (by decide +kernel)) (fun _ _ _ _ _ => pg_name (i := 3) scFactor.nd rfl (Or.inl rfl))
          (fun _ _ _ _ _ => pts_one (pt_cmpR op_eq (pe_call Gd hr1 (by rfl) Dd.g Dd.F.kp Dd.b .nil pass0 (pa_cons (pv 0) (pa_cons pe_int pa_nil))) pe_int (nomark _))) (fun _ _ _ _ _ => pv 3))))
      (pss_one (ps_ret (pe_tup (pa_cons pe_str (pa_cons (pe_ifExp (pt_cmpR op_ne (pv 2) pe_str (nomark _)) (pv 2) (pe_call Gp hr (by rfl) Dp.g Dp.F.kp Dp.b .nil pass0 (pa_cons (pv 0) (pa_cons (pv 1) pa_nil)))) pa_nil)))))), ?_⟩
    refine ⟨.ref t, rfl, t, c, 3, n, rfl, T, by omega, by decide, by decide, fun H1 r k1 T1 r0 r1 => ?_⟩
    refine ⟨r, 0, rfl, rfl, _, rfl, ite2 (fun e => ?_) (fun e => ?_)⟩
    · refine ⟨.ref t, rfl, .str z, rfl, t, c, n + 1, .str z, rfl, T1, by omega, .inr ⟨z, rfl, by omega, by omega, fun H2 d k2 T2 hd => ?_⟩⟩
      refine ⟨by show 2 ≤ sizeLine; decide, fun p hp => ?_⟩
      have s3 := same_upd (o := .tup [.str "opt", .str ⟨#[d]⟩]) hp
      exact k _ _ (false, one d) ((k1.trans k2).trans (T2.kp s3)) ((T2.same s3).mono (by omega)) ⟨p, rfl, SqT.of upd_same⟩ ⟨by simp [one], by show [d].Sublist _; exact List.singleton_sublist.mpr hd, fun _ => rfl⟩
    · refine ⟨⟨_, rfl⟩, .str z, rfl, z, rfl, fun D hD => ?_⟩
      have D1 := T1.ne1 hD
      have D2 := T1.ne2 hD
      have D0 := k1.gone hD
      have zs : z.cps.size = (tl z).length := (Array.length_toList).symm
      refine lc_it walk_str (fun i H' => ∃ ds : List Nat, ds.Sublist ((tl z).take i) ∧ H' D = some (.lst ((ds.map one).map V.str)) ∧ Kp t H H' ∧ Tape H' t c (n + 1 + i)) ?_ (fun _ _ _ _ => trivial) ?_ ?_
      · exact ⟨[], List.nil_sublist _, upd_same, k1.put D0 D1, T1.upd D1 D2⟩
      · rintro i x G G' hi ⟨ds, sub, gD, kG, TG⟩ ⟨rfl, d, hd, rfl⟩
        have hd' : (tl z)[i]? = some d := by rw [Array.getElem?_toList]; exact hd
        have tk : (tl z).take (i + 1) = (tl z).take i ++ [d] := by rw [List.take_add_one, hd'] <;> rfl
        have dl : ds.length ≤ 3 := Nat.le_trans (Nat.le_trans sub.length_le (List.length_take_le' ..)) l3
        refine ⟨rfl, .ref t, rfl, t, c, 2, n + 1 + i, rfl, TG, by omega, by decide, by decide, fun H4 q k4 T4 q0 q1 => ?_⟩
        have gD4 := k4.at gD (fun _ z => by cases z)
        refine ⟨rfl, _, rfl, ite2 (fun e2 => ?_) (fun e2 => ?_)⟩
        · refine ⟨_, rfl, _, gD4, ?_, ds ++ [d], ?_, ?_, (kG.trans k4).put D0 D1, T4.upd D1 D2⟩
          · rw [List.length_map, List.length_map, sizeLine_eq]
            omega
          · rw [tk]
            exact sub.append (List.Sublist.refl _)
          · rw [upd_same, List.map_append, List.map_append]
            rfl
        · refine ⟨ds, ?_, gD4, kG.trans k4, T4⟩
          rw [tk]
          exact sub.trans (List.sublist_append_left _ _)
      · rintro G ⟨ds, sub, gD, kG, TG⟩
        have sub' : ds.Sublist (tl z) := sub.trans (List.take_sublist _ _)
        have dl : ds.length ≤ 3 := Nat.le_trans sub'.length_le l3
        refine ⟨"", D, ds.map one, rfl, rfl, .inl (SqL.of gD), ?_, ?_⟩
        · rw [sum_ones _ fun y hy => ?_, List.length_map]
          · show ds.length + ds.length * 0 ≤ 16777216
            omega
          · obtain ⟨u, _, e⟩ := List.mem_map.mp hy
            exact ⟨u, e.symm⟩
        have ej : tl (Txt.join "" (ds.map one)) = ds := by rw [tl_cat, flat_ones]
        refine ⟨.str (Txt.join "" (ds.map one)), rfl, rfl, _, rfl, ite2 (fun e2 => ?_) (fun e2 => ?_)⟩
        · refine ⟨_, rfl, by show 2 ≤ sizeLine; decide, fun p hp => ?_⟩
          have s3 := same_upd (o := .tup [.str "star", .str (Txt.join "" (ds.map one))]) hp
          refine k _ _ (true, Txt.join "" (ds.map one)) (kG.trans (TG.kp s3)) ((TG.same s3).mono (by omega)) ⟨p, rfl, SqT.of upd_same⟩ ⟨?_, by rw [ej]; exact sub', fun z => by cases z⟩
          intro z0
          have e3 : Txt.join "" (ds.map one) = ("" : Str) := tl_inj z0
          rw [e3] at e2
          exact absurd e2 (by decide +kernel)
        · refine ⟨.ref t, rfl, .str z, rfl, t, c, n + 1 + z.cps.size, .str z, rfl, TG, by omega, .inr ⟨z, rfl, by omega, by omega, fun H2 d k2 T2 hd => ?_⟩⟩
          refine ⟨by show 2 ≤ sizeLine; decide, fun p hp => ?_⟩
          have s3 := same_upd (o := .tup [.str "star", .str ⟨#[d]⟩]) hp
          exact k _ _ (true, one d) ((kG.trans k2).trans (T2.kp s3)) ((T2.same s3).mono (by omega)) ⟨p, rfl, SqT.of upd_same⟩ ⟨by simp [one], by show [d].Sublist _; exact List.singleton_sublist.mpr hd, fun z => by cases z⟩
theorem scProduct : FnScope ["_law_tape", "_law_alphabet_here", "_law_longest", "_law_k"] ["_law_tape", "_law_alphabet_here", "_law_longest"] (defScope sProduct) := ⟨rfl, rfl, rfl, by decide +kernel, rfl, by decide +kernel, by decide +kernel⟩
theorem ok_product (D : Df K mg "_law_product" sProduct ["_law_tape", "_law_alphabet_here", "_law_longest"]) (Df0 : Df K mg "_law_factor" sFactor ["_law_tape", "_law_alphabet_here"]) (Dd : DfDraw K mg) (Dp : DfPick K mg) (B : Bl mg) (mt : mg "tuple" = none) :
    FnOk P w K mg base CX0 4 D.f D.fd ["_law_tape", "_law_alphabet_here", "_law_longest"] (spProduct K) := by
  have Gd : FnOk P w K mg base CX0 1 Dd.f Dd.fd ["_law_tape", "_law_many"] spDraw := ok_draw Dd B.len
  have Gf : FnOk P w K mg base CX0 3 Df0.f Df0.fd ["_law_tape", "_law_alphabet_here"] (spFactor K) := ok_factor Df0 Dd Dp B
  refine D.F.ok scProduct (fun vs H Q E h => ?_) (fun cdv A outer s H vs Q E hr h => ?_)
  · obtain ⟨t, c, n, z, m, rfl, _⟩ := h
    rfl
  · obtain ⟨t, c, n, z, m, rfl, T, hn, al, m0, m1, k⟩ := h
    have hr1 : Room 1 _ := hr.mono (by decide)
    refine ⟨_, pss_one (ps_ret (pe_callTy call_tuple_of (by rfl) mt (by decide +kernel) (pa_cons (pe_lc (own := [("_law_k", 3)]) (g := gName 3) rfl scProduct.nd
        (pi_range1 rfl B.range (pa_cons (pe_call Gd hr1 (by rfl) Dd.g Dd.F.kp Dd.b .nil pass0 (pa_cons (pv 0) (pa_cons (pe_op op_add (pv 2) pe_int) pa_nil))) pa_nil))
        (blkOk_by (N := ["_law_tape", "_law_alphabet_here", "_law_longest", "_law_k"]) (sc := defScope sProduct) (by decide +kernel)) (fun _ _ _ _ _ => pg_name (i := 3) scProduct.nd rfl (Or.inl rfl)) (fun _ _ _ _ _ => pts_nil)
        (fun _ _ _ _ _ => pe_call Gf hr (by rfl) Df0.g Df0.F.kp Df0.b .nil pass0 (pa_cons (pv 0) (pa_cons (pv 1) pa_nil)))) pa_nil))), ?_⟩
    refine ⟨.ref t, rfl, .int m, rfl, m, 1, rfl, rfl, t, c, m + 1, n, rfl, T, by omega, by omega, by omega, fun H1 r k1 T1 r0 r1 => ?_⟩
    refine ⟨r, rfl, by omega, by omega, fun D hD => ?_⟩
    have D1 := T1.ne1 hD
    have D2 := T1.ne2 hD
    have D0 := k1.gone hD
    refine lc_range (lo := 0) (n := r.toNat) (fun i H' => ∃ (xs : List V) (fs : List Fc), fs.length = i ∧ H' D = some (.lst xs) ∧ IsFs K H' xs fs ∧ (∀ f ∈ fs, FOk z f) ∧ Kp t H H' ∧ Tape H' t c (n + 1 + 10 * i)) ?_ ?_ ?_
    · exact ⟨[], [], rfl, upd_same, .nil, fun f hf => (nomatch hf), k1.put D0 D1, T1.upd D1 D2⟩
    · rintro i G hi ⟨xs, fs, fl, gD, iF, ok, kG, TG⟩
      refine ⟨rfl, yes ?_⟩
      refine ⟨.ref t, rfl, .str z, rfl, t, c, n + 1 + 10 * i, z, rfl, TG, by omega, al, fun H4 v f k4 T4 isf fok => ?_⟩
      have gD4 := k4.at gD (fun _ z => by cases z)
      have iF4 := iF.mono (kp_tup k4)
      refine ⟨xs, gD4, ?_, xs ++ [v], fs ++ [f], by rw [List.length_append, fl]; rfl, upd_same, (iF4.snoc isf).mono (upd_tup gD4), fun g hg => ?_, (kG.trans k4).put D0 D1, (T4.upd D1 D2).mono (by omega)⟩
      · rw [iF.len, fl, sizeLine_eq]
        omega
      · rcases List.mem_append.mp hg with q | q
        · exact ok g q
        · rw [List.mem_singleton.mp q]
          exact fok
    · rintro G ⟨xs, fs, fl, gD, iF, ok, kG, TG⟩
      refine ⟨D, xs, rfl, .inl ⟨SqL.of gD, fun p hp => ?_⟩⟩
      have s3 := same_upd (o := .tup xs) hp
      exact k _ _ fs (kG.trans (TG.kp s3)) ((TG.same s3).mono (by omega)) ⟨p, xs, rfl, SqT.of upd_same, iF.mono (same_tup s3)⟩ ok (by omega)
end
end DW
namespace DW
open PySem PySem.Spec PyProof.Rows L2 TL
set_option autoImplicit false
/-! ### unfoldings -/
theorem upd_upd2 {H : Hp} {d : Addr} {o u : HO} : upd (upd H d o) d u = upd H d u := by
  funext b
  by_cases e : b = d
  · rw [e, upd_same, upd_same]
  · rw [upd_ne e, upd_ne e, upd_ne e]
def piece (m : Nat) (f : Fc) : List Nat := if f.1 = true then (List.replicate m (tl f.2)).flatten else tl f.2
def unf (fs : List Fc) (m : Nat) : List Nat := (fs.map (piece m)).flatten
theorem piece_len {m : Nat} {f : Fc} (hm : m ≤ 1000) (h : (tl f.2).length ≤ 3) : (piece m f).length ≤ 3000 := by
  unfold piece
  by_cases e : f.1 = true
  · rw [if_pos e, List.length_flatten, List.map_replicate, List.sum_replicate_nat]
    have := Nat.mul_le_mul hm h
    omega
  · rw [if_neg e]
    omega
theorem unf_len {m : Nat} (hm : m ≤ 1000) : ∀ fs : List Fc, (∀ f ∈ fs, (tl f.2).length ≤ 3) → (unf fs m).length ≤ 3000 * fs.length
  | [], _ => Nat.le_refl _
  | f :: r, h => by
    have ih := unf_len hm r fun g hg => h g (List.mem_cons_of_mem _ hg)
    have h1 := piece_len hm (h f List.mem_cons_self)
    have e : (unf (f :: r) m).length = (piece m f).length + (unf r m).length := by
      unfold unf
      rw [List.map_cons, List.flatten_cons, List.length_append]
    rw [List.length_cons, e]
    omega
theorem sum_lens (ys : List Str) : (ys.map (·.length)).sum = ((ys.map tl).flatten).length := by
  rw [List.length_flatten, List.map_map]
  exact congrArg List.sum (List.map_congr_left fun y _ => (Array.length_toList).symm)
theorem unf_snoc (fs : List Fc) (m : Nat) {i : Nat} {f : Fc} (h : fs[i]? = some f) : unf (fs.take (i + 1)) m = unf (fs.take i) m ++ piece m f := by
  unfold unf
  rw [List.take_add_one, h]
  simp
theorem kd_opt (b : Bool) : decide (V.str (kd b) = V.str "opt") = !b := by
  cases b
  · exact decide_eq_true rfl
  · exact decide_eq_false (by unfold kd; decide +kernel)
def spUnfold (K : PySem.W.Frag) : Sp := fun vs H Q _ => ∃ (v : V) (fs : List Fc) (m : Int), vs = [v, .int m] ∧ IsP K H v fs ∧ (∀ f ∈ fs, (tl f.2).length ≤ 3) ∧ fs.length ≤ 100 ∧ 0 ≤ m ∧ m ≤ 1000 ∧
  ∀ H' r, Same H H' → tl r = unf fs m.toNat → Q (.str r) H'
end DW
namespace DW
open PySem PySem.Spec PyProof.Rows L2 TL
set_option autoImplicit false
theorem tl_app (x y : Str) : tl (x ++ y) = tl x ++ tl y := Array.toList_append
def OverW (z : Str) (u : Str) : Prop := ∀ c ∈ tl u, c ∈ tl z
/-! ### the language of a product -/
abbrev ls (f : Fc) : List Nat := tl f.2
inductive Lg : List Fc → List Nat → Prop where
  | nil : Lg [] []
  | skip {f : Fc} {fs : List Fc} {w : List Nat} (h : Lg fs w) : Lg (f :: fs) w
  | opt {f : Fc} {fs : List Fc} {c : Nat} {w : List Nat} (k : f.1 = false) (m : c ∈ ls f) (h : Lg fs w) : Lg (f :: fs) (c :: w)
  | star {f : Fc} {fs : List Fc} {c : Nat} {w : List Nat} (k : f.1 = true) (m : c ∈ ls f) (h : Lg (f :: fs) w) : Lg (f :: fs) (c :: w)
theorem Lg.empty : ∀ fs : List Fc, Lg fs []
  | [] => .nil
  | _ :: fs => .skip (Lg.empty fs)
theorem Lg.tail {fs : List Fc} {c : Nat} {w : List Nat} (h : Lg fs (c :: w)) : Lg fs w := by
  generalize e : c :: w = u at h
  induction h with
  | nil => cases e
  | skip h ih => exact .skip (ih e)
  | opt k m h ih =>
    cases e
    exact .skip h
  | star k m h ih =>
    cases e
    exact h
theorem Lg.drop {fs : List Fc} : ∀ {u v : List Nat}, Lg fs (u ++ v) → Lg fs v
  | [], _, h => h
  | _ :: _, _, h => Lg.drop (Lg.tail h)
theorem Lg.init {fs : List Fc} {u v : List Nat} (h : Lg fs (u ++ v)) : Lg fs u := by
  generalize e : u ++ v = x at h
  induction h generalizing u with
  | nil =>
    obtain ⟨rfl, _⟩ := List.append_eq_nil_iff.mp e
    exact .nil
  | skip h ih => exact .skip (ih e)
  | opt k m h ih =>
    cases u with
    | nil => exact Lg.empty _
    | cons d u =>
      obtain ⟨rfl, e2⟩ := List.cons.inj e
      exact .opt k m (ih e2)
  | star k m h ih =>
    cases u with
    | nil => exact Lg.empty _
    | cons d u =>
      obtain ⟨rfl, e2⟩ := List.cons.inj e
      exact .star k m (ih e2)
theorem Lg.has {fs : List Fc} {c : Nat} {w : List Nat} (h : Lg fs (c :: w)) : ∃ g ∈ fs, c ∈ ls g := by
  generalize e : c :: w = u at h
  induction h with
  | nil => cases e
  | skip h ih =>
    obtain ⟨g, hg, hc⟩ := ih e
    exact ⟨g, List.mem_cons_of_mem _ hg, hc⟩
  | opt k m h ih =>
    cases e
    exact ⟨_, List.mem_cons_self, m⟩
  | star k m h ih =>
    cases e
    exact ⟨_, List.mem_cons_self, m⟩
theorem Lg.app {fs gs : List Fc} {u v : List Nat} (h1 : Lg fs u) (h2 : Lg gs v) : Lg (fs ++ gs) (u ++ v) := by
  induction h1 with
  | nil => exact h2
  | skip h ih => exact .skip ih
  | opt k m h ih => exact .opt k m ih
  | star k m h ih => exact .star k m ih
theorem Lg.split {gs : List Fc} : ∀ {fs : List Fc} {w : List Nat}, Lg (fs ++ gs) w → ∃ u v, w = u ++ v ∧ Lg fs u ∧ Lg gs v := by
  intro fs w h
  generalize e : fs ++ gs = hs at h
  induction h generalizing fs with
  | nil =>
    obtain ⟨rfl, rfl⟩ := List.append_eq_nil_iff.mp e
    exact ⟨[], [], rfl, .nil, .nil⟩
  | @skip f hs w h ih =>
    cases fs with
    | nil =>
      have e' : gs = f :: hs := e
      exact ⟨[], w, rfl, .nil, by rw [e']; exact .skip h⟩
    | cons f' fs =>
      obtain ⟨rfl, e2⟩ := List.cons.inj e
      obtain ⟨u, v, rfl, h1, h2⟩ := ih e2
      exact ⟨u, v, rfl, .skip h1, h2⟩
  | @opt f hs c w k m h ih =>
    cases fs with
    | nil =>
      have e' : gs = f :: hs := e
      exact ⟨[], c :: w, rfl, .nil, by rw [e']; exact .opt k m h⟩
    | cons f' fs =>
      obtain ⟨rfl, e2⟩ := List.cons.inj e
      obtain ⟨u, v, rfl, h1, h2⟩ := ih e2
      exact ⟨c :: u, v, rfl, .opt k m h1, h2⟩
  | @star f hs c w k m h ih =>
    cases fs with
    | nil =>
      have e' : gs = f :: hs := e
      exact ⟨[], c :: w, rfl, .nil, by rw [e']; exact .star k m h⟩
    | cons f' fs =>
      obtain ⟨rfl, e2⟩ := List.cons.inj e
      obtain ⟨u, v, rfl, h1, h2⟩ := ih (fs := f' :: fs) e
      exact ⟨c :: u, v, rfl, .star k m h1, h2⟩
theorem Lg.one_star {f : Fc} (k : f.1 = true) : ∀ {w : List Nat}, Lg [f] w ↔ ∀ c ∈ w, c ∈ ls f := by
  intro w
  constructor
  · intro h
    generalize e : [f] = hs at h
    induction h with
    | nil => intro c hc; cases hc
    | skip h ih =>
      obtain ⟨rfl, rfl⟩ := List.cons.inj e
      cases h
      intro c hc
      cases hc
    | opt k' m h ih =>
      obtain ⟨rfl, rfl⟩ := List.cons.inj e
      rw [k] at k'
      cases k'
    | star k' m h ih =>
      intro c hc
      rcases List.mem_cons.mp hc with q | q
      · obtain ⟨rfl, rfl⟩ := List.cons.inj e
        rw [q]
        exact m
      · exact ih e c q
  · intro h
    induction w with
    | nil => exact Lg.empty _
    | cons c w ih => exact .star k (h c List.mem_cons_self) (ih fun d hd => h d (List.mem_cons_of_mem _ hd))
theorem Lg.one_opt {f : Fc} (k : f.1 = false) {w : List Nat} (h : Lg [f] w) : w = [] ∨ ∃ c ∈ ls f, w = [c] := by
  cases h with
  | skip h =>
    cases h
    exact .inl rfl
  | opt k' m h =>
    cases h
    exact .inr ⟨_, m, rfl⟩
  | star k' m h =>
    rw [k] at k'
    cases k'
/-- a word behind a factor more -/
theorem Lg.snoc {fs : List Fc} {f : Fc} {u : List Nat} : Lg (fs ++ [f]) u ↔ Lg fs u ∨ ∃ u' c, u = u' ++ [c] ∧ c ∈ ls f ∧ (if f.1 = true then Lg (fs ++ [f]) u' else Lg fs u') := by
  constructor
  · intro h
    obtain ⟨a, b, rfl, h1, h2⟩ := h.split
    by_cases k : f.1 = true
    · have q := (Lg.one_star k).mp h2
      rcases List.eq_nil_or_concat b with e | ⟨b', c, e⟩
      · left
        rw [e, List.append_nil]
        exact h1
      · right
        rw [List.concat_eq_append] at e
        refine ⟨a ++ b', c, by rw [e, List.append_assoc], q c (by rw [e]; simp), ?_⟩
        rw [if_pos k]
        exact Lg.app h1 ((Lg.one_star k).mpr fun d hd => q d (by rw [e]; simp [hd]))
    · rcases Lg.one_opt (by simpa using k) h2 with e | ⟨c, hc, e⟩
      · left
        rw [e, List.append_nil]
        exact h1
      · right
        exact ⟨a, c, by rw [e], hc, by rw [if_neg k]; exact h1⟩
  · rintro (h | ⟨u', c, rfl, hc, h⟩)
    · have := Lg.app h (Lg.empty [f])
      rw [List.append_nil] at this
      exact this
    · by_cases k : f.1 = true
      · rw [if_pos k] at h
        obtain ⟨a, b, rfl, h1, h2⟩ := h.split
        rw [List.append_assoc]
        refine Lg.app h1 ((Lg.one_star k).mpr fun d hd => ?_)
        rcases List.mem_append.mp hd with q | q
        · exact (Lg.one_star k).mp h2 d q
        · rw [List.mem_singleton.mp q]
          exact hc
      · rw [if_neg k] at h
        exact Lg.app h (.opt (by simpa using k) hc .nil)
theorem Lg.unf (m : Nat) : ∀ fs : List Fc, (∀ f ∈ fs, f.1 = false → (ls f).length = 1) → Lg fs (DW.unf fs m)
  | [], _ => .nil
  | f :: fs, h => by
    have ih := Lg.unf m fs fun g hg => h g (List.mem_cons_of_mem _ hg)
    have e : DW.unf (f :: fs) m = piece m f ++ DW.unf fs m := rfl
    rw [e]
    refine Lg.app (fs := [f]) ?_ ih
    unfold piece
    by_cases k : f.1 = true
    · rw [if_pos k]
      refine (Lg.one_star k).mpr fun c hc => ?_
      obtain ⟨l, hl, hc⟩ := List.mem_flatten.mp hc
      rw [List.eq_of_mem_replicate hl] at hc
      exact hc
    · rw [if_neg k]
      have k' : f.1 = false := by simpa using k
      have l1 := h f List.mem_cons_self k'
      obtain ⟨c, e⟩ := List.length_eq_one_iff.mp l1
      have e' : tl f.2 = [c] := e
      rw [e']
      exact .opt k' (by show c ∈ tl f.2; rw [e']; simp) .nil
/-! ### inclusion, factor by factor -/
def sw (g f : Fc) : Bool := g.1 && (ls f).all fun c => decide (c ∈ ls g)
def cov (g f : Fc) : Bool := decide (g = f) || sw g f
def inc : List Fc → List Fc → Bool
  | _, [] => true
  | [], _ :: _ => false
  | g :: q, f :: p => if cov g f = true then (if g.1 = true then inc (g :: q) p else inc q p) else inc q (f :: p)
termination_by q p => q.length + p.length
def W1 (fs : List Fc) : Prop := ∀ f ∈ fs, ls f ≠ [] ∧ (f.1 = false → (ls f).length = 1)
theorem cov_sub {g f : Fc} (h : cov g f = true) (k : g.1 = true) : ∀ c ∈ ls f, c ∈ ls g := by
  intro c hc
  unfold cov at h
  rw [Bool.or_eq_true] at h
  rcases h with e | e
  · rw [of_decide_eq_true e]
    exact hc
  · unfold sw at e
    rw [Bool.and_eq_true, List.all_eq_true] at e
    exact of_decide_eq_true (e.2 c hc)
theorem cov_opt {g f : Fc} (h : cov g f = true) (k : g.1 = false) : g = f := by
  unfold cov at h
  rw [Bool.or_eq_true] at h
  rcases h with e | e
  · exact of_decide_eq_true e
  · unfold sw at e
    rw [k] at e
    cases e
theorem inc_sound : ∀ (q p : List Fc), inc q p = true → ∀ w, Lg p w → Lg q w
  | q, [], _, w, h => by
    cases h
    exact Lg.empty q
  | [], f :: p, h, w, _ => by
    unfold inc at h
    cases h
  | g :: q, f :: p, h, w, hw => by
    unfold inc at h
    by_cases c : cov g f = true
    · rw [if_pos c] at h
      by_cases k : g.1 = true
      · rw [if_pos k] at h
        have ih := inc_sound (g :: q) p h
        have sub := cov_sub c k
        generalize e : f :: p = fp at hw
        induction hw with
        | nil => cases e
        | skip h1 _ =>
          cases e
          exact ih _ h1
        | opt _ m h1 _ =>
          cases e
          exact .star k (sub _ m) (ih _ h1)
        | star _ m h1 ih1 =>
          cases e
          exact .star k (sub _ m) (ih1 rfl)
      · rw [if_neg k] at h
        have k' : g.1 = false := by simpa using k
        have ih := inc_sound q p h
        have e := cov_opt c k'
        subst e
        cases hw with
        | skip h1 => exact .skip (ih _ h1)
        | opt k2 m h1 => exact .opt k2 m (ih _ h1)
        | star k2 m h1 =>
          rw [k'] at k2
          cases k2
    · rw [if_neg c] at h
      exact .skip (inc_sound q (f :: p) h w hw)
termination_by q p => q.length + p.length
/-! ### a word that repeats letters in turn -/
def Per (L : List Nat) (o : Nat) (v : List Nat) : Prop := ∀ k : Nat, k < v.length → v[k]? = L[(o + k) % L.length]?
theorem Per.tail {L u v : List Nat} {o : Nat} (h : Per L o (u ++ v)) : Per L (o + u.length) v := fun k hk => by
  have q := h (u.length + k) (by rw [List.length_append]; omega)
  rw [List.getElem?_append_right (by omega), show u.length + k - u.length = k by omega] at q
  rw [q, Nat.add_assoc]
theorem Per.head {L u v : List Nat} {o : Nat} (h : Per L o (u ++ v)) : Per L o u := fun k hk => by
  have q := h k (by rw [List.length_append]; omega)
  rw [List.getElem?_append_left hk] at q
  exact q
theorem Per.all {L v : List Nat} {o : Nat} (h0 : L ≠ []) (h : Per L o v) (hl : L.length ≤ v.length) : ∀ c ∈ L, c ∈ v := by
  intro c hc
  obtain ⟨i, hi, e⟩ := List.mem_iff_getElem.mp hc
  have lp : 0 < L.length := List.length_pos_iff.mpr h0
  have om := Nat.mod_lt o lp
  -- k with (o + k) % |L| = i
  have : ∃ k, k < L.length ∧ (o + k) % L.length = i := by
    by_cases c : o % L.length ≤ i
    · refine ⟨i - o % L.length, by omega, ?_⟩
      rw [Nat.add_mod, Nat.mod_eq_of_lt (show i - o % L.length < L.length by omega)]
      rw [show o % L.length + (i - o % L.length) = i by omega, Nat.mod_eq_of_lt hi]
    · refine ⟨i + L.length - o % L.length, by omega, ?_⟩
      rw [Nat.add_mod, Nat.mod_eq_of_lt (show i + L.length - o % L.length < L.length by omega)]
      rw [show o % L.length + (i + L.length - o % L.length) = i + L.length by omega, Nat.add_mod_right, Nat.mod_eq_of_lt hi]
  obtain ⟨k, hk, ek⟩ := this
  have q := h k (by omega)
  rw [ek, List.getElem?_eq_getElem hi, e] at q
  exact List.mem_of_getElem? q
theorem Per.bound {f : Fc} (h0 : ls f ≠ []) : ∀ (q : List Fc), (∀ g ∈ q, cov g f = false) → ∀ (v : List Nat) (o : Nat), Per (ls f) o v → Lg q v → v.length ≤ q.length * (ls f).length
  | [], _, v, o, _, h => by
    cases h
    exact Nat.zero_le _
  | g :: q, hq, v, o, hp, h => by
    obtain ⟨a, b, rfl, h1, h2⟩ := Lg.split (fs := [g]) h
    have ih := Per.bound h0 q (fun g hg => hq g (List.mem_cons_of_mem _ hg)) b _ hp.tail h2
    have al : a.length ≤ (ls f).length := by
      have lp : 0 < (ls f).length := List.length_pos_iff.mpr h0
      by_cases k : g.1 = true
      · have sub := (Lg.one_star k).mp h1
        by_cases c : (ls f).length ≤ a.length
        · have al := hp.head.all h0 c
          have cv : cov g f = true := by
            unfold cov sw
            rw [Bool.or_eq_true]
            right
            rw [k, Bool.true_and, List.all_eq_true]
            exact fun c hc => decide_eq_true (sub c (al c hc))
          rw [hq g List.mem_cons_self] at cv
          cases cv
        · omega
      · rcases Lg.one_opt (by simpa using k) h1 with e | ⟨c, _, e⟩
        · rw [e]
          exact Nat.zero_le _
        · rw [e]
          exact lp
    rw [List.length_append, List.length_cons, Nat.succ_mul]
    omega
theorem per_rep (L : List Nat) (m : Nat) : Per L 0 (List.replicate m L).flatten := by
  induction m with
  | zero =>
    intro k hk
    exact absurd hk (Nat.not_lt_zero _)
  | succ m ih =>
    intro k hk
    rw [List.replicate_succ, List.flatten_cons]
    by_cases c : k < L.length
    · rw [List.getElem?_append_left c, Nat.zero_add, Nat.mod_eq_of_lt c]
    · rw [List.getElem?_append_right (by omega)]
      have q := ih (k - L.length) (by
        rw [List.replicate_succ, List.flatten_cons, List.length_append] at hk
        omega)
      rw [q, Nat.zero_add, Nat.zero_add]
      congr 1
      rw [← Nat.mod_eq_sub_mod (by omega)]
theorem rep_len (L : List Nat) (m : Nat) : (List.replicate m L).flatten.length = m * L.length := by
  rw [List.length_flatten, List.map_replicate, List.sum_replicate_nat]
/-- skipping factors that do not cover -/
theorem inc_skip {f : Fc} {p : List Fc} : ∀ {a b : List Fc}, (∀ g ∈ a, cov g f = false) → inc (a ++ b) (f :: p) = inc b (f :: p)
  | [], _, _ => rfl
  | g :: a, b, h => by
    rw [List.cons_append]
    rw [show inc (g :: (a ++ b)) (f :: p) = inc (a ++ b) (f :: p) by
      conv => lhs; unfold inc
      rw [if_neg (by rw [h g List.mem_cons_self]; simp)]]
    exact inc_skip fun g hg => h g (List.mem_cons_of_mem _ hg)
theorem first_cov (f : Fc) : ∀ q : List Fc, (∀ g ∈ q, cov g f = false) ∨ ∃ a g b, q = a ++ g :: b ∧ (∀ h ∈ a, cov h f = false) ∧ cov g f = true
  | [] => .inl fun g hg => (nomatch hg)
  | g :: q => by
    by_cases c : cov g f = true
    · exact .inr ⟨[], g, q, rfl, fun h hh => (nomatch hh), c⟩
    · have c' : cov g f = false := by simpa using c
      rcases first_cov f q with h | ⟨a, g', b, rfl, h1, h2⟩
      · left
        intro h' hh
        rcases List.mem_cons.mp hh with e | e
        · rw [e]; exact c'
        · exact h h' e
      · right
        refine ⟨g :: a, g', b, rfl, fun h hh => ?_, h2⟩
        rcases List.mem_cons.mp hh with e | e
        · rw [e]; exact c'
        · exact h1 h e
theorem inc_complete (m : Nat) : ∀ (p q : List Fc), W1 p → W1 q → q.length < m → Lg q (DW.unf p m) → inc q p = true
  | [], q, _, _, _, _ => by
    cases q <;> (unfold inc; rfl)
  | f :: p, q, wp, wq, hm, h => by
    have wp' : W1 p := fun g hg => wp g (List.mem_cons_of_mem _ hg)
    obtain ⟨n0, n1⟩ := wp f List.mem_cons_self
    have e : DW.unf (f :: p) m = piece m f ++ DW.unf p m := rfl
    rw [e] at h
    have lp : 0 < (ls f).length := List.length_pos_iff.mpr n0
    -- the factors that do not cover take at most |q| copies
    have key : ∀ a b, q = a ++ b → (∀ g ∈ a, cov g f = false) → ∃ v, v ≠ [] ∧ (∀ c ∈ v, c ∈ ls f) ∧ Lg b (v ++ DW.unf p m) := by
      intro a b eq ha
      rw [eq] at h
      obtain ⟨u, v, euv, h1, h2⟩ := h.split
      have la : a.length ≤ q.length := by rw [eq, List.length_append]; omega
      by_cases k : f.1 = true
      · have ep : piece m f = (List.replicate m (ls f)).flatten := by unfold piece; rw [if_pos k]
        rw [ep] at euv
        have pr := per_rep (ls f) m
        have lu : u.length < (List.replicate m (ls f)).flatten.length := by
          rw [rep_len]
          apply Decidable.byContradiction
          intro hc
          -- then all copies lie within u
          have hu : ∃ t, u = (List.replicate m (ls f)).flatten ++ t := by
            have q1 : (List.replicate m (ls f)).flatten <+: u ++ v := ⟨_, euv⟩
            have q2 : u <+: u ++ v := List.prefix_append _ _
            have q3 := List.prefix_of_prefix_length_le q1 q2 (by rw [rep_len]; omega)
            obtain ⟨t, et⟩ := q3
            exact ⟨t, et.symm⟩
          obtain ⟨t, rfl⟩ := hu
          have h3 : Lg a (List.replicate m (ls f)).flatten := by
            exact Lg.init h1
          have bd := Per.bound n0 a ha _ 0 pr h3
          rw [rep_len] at bd
          have : a.length * (ls f).length < m * (ls f).length := Nat.mul_lt_mul_of_pos_right (by omega) lp
          omega
        obtain ⟨t, et⟩ : ∃ t, (List.replicate m (ls f)).flatten = u ++ t := by
          have q1 : (List.replicate m (ls f)).flatten <+: u ++ v := ⟨_, euv⟩
          have q2 : u <+: u ++ v := List.prefix_append _ _
          obtain ⟨t, et⟩ := List.prefix_of_prefix_length_le q2 q1 (by omega)
          exact ⟨t, et.symm⟩
        have ev : v = t ++ DW.unf p m := by
          rw [et, List.append_assoc] at euv
          exact (List.append_cancel_left euv).symm
        refine ⟨t, fun z => ?_, fun c hc => ?_, by rw [← ev]; exact h2⟩
        · rw [z, List.append_nil] at et
          rw [et] at lu
          omega
        · have : c ∈ (List.replicate m (ls f)).flatten := by rw [et]; exact List.mem_append_right _ hc
          obtain ⟨l, hl, hc⟩ := List.mem_flatten.mp this
          rw [List.eq_of_mem_replicate hl] at hc
          exact hc
      · have k' : f.1 = false := by simpa using k
        obtain ⟨c, ec⟩ := List.length_eq_one_iff.mp (n1 k')
        have ec' : tl f.2 = [c] := ec
        have ep : piece m f = [c] := by unfold piece; rw [if_neg k, ec']
        rw [ep] at euv
        cases u with
        | nil => exact ⟨[c], by simp, fun d hd => by rw [List.mem_singleton.mp hd]; show c ∈ tl f.2; rw [ec']; simp, by rw [euv]; exact h2⟩
        | cons d u =>
          -- a takes the letter: one of its factors covers f
          exfalso
          have ed : c = d := (List.cons.inj euv).1
          subst ed
          obtain ⟨g, hg, hc⟩ := Lg.has h1
          have hq : g ∈ q := by rw [eq]; exact List.mem_append_left _ hg
          have cv : cov g f = true := by
            unfold cov
            rw [Bool.or_eq_true]
            by_cases kg : g.1 = true
            · right
              unfold sw
              rw [kg, Bool.true_and, List.all_eq_true]
              intro d hd
              have : d ∈ [c] := by rw [← ec']; exact hd
              rw [List.mem_singleton.mp this]
              exact decide_eq_true hc
            · left
              have kg' : g.1 = false := by simpa using kg
              obtain ⟨d, ed⟩ := List.length_eq_one_iff.mp ((wq g hq).2 kg')
              have hc' : c ∈ ls g := hc
              rw [ed] at hc'
              have e2 : tl g.2 = tl f.2 := by
                rw [ec']
                show ls g = [c]
                rw [ed, List.mem_singleton.mp hc']
              obtain ⟨g1, g2⟩ := g
              obtain ⟨f1, f2⟩ := f
              have e3 : g2 = f2 := tl_inj e2
              have e4 : g1 = f1 := kg'.trans k'.symm
              exact decide_eq_true (by rw [e3, e4])
          rw [ha g hg] at cv
          cases cv
    rcases first_cov f q with hn | ⟨a, g, b, eq, ha, hg⟩
    · obtain ⟨v, v0, _, hv⟩ := key q [] (by simp) hn
      cases v with
      | nil => exact absurd rfl v0
      | cons c v => cases hv
    · obtain ⟨v, v0, vs, hv⟩ := key a (g :: b) eq ha
      have ei : inc q (f :: p) = inc (g :: b) (f :: p) := by rw [eq]; exact inc_skip ha
      have lb : (g :: b).length ≤ q.length := by rw [eq, List.length_append]; omega
      rw [ei]
      have wb : W1 (g :: b) := fun x hx => wq x (by rw [eq]; exact List.mem_append_right _ hx)
      by_cases k : g.1 = true
      · have ih := inc_complete m p (g :: b) wp' wb (by omega) hv.drop
        unfold inc
        rw [if_pos hg, if_pos k]
        exact ih
      · have k' : g.1 = false := by simpa using k
        have eg := cov_opt hg k'
        have hb : Lg b (DW.unf p m) := by
          cases v with
          | nil => exact absurd rfl v0
          | cons c v =>
            cases hv with
            | skip h => exact Lg.drop (u := c :: v) h
            | opt _ _ h => exact Lg.drop h
            | star k2 _ _ =>
              rw [k'] at k2
              cases k2
        have ih := inc_complete m p b wp' (fun x hx => wb x (List.mem_cons_of_mem _ hx)) (by rw [List.length_cons] at lb; omega) hb
        unfold inc
        rw [if_pos hg, if_neg k]
        exact ih
end DW
namespace DW
open PySem PySem.Spec PyProof.Rows L2 TL
set_option autoImplicit false
theorem kd_star (b : Bool) : decide (V.str (kd b) = V.str "star") = b := by
  cases b
  · exact decide_eq_false (by unfold kd; decide +kernel)
  · exact decide_eq_true rfl
theorem kd_inj {a b : Bool} (h : kd a = kd b) : a = b := by
  cases a <;> cases b <;> first | rfl | (exfalso; revert h; unfold kd; decide +kernel)
def fD (f : Fc) : PyData := .tuple [.str (kd f.1), .str f.2]
theorem IsF.dp {K : PySem.W.Frag} {H : Hp} {v : V} {f : Fc} (h : IsF K H v f) : Dp K H v (fD f) := by
  obtain ⟨a, rfl, q⟩ := h
  exact .tup q (.cons (.str _) (.cons (.str _) .nil))
def Low (f : Fc) : Prop := (∀ c ∈ ls f, c < 128) ∧ (ls f).length ≤ 1000
theorem strOk_low {x : Str} (h : ∀ c ∈ tl x, c < 128) (hl : (tl x).length ≤ 1000) : PyData.strOk x = true := by
  unfold PyData.strOk
  rw [← Array.all_toList, List.all_eq_true]
  exact fun c hc => decide_eq_true (by have := h c hc; omega)
theorem kd_ok (b : Bool) : PyData.strOk (kd b) = true := by
  cases b <;> (unfold kd; decide +kernel)
theorem fD_shaped {f : Fc} (h : Low f) : SeqAt.shaped (fD f) = true := by
  unfold SeqAt.shaped fD
  rw [Bool.and_eq_true]
  refine ⟨?_, decide_eq_true (by simp [PyData.depth, PyData.depthAll])⟩
  simp only [PyData.canLay0, PyData.canLayAll0, kd_ok, strOk_low h.1 h.2, Bool.and_self]
theorem fD_eqv (f g : Fc) : PyData.eqv (fD f) (fD g) = decide (f = g) := by
  unfold fD
  simp only [PyData.eqv, PyData.eqvAll, Bool.and_true]
  rw [Bool.eq_iff_iff, Bool.and_eq_true, decide_eq_true_eq, beq_iff_eq, beq_iff_eq]
  constructor
  · rintro ⟨e1, e2⟩
    obtain ⟨a, b⟩ := f
    obtain ⟨c, d⟩ := g
    have := kd_inj e1
    simp only at this e2
    rw [this, e2]
  · rintro rfl
    exact ⟨rfl, rfl⟩
def spSw (K : PySem.W.Frag) : Sp := fun vs H Q _ => ∃ (x y : V) (g f : Fc), vs = [x, y] ∧ IsF K H x g ∧ IsF K H y f ∧ (ls f).length ≤ 1000 ∧ ∀ H', Same H H' → Q (.bl (sw g f)) H'
def spCov (K : PySem.W.Frag) : Sp := fun vs H Q _ => ∃ (x y : V) (g f : Fc), vs = [x, y] ∧ IsF K H x g ∧ IsF K H y f ∧ Low g ∧ Low f ∧ ∀ H', Same H H' → Q (.bl (cov g f)) H'
def spIncl (K : PySem.W.Frag) : Sp := fun vs H Q _ => ∃ (x y : V) (p q : List Fc), vs = [x, y] ∧ IsP K H x p ∧ IsP K H y q ∧ (∀ f ∈ p, Low f) ∧ (∀ g ∈ q, Low g) ∧ ∀ H', Same H H' → Q (.bl (inc q p)) H'
def rst : List Fc → List Fc → Option (List Fc)
  | q, [] => some q
  | [], _ :: _ => none
  | g :: q, f :: p => if cov g f = true then (if g.1 = true then rst (g :: q) p else rst q p) else rst q (f :: p)
termination_by q p => (q.length + p.length)
theorem rst_none (f : Fc) (p : List Fc) : rst [] (f :: p) = none := by unfold rst; rfl
theorem rst_cons (g f : Fc) (q p : List Fc) : rst (g :: q) (f :: p) = if cov g f = true then (if g.1 = true then rst (g :: q) p else rst q p) else rst q (f :: p) := by conv => lhs; unfold rst
theorem rst_nil (q : List Fc) : rst q [] = some q := by cases q <;> (unfold rst; rfl)
theorem inc_none (f : Fc) (p : List Fc) : inc [] (f :: p) = false := by unfold inc; rfl
theorem inc_cons (g f : Fc) (q p : List Fc) : inc (g :: q) (f :: p) = if cov g f = true then (if g.1 = true then inc (g :: q) p else inc q p) else inc q (f :: p) := by conv => lhs; unfold inc
theorem inc_nil (q : List Fc) : inc q [] = true := by cases q <;> (unfold inc; rfl)
theorem rst_inc : ∀ (q p : List Fc), (rst q p).isSome = inc q p
  | q, [] => by rw [rst_nil, inc_nil]; rfl
  | [], f :: p => by rw [rst_none, inc_none]; rfl
  | g :: q, f :: p => by
    rw [rst_cons, inc_cons]
    by_cases c : cov g f = true
    · rw [if_pos c, if_pos c]
      by_cases s : g.1 = true
      · rw [if_pos s, if_pos s]
        exact rst_inc (g :: q) p
      · rw [if_neg s, if_neg s]
        exact rst_inc q p
    · rw [if_neg c, if_neg c]
      exact rst_inc q (f :: p)
termination_by q p => (q.length + p.length)
/-- the place that is told: how many factors are left behind -/
def plV (n : Nat) : Option (List Fc) → V
  | none => .non
  | some r => .int ((n - r.length : Nat) : Int)
def spBehind (K : PySem.W.Frag) : Sp := fun vs H Q _ => ∃ (x : V) (q : List Fc) (i : Nat) (g : Fc), vs = [x, .int (i : Int)] ∧ IsP K H x q ∧ q[i]? = some g ∧ ∀ H', Same H H' → Q (.int ((if g.1 = true then i else i + 1 : Nat) : Int)) H'
def spPlc (K : PySem.W.Frag) : Sp := fun vs H Q _ => ∃ (x y : V) (p q : List Fc) (s : Nat), vs = [x, y, .int (s : Int)] ∧ IsP K H x p ∧ IsP K H y q ∧ s ≤ q.length ∧ (∀ f ∈ p, Low f) ∧ (∀ g ∈ q, Low g) ∧ ∀ H', Same H H' → Q (plV q.length (rst (q.drop s) p)) H'
section
variable {P : Program} {w : World} {K : PySem.W.Frag} {mg : Str → Option Value} {base : Heap}
theorem scSw : FnScope ["factor", "other", "letter"] ["factor", "other"] (defScope sSwallows) := ⟨rfl, rfl, rfl, by decide +kernel, rfl, by decide +kernel, by decide +kernel⟩
theorem ok_sw (D : Df K mg "swallows" sSwallows ["factor", "other"]) (ma : mg "all" = none) : FnOk P w K mg base CX0 1 D.f D.fd ["factor", "other"] (spSw K) := by
  refine D.F.ok scSw (fun vs H Q E h => ?_) (fun cdv A outer s H vs Q E hr h => ?_)
  · obtain ⟨x, y, g, f, rfl, _⟩ := h
    rfl
  · obtain ⟨x, y, g, f, rfl, ⟨a, rfl, ha⟩, ⟨b, rfl, hb⟩, fl, k⟩ := h
    refine ⟨_, pss_one (ps_ret (pe_and (pe_cmpR op_eq (pe_ix ix_tup (pv 0) pe_int (fun _ _ => rfl)) pe_str (nomark _)) (pe_one (pe_callB (cr_all rfl) (by rfl) ma (by decide +kernel) (pa_cons
      (pe_lc (own := [("letter", 2)]) (g := gName 2) rfl scSw.nd (pi_str (pe_ix ix_tup (pv 1) pe_int (fun _ _ => rfl))) (blkOk_by (N := ["factor", "other", "letter"]) (sc := defScope sSwallows) (by decide +kernel)) (fun _ _ _ _ _ => pg_name (i := 2) scSw.nd rfl (Or.inl rfl)) (fun _ _ _ _ _ => pts_nil)
        (fun _ _ _ _ _ => pe_cmpR op_in_sign (pv 2) (pe_ix (r := rIxT K) (by exact ix_tup) (pv 0) pe_int (fun _ _ => rfl)) rfl)) pa_nil))))), ?_⟩
    refine ⟨.ref a, rfl, a, _, 0, .str (kd g.1), rfl, rfl, ha, atI_nat (j := 0) rfl, rfl, _, rfl, ?_⟩
    rw [kd_star]
    refine ite2 (fun e => ?_) (fun e => ?_)
    · refine ⟨.ref b, rfl, b, _, 1, .str f.2, rfl, rfl, hb, atI_nat (j := 1) rfl, f.2, rfl, fun D hD => ?_⟩
      have zs : f.2.cps.size = (ls f).length := (Array.length_toList).symm
      refine lc_it walk_str (fun i H' => ∃ bs : List Bool, H' D = some (.lst (bs.map V.bl)) ∧ bs = ((ls f).take i).map (fun c => decide (c ∈ ls g)) ∧ Same H H') ?_ (fun _ _ _ _ => trivial) ?_ ?_
      · exact ⟨[], upd_same, rfl, same_upd hD⟩
      · rintro i x G G' hi ⟨bs, gD, be, sm⟩ ⟨rfl, d, hd, rfl⟩
        have hd' : (tl f.2)[i]? = some d := by rw [Array.getElem?_toList]; exact hd
        refine ⟨rfl, yes ?_⟩
        refine ⟨_, rfl, .ref a, rfl, a, _, 1, .str g.2, rfl, rfl, same_tup sm _ _ ha, atI_nat (j := 1) rfl, d, g.2, rfl, rfl, _, gD, ?_, bs ++ [decide (d ∈ tl g.2)], ?_, ?_, fun b u e => ?_⟩
        · rw [List.length_map, be, List.length_map, List.length_take, sizeLine_eq]
          omega
        · rw [upd_same, List.map_append]
          rfl
        · rw [be, List.take_add_one, hd', List.map_append]
          rfl
        · exact (upd_ne (ne_of_none e hD)).trans (sm _ _ e)
      · rintro G ⟨bs, gD, be, sm⟩
        refine ⟨D, bs, rfl, SqL.of gD, ?_⟩
        have e2 : bs.all id = sw g f := by
          rw [be, zs, List.take_length]
          unfold sw
          rw [e, Bool.true_and, List.all_map]
          rfl
        rw [e2]
        exact k _ sm
    · have e' : g.1 = false := by simpa using e
      have e2 : sw g f = false := by
        unfold sw
        rw [e']
        rfl
      rw [← e2]
      exact k _ (Same.refl _)
theorem scCov : FnScope ["factor", "other"] ["factor", "other"] (defScope sCovers) := ⟨rfl, rfl, rfl, by decide +kernel, rfl, by decide +kernel, by decide +kernel⟩
theorem ok_cov (D : Df K mg "covers" sCovers ["factor", "other"]) (Ds0 : Df K mg "swallows" sSwallows ["factor", "other"]) (ma : mg "all" = none) : FnOk P w K mg base CX0 2 D.f D.fd ["factor", "other"] (spCov K) := by
  have Gs : FnOk P w K mg base CX0 1 Ds0.f Ds0.fd ["factor", "other"] (spSw K) := ok_sw Ds0 ma
  refine D.F.ok scCov (fun vs H Q E h => ?_) (fun cdv A outer s H vs Q E hr h => ?_)
  · obtain ⟨x, y, g, f, rfl, _⟩ := h
    rfl
  · obtain ⟨x, y, g, f, rfl, hg, hf, lg, lf, k⟩ := h
    refine ⟨_, pss_one (ps_ret (pe_or (pe_cmpR (op_eqD hr.units) (pv 0) (pv 1) (nomark _)) (pe_one (pe_call Gs hr (by rfl) Ds0.g Ds0.F.kp Ds0.b .nil pass0 (pa_cons (pv 0) (pa_cons (pv 1) pa_nil)))))), ?_⟩
    refine ⟨x, rfl, y, rfl, fD g, fD f, hg.dp, hf.dp, fD_shaped lg, fD_shaped lf, _, rfl, ?_⟩
    rw [fD_eqv]
    refine ite2 (fun e => ?_) (fun e => ?_)
    · have e2 : cov g f = true := by
        unfold cov
        rw [e]
        rfl
      rw [← e2]
      exact k _ (Same.refl _)
    · refine ⟨x, rfl, y, rfl, x, y, g, f, rfl, hg, hf, lf.2, fun H' sm => ?_⟩
      have e2 : cov g f = sw g f := by
        unfold cov
        rw [show decide (g = f) = false by simpa using e]
        rfl
      rw [← e2]
      exact k _ sm
theorem drop_at {α : Type} {l : List α} {i : Nat} {x : α} (h : l[i]? = some x) : l.drop i = x :: l.drop (i + 1) := by
  obtain ⟨hi, e⟩ := List.getElem?_eq_some_iff.mp h
  rw [← e]
  exact List.drop_eq_getElem_cons hi
theorem IsFs.at {K : PySem.W.Frag} {H : Hp} : ∀ {vs : List V} {fs : List Fc}, IsFs K H vs fs → ∀ (i : Nat), i < fs.length → ∃ v f, vs[i]? = some v ∧ fs[i]? = some f ∧ IsF K H v f := by
  intro vs fs h i hi
  have hv : i < vs.length := by rw [h.len]; exact hi
  obtain ⟨f, e, q⟩ := h.get i vs[i] (List.getElem?_eq_getElem hv)
  exact ⟨_, f, List.getElem?_eq_getElem hv, e, q⟩
theorem scBeh : FnScope ["product", "place"] ["product", "place"] (defScope sBehind) := ⟨rfl, rfl, rfl, by decide +kernel, rfl, by decide +kernel, by decide +kernel⟩
theorem ok_beh (D : Df K mg "behind" sBehind ["product", "place"]) : FnOk P w K mg base CX0 1 D.f D.fd ["product", "place"] (spBehind K) := by
  refine D.F.ok scBeh (fun vs H Q E h => ?_) (fun cdv A outer s H vs Q E hr h => ?_)
  · obtain ⟨x, q, i, g, rfl, _⟩ := h
    rfl
  · obtain ⟨x, q, i, g, rfl, ⟨b, ys, rfl, hb, iQ⟩, hg, k⟩ := h
    refine ⟨_, pss_cons (ps_if (pt_cmpR op_eq (pe_ix ix_tup (pe_ix ix_tup (pv 0) (pv 1) (fun _ _ => rfl)) pe_int (fun _ _ => rfl)) pe_str (nomark _)) (pss_one (ps_ret (pv 1))) pss_nil)
      (pss_one (ps_ret (pe_op op_add (pv 1) pe_int))), ?_⟩
    obtain ⟨v, g', hv, hg', c, rfl, hc⟩ := iQ.at i (List.getElem?_eq_some_iff.mp hg).1
    rw [hg] at hg'
    cases hg'
    refine ⟨.ref b, rfl, .int (i : Int), rfl, b, ys, (i : Int), .ref c, rfl, rfl, hb, atI_nat hv, c, _, 0, .str (kd g.1), rfl, rfl, hc, atI_nat (j := 0) rfl, rfl, _, rfl, ?_⟩
    rw [kd_star]
    refine ite2 (fun e2 => ?_) (fun e2 => ?_)
    · have kg : g.1 = true := by simpa using e2
      rw [if_pos kg] at k
      exact ⟨_, rfl, k _ (Same.refl _)⟩
    · have kg : g.1 = false := by simpa using e2
      rw [if_neg (by rw [kg]; simp)] at k
      exact ⟨_, rfl, _, _, rfl, rfl, k _ (Same.refl _)⟩
theorem scPlc : FnScope ["product", "other", "start", "place", "factor"] ["product", "other", "start"] (defScope sPlaceBehind) := ⟨rfl, rfl, rfl, by decide +kernel, rfl, by decide +kernel, by decide +kernel⟩
theorem ok_plc (D : Df K mg "place_behind" sPlaceBehind ["product", "other", "start"]) (Db : Df K mg "behind" sBehind ["product", "place"]) (Dc : Df K mg "covers" sCovers ["factor", "other"]) (Ds0 : Df K mg "swallows" sSwallows ["factor", "other"]) (ma : mg "all" = none) (ml : mg "len" = none) :
    FnOk P w K mg base CX0 3 D.f D.fd ["product", "other", "start"] (spPlc K) := by
  have Gc : FnOk P w K mg base CX0 2 Dc.f Dc.fd ["factor", "other"] (spCov K) := ok_cov Dc Ds0 ma
  have Gb : FnOk P w K mg base CX0 1 Db.f Db.fd ["product", "place"] (spBehind K) := ok_beh Db
  refine D.F.ok scPlc (fun vs H Q E h => ?_) (fun cdv A outer s H vs Q E hr h => ?_)
  · obtain ⟨x, y, p, q, s, rfl, _⟩ := h
    rfl
  · obtain ⟨x, y, p, q, st, rfl, ⟨a, xs, rfl, ha, iP⟩, ⟨b, ys, rfl, hb, iQ⟩, hst, pl3, ql3, k⟩ := h
    have hq : IsP K H (.ref b) q := ⟨b, ys, rfl, hb, iQ⟩
    refine ⟨_, PSs.nox (pss_cons (ps_set (i := 3) scPlc.nd rfl (.inl rfl) (pv 2))
      (pss_cons (ps_for PassesOwn.never rfl (pi_tup (pv 0)) (pg_name (i := 4) scPlc.nd rfl (.inl rfl))
        (C8.pss_cut (ps_while PassesOwn.never (pw_and (pt_cmpR op_lt (pv 3) (pe_callB call_len_seq (by rfl) ml PySem.boot_len (pa_cons (pv 1) pa_nil)) (nomark _))
            (pw_and1 (pt_not (pt_val (pe_call Gc hr (by rfl) Dc.g Dc.F.kp Dc.b .nil pass0 (pa_cons (pe_ix ix_tup (pv 1) (pv 3) (fun _ _ => rfl)) (pa_cons (pv 4) pa_nil))))))).pt
          (pss_one (ps_aug (i := 3) scPlc.nd rfl (.inl rfl) pe_int ip_add)))
        (pss_cons (ps_if (pt_cmpR op_eq (pv 3) (pe_callB call_len_seq (by rfl) ml PySem.boot_len (pa_cons (pv 1) pa_nil)) (nomark _)) (pss_one (ps_ret pe_non)) pss_nil)
        (pss_one (ps_set (i := 3) scPlc.nd rfl (.inl rfl) (pe_call Gb (hr.mono (by decide)) (by rfl) Db.g Db.F.kp Db.b .nil pass0 (pa_cons (pv 1) (pa_cons (pv 3) pa_nil))))))))
      (pss_one (ps_ret (pv 3))))), ?_⟩
    have yl : ys.length = q.length := iQ.len
    refine ⟨_, rfl, .ref a, rfl, a, rfl, ⟨xs, ha⟩, for_it (walk_tup (xs := xs)) (fun i σ H' => ∃ (pl : Nat) (y3 : Option V), σ = [some (.ref a), some (.ref b), some (.int (st : Int)), some (.int pl), y3] ∧ Same H H' ∧ pl ≤ q.length ∧ rst (q.drop pl) (p.drop i) = rst (q.drop st) p)
      ⟨st, _, rfl, Same.refl _, hst, rfl⟩ (fun _ _ H' _ ⟨_, _, _, sm, _⟩ => same_tup sm _ _ ha) ?_ ?_⟩
    · rintro i x σ G G' hi ⟨pl, y3, rfl, sm, hpl, ei⟩ ⟨rfl, hx⟩
      obtain ⟨f, hf, isf⟩ := iP.get i x hx
      have fm : f ∈ p := List.mem_of_getElem? hf
      rw [drop_at hf] at ei
      refine ⟨fun σ' H' => ∃ pl : Nat, σ' = [some (.ref a), some (.ref b), some (.int (st : Int)), some (.int pl), some x] ∧ Same H H' ∧ pl ≤ q.length ∧ rst (q.drop pl) (f :: p.drop (i + 1)) = rst (q.drop st) p ∧ ∀ g, q[pl]? = some g → cov g f = true, ?_, ?_⟩
      · refine ⟨fun m σ' H' => ∃ pl : Nat, σ' = [some (.ref a), some (.ref b), some (.int (st : Int)), some (.int pl), some x] ∧ Same H H' ∧ pl ≤ q.length ∧ rst (q.drop pl) (f :: p.drop (i + 1)) = rst (q.drop st) p ∧ m = q.length - pl, ⟨_, pl, rfl, sm, hpl, ei, rfl⟩, ?_⟩
        rintro m σ' H' ⟨pl, rfl, sm, hpl, ei, rfl⟩
        refine ⟨.int pl, rfl, .ref b, rfl, b, ys, rfl, .inr (same_tup sm _ _ hb), _, _, rfl, rfl, _, rfl, ite2 (fun e => ?_) (fun e => ?_)⟩
        · have lt : pl < q.length := by
            have := of_decide_eq_true e
            omega
          obtain ⟨v, g, hv, hg, isg⟩ := iQ.at pl lt
          refine ⟨.ref b, rfl, .int pl, rfl, b, ys, (pl : Int), v, rfl, rfl, same_tup sm _ _ hb, atI_nat hv, x, rfl, v, x, g, f, rfl, isg.mono (same_tup sm), isf.mono (same_tup sm), ql3 g (List.mem_of_getElem? hg), pl3 f fm, fun H2 s2 => ?_⟩
          refine ⟨_, rfl, ?_⟩
          have eg := drop_at hg
          refine ite2 (fun e2 => ?_) (fun e2 => ?_)
          · have c : cov g f = false := by simpa using e2
            refine ⟨fun σ' H' => ∃ y, σ' = [some (.ref a), some (.ref b), some (.int (st : Int)), y, some x] ∧ y = some (.int ((pl + 1 : Nat) : Int)) ∧ Same H H', fun σ' H' h => ?_, ?_⟩
            · obtain ⟨y, rfl, rfl, s3⟩ := h
              refine ⟨q.length - (pl + 1), by omega, pl + 1, rfl, s3, by omega, ?_, rfl⟩
              rw [eg, rst_cons, if_neg (by rw [c]; simp)] at ei
              exact ei
            · exact ⟨_, rfl, _, _, rfl, rfl, _, rfl, rfl, sm.trans s2⟩
          · have c : cov g f = true := by simpa using e2
            exact ⟨pl, rfl, sm.trans s2, hpl, ei, fun g' hg' => by rw [hg] at hg'; cases hg'; exact c⟩
        · have ge : q.length ≤ pl := by
            have : ¬ (pl : Int) < (ys.length : Int) := fun z => e (decide_eq_true z)
            omega
          exact ⟨pl, rfl, sm, hpl, ei, fun g hg => by
            have := (List.getElem?_eq_some_iff.mp hg).1
            omega⟩
      · rintro σ' H' ⟨pl, rfl, sm, hpl, ei, cv⟩
        refine ⟨.int pl, rfl, .ref b, rfl, b, ys, rfl, .inr (same_tup sm _ _ hb), rfl, _, rfl, ite2 (fun e => ?_) (fun e => ?_)⟩
        · have e' : pl = q.length := by
            have := V.int.inj (of_decide_eq_true e)
            omega
          rw [e', List.drop_length, rst_none] at ei
          show Q .non _
          have k' := k _ sm
          rw [← ei] at k'
          exact k'
        · have lt : pl < q.length := by
            have : ¬ V.int (pl : Int) = V.int (ys.length : Int) := fun z => e (decide_eq_true z)
            have : ¬ pl = ys.length := fun z => this (by rw [z])
            omega
          obtain ⟨v, g, hv, hg, _⟩ := iQ.at pl lt
          have eg := drop_at hg
          rw [eg, rst_cons, if_pos (cv g hg)] at ei
          refine ⟨.ref b, rfl, .int pl, rfl, .ref b, q, pl, g, rfl, hq.mono (same_tup sm), hg, fun H2 s2 => ?_⟩
          refine ⟨if g.1 = true then pl else pl + 1, _, rfl, sm.trans s2, by split <;> omega, ?_⟩
          by_cases kg : g.1 = true
          · rw [if_pos kg, ← eg] at ei
            rw [if_pos kg]
            exact ei
          · rw [if_neg kg] at ei
            rw [if_neg kg]
            exact ei
    · rintro σ H' ⟨pl, y3, rfl, sm, hpl, ei⟩
      rw [iP.len, List.drop_length, rst_nil] at ei
      have k' := k _ sm
      rw [← ei] at k'
      refine ⟨_, rfl, ?_⟩
      have e3 : plV q.length (some (q.drop pl)) = .int (pl : Int) := by
        show V.int _ = _
        rw [List.length_drop, show q.length - (q.length - pl) = pl by omega]
      rw [e3] at k'
      exact k'
theorem scIncl : FnScope ["product", "other"] ["product", "other"] (defScope sIsIncluded) := ⟨rfl, rfl, rfl, by decide +kernel, rfl, by decide +kernel, by decide +kernel⟩
structure DfIncl (K : PySem.W.Frag) (mg : Str → Option Value) where
  i : Df K mg "is_included" sIsIncluded ["product", "other"]
  p : Df K mg "place_behind" sPlaceBehind ["product", "other", "start"]
  b : Df K mg "behind" sBehind ["product", "place"]
  c : Df K mg "covers" sCovers ["factor", "other"]
  s : Df K mg "swallows" sSwallows ["factor", "other"]
theorem ok_incl (D : DfIncl K mg) (ma : mg "all" = none) (ml : mg "len" = none) :
    FnOk P w K mg base CX0 4 D.i.f D.i.fd ["product", "other"] (spIncl K) := by
  have Gp : FnOk P w K mg base CX0 3 D.p.f D.p.fd ["product", "other", "start"] (spPlc K) := ok_plc D.p D.b D.c D.s ma ml
  refine D.i.F.ok scIncl (fun vs H Q E h => ?_) (fun cdv A outer s H vs Q E hr h => ?_)
  · obtain ⟨x, y, p, q, rfl, _⟩ := h
    rfl
  · obtain ⟨x, y, p, q, rfl, hp, hq, pl3, ql3, k⟩ := h
    refine ⟨_, pss_one (ps_ret (pe_cmpR op_notN (pe_call Gp hr (by rfl) D.p.g D.p.F.kp D.p.b .nil pass0 (pa_cons (pv 0) (pa_cons (pv 1) (pa_cons pe_int pa_nil)))) pe_non (nomark _))), ?_⟩
    refine ⟨_, rfl, _, rfl, x, y, p, q, 0, rfl, hp, hq, Nat.zero_le _, pl3, ql3, fun H' sm => ⟨rfl, ?_⟩⟩
    rw [List.drop_zero]
    have e : (!decide (plV q.length (rst q p) = V.non)) = inc q p := by
      rw [← rst_inc]
      cases rst q p with
      | none => rfl
      | some r => rfl
    rw [e]
    exact k _ sm
end
end DW
namespace DW
open PySem PySem.Spec PyProof.Rows L2 TL
set_option autoImplicit false
/-! ### all ways to divide, by places -/
theorem Lg.of_nil {u : List Nat} (h : Lg [] u) : u = [] := by
  cases h
  rfl
end DW
namespace DW
open PySem PySem.Spec PyProof.Rows L2 TL
set_option autoImplicit false
theorem fok_w1 {z : Str} {fs : List Fc} (h : ∀ f ∈ fs, FOk z f) : W1 fs := fun f hf => ⟨(h f hf).1, (h f hf).2.2⟩
theorem fok_len {z : Str} (al : Alph z) {f : Fc} (h : FOk z f) : (ls f).length ≤ 3 := Nat.le_trans h.2.1.length_le al.2.2.1
theorem fok_low {z : Str} (al : Alph z) {f : Fc} (h : FOk z f) : Low f := ⟨fun c hc => by
  have := al.2.2.2 c (h.2.1.subset hc)
  omega, Nat.le_trans (fok_len al h) (by decide)⟩
theorem alph_ne {z : Str} (al : Alph z) : tl z ≠ [] := fun q => by
  have := al.2.1
  rw [q] at this
  cases this
theorem inc_iff {p q : List Fc} (wp : W1 p) (wq : W1 q) : inc q p = true ↔ Lg q (unf p (q.length + 1)) :=
  ⟨fun h => inc_sound q p h _ (Lg.unf _ p fun f hf => (wp f hf).2), fun h => inc_complete (q.length + 1) p q wp wq (Nat.lt_succ_self _) h⟩
/-! ### words as products of optional letters -/
def ones (w : List Nat) : List Fc := w.map fun c => (false, one c)
theorem unf_ones (w : List Nat) (m : Nat) : unf (ones w) m = w := by
  unfold unf ones
  induction w with
  | nil => rfl
  | cons c w ih =>
    rw [List.map_cons, List.map_cons, List.flatten_cons, ih]
    rfl
theorem w1_ones (w : List Nat) : W1 (ones w) := fun f hf => by
  obtain ⟨c, _, rfl⟩ := List.mem_map.mp hf
  exact ⟨by simp [ls, one], fun _ => rfl⟩
theorem acc_iff {q : List Fc} (wq : W1 q) (w : List Nat) : inc q (ones w) = true ↔ Lg q w := by
  rw [inc_iff (w1_ones w) wq, unf_ones]
theorem low_ones {w : List Nat} (h : ∀ c ∈ w, c < 128) : ∀ f ∈ ones w, Low f := fun f hf => by
  obtain ⟨c, hc, rfl⟩ := List.mem_map.mp hf
  exact ⟨fun d hd => by rw [List.mem_singleton.mp hd]; exact h c hc, by show 1 ≤ 1000; decide⟩
theorem Lg.sub {fs : List Fc} {u w : List Nat} (h : Lg fs u) (s : w.Sublist u) : Lg fs w := by
  induction h generalizing w with
  | nil =>
    rw [List.sublist_nil.mp s]
    exact .nil
  | skip h ih => exact .skip (ih s)
  | opt k m h ih =>
    cases s with
    | cons _ s => exact .skip (ih s)
    | cons_cons _ s => exact .opt k m (ih s)
  | star k m h ih =>
    cases s with
    | cons _ s => exact ih s
    | cons_cons _ s => exact .star k m (ih s)
theorem sub_rep {L : List Nat} : ∀ (u : List Nat) (m : Nat), (∀ c ∈ u, c ∈ L) → u.length ≤ m → u.Sublist (List.replicate m L).flatten
  | [], _, _, _ => List.nil_sublist _
  | c :: u, 0, _, h => by simp at h
  | c :: u, m + 1, h, hl => by
    rw [List.replicate_succ, List.flatten_cons]
    have h1 : [c].Sublist L := List.singleton_sublist.mpr (h c List.mem_cons_self)
    have h2 := sub_rep u m (fun d hd => h d (List.mem_cons_of_mem _ hd)) (by rw [List.length_cons] at hl; omega)
    exact h1.append h2
theorem Lg.to_unf (m : Nat) : ∀ (fs : List Fc) (w : List Nat), (∀ f ∈ fs, f.1 = false → (ls f).length = 1) → Lg fs w → w.length ≤ m → w.Sublist (DW.unf fs m)
  | [], w, _, h, _ => by
    rw [Lg.of_nil h]
    exact List.nil_sublist _
  | f :: fs, w, h1, h, hl => by
    obtain ⟨u, v, rfl, hu, hv⟩ := Lg.split (fs := [f]) h
    rw [List.length_append] at hl
    have ih := Lg.to_unf m fs v (fun g hg => h1 g (List.mem_cons_of_mem _ hg)) hv (by omega)
    have e : DW.unf (f :: fs) m = piece m f ++ DW.unf fs m := rfl
    rw [e]
    refine List.Sublist.append ?_ ih
    unfold piece
    by_cases k : f.1 = true
    · rw [if_pos k]
      exact sub_rep u m ((Lg.one_star k).mp hu) (by omega)
    · rw [if_neg k]
      have k' : f.1 = false := by simpa using k
      rcases Lg.one_opt k' hu with e | ⟨c, hc, e⟩
      · rw [e]
        exact List.nil_sublist _
      · rw [e]
        exact List.singleton_sublist.mpr hc
theorem sub_unf_iff {fs : List Fc} (wf : W1 fs) {w : List Nat} {m : Nat} (hm : w.length ≤ m) : w.Sublist (unf fs m) ↔ Lg fs w :=
  ⟨fun s => (Lg.unf m fs fun f hf => (wf f hf).2).sub s, fun h => Lg.to_unf m fs w (fun f hf => (wf f hf).2) h hm⟩
/-! ### letters taken one after the other -/
def rem : List Nat → List Nat → List Nat
  | w, [] => w
  | [], _ :: _ => []
  | c :: w, d :: o => if c = d then rem w o else rem (c :: w) o
theorem rem_nil : ∀ o : List Nat, rem [] o = []
  | [] => rfl
  | _ :: _ => rfl
theorem rem_iff : ∀ (o w : List Nat), rem w o = [] ↔ w.Sublist o
  | [], w => by
    show w = [] ↔ _
    rw [List.sublist_nil]
  | d :: o, [] => by simp [rem]
  | d :: o, c :: w => by
    show (if c = d then rem w o else rem (c :: w) o) = [] ↔ _
    by_cases e : c = d
    · subst e
      rw [if_pos rfl, rem_iff o w, List.cons_sublist_cons]
    · rw [if_neg e, rem_iff o (c :: w)]
      constructor
      · exact fun h => .cons _ h
      · intro h
        cases h with
        | cons _ h => exact h
        | cons_cons _ h => exact absurd rfl e
theorem cut_tail {z : Str} {c : Nat} {r : List Nat} (h : tl z = c :: r) : tl (cutS z (some 1) none) = r := by
  have zl : z.length = r.length + 1 := by
    have e : z.length = (tl z).length := (Array.length_toList).symm
    rw [e, h]
    rfl
  show ((z.cps.toList.drop (HT.sIx z.length 0 (some 1))).take (HT.sIx z.length z.length none - HT.sIx z.length 0 (some 1))) = r
  rw [show HT.sIx z.length 0 (some 1) = min 1 z.length from HT.sIx_nat z.length 0 1, HT.sIx_none]
  have h' : z.cps.toList = c :: r := h
  rw [h', show min 1 z.length = 1 by omega, show z.length - 1 = r.length by omega]
  show List.take r.length r = r
  exact List.take_length
def spSubw (K : PySem.W.Frag) : Sp := fun vs H Q _ => ∃ z : Str, vs = [.str z] ∧ (tl z).length ≤ 100000 ∧ ∀ H' v, Same H H' → IsP K H' v (ones (tl z)) → Q v H'
def spAcc (K : PySem.W.Frag) : Sp := fun vs H Q _ => ∃ (v : V) (fs : List Fc) (z : Str), vs = [v, .str z] ∧ IsP K H v fs ∧ W1 fs ∧ (∀ f ∈ fs, Low f) ∧ (tl z).length ≤ 100000 ∧ (∀ c ∈ tl z, c < 128) ∧ ∀ H' b, Same H H' → (b = true ↔ Lg fs (tl z)) → Q (.bl b) H'
section
variable {P : Program} {w : World} {K : PySem.W.Frag} {mg : Str → Option Value} {base : Heap}
theorem scSubw : FnScope ["word", "letter"] ["word"] (defScope sSubwordsProduct) := ⟨rfl, rfl, rfl, by decide +kernel, rfl, by decide +kernel, by decide +kernel⟩
theorem ok_subw (D : Df K mg "subwords_product" sSubwordsProduct ["word"]) (mt : mg "tuple" = none) : FnOk P w K mg base CX0 1 D.f D.fd ["word"] (spSubw K) := by
  refine D.F.ok scSubw (fun vs H Q E h => ?_) (fun cdv A outer s H vs Q E hr h => ?_)
  · obtain ⟨z, rfl, _⟩ := h
    rfl
  · obtain ⟨z, rfl, zl, k⟩ := h
    have zs : z.cps.size = (tl z).length := (Array.length_toList).symm
    refine ⟨_, (pss_one (ps_ret (pe_callTy call_tuple_of (by rfl) mt (by decide +kernel) (pa_cons (pe_lc (own := [("letter", 1)]) (g := gName 1) rfl scSubw.nd (pi_str (pv 0)) (blkOk_by (N := ["word", "letter"]) (sc := defScope sSubwordsProduct) (by decide +kernel)) (fun _ _ _ _ _ => pg_name (i := 1) scSubw.nd rfl (Or.inl rfl)) (fun _ _ _ _ _ => pts_nil) (fun _ _ _ _ _ => (pe_tup (pa_cons pe_str (pa_cons (pv 1) pa_nil))))) pa_nil)))), ?_⟩
    refine ⟨.str z, rfl, z, rfl, fun D hD => ?_⟩
    refine lc_it walk_str (fun i H' => ∃ us : List V, H' D = some (.lst us) ∧ IsFs K H' us (ones ((tl z).take i)) ∧ Same H H') ?_ (fun _ _ _ _ => trivial) ?_ ?_
    · exact ⟨[], upd_same, .nil, same_upd hD⟩
    · rintro i x G G' hi ⟨us, gD, iF, sm⟩ ⟨rfl, d, hd, rfl⟩
      have hd' : (tl z)[i]? = some d := by rw [Array.getElem?_toList]; exact hd
      refine ⟨rfl, yes ?_⟩
      refine ⟨_, rfl, by show 2 ≤ sizeLine; decide, fun p hp => ?_⟩
      have sp := same_upd (o := .tup [.str "opt", .str ⟨#[d]⟩]) hp
      have gD1 := sp _ _ gD
      refine ⟨us, gD1, ?_, us ++ [.ref p], upd_same, ?_, fun b o e => (upd_ne (ne_of_none e hD)).trans (sp _ _ (sm _ _ e))⟩
      · rw [iF.len]
        unfold ones
        rw [List.length_map, List.length_take, sizeLine_eq]
        omega
      · have e : ones ((tl z).take (i + 1)) = ones ((tl z).take i) ++ [(false, one d)] := by
          unfold ones
          rw [List.take_add_one, hd', List.map_append]
          rfl
        rw [e]
        exact ((iF.mono (same_tup sp)).snoc ⟨p, rfl, SqT.of upd_same⟩).mono (upd_tup gD1)
    · rintro G ⟨us, gD, iF, sm⟩
      rw [zs, List.take_length] at iF
      refine ⟨D, us, rfl, .inl ⟨SqL.of gD, fun p hp => ?_⟩⟩
      have sp := same_upd (o := .tup us) hp
      exact k _ _ (sm.trans sp) ⟨p, us, rfl, SqT.of upd_same, iF.mono (same_tup sp)⟩
end
end DW
namespace DW
open PySem PySem.Spec PyProof.Rows L2 TL
set_option autoImplicit false
theorem rep_mono (L : List Nat) {a b : Nat} (h : a ≤ b) : ((List.replicate a L).flatten).Sublist (List.replicate b L).flatten := by
  obtain ⟨k, rfl⟩ : ∃ k, b = a + k := ⟨b - a, by omega⟩
  rw [← List.replicate_append_replicate, List.flatten_append]
  exact List.sublist_append_left _ _
theorem unf_mono {a b : Nat} (h : a ≤ b) : ∀ fs : List Fc, (unf fs a).Sublist (unf fs b)
  | [] => List.Sublist.refl _
  | f :: fs => by
    show (piece a f ++ unf fs a).Sublist (piece b f ++ unf fs b)
    refine List.Sublist.append ?_ (unf_mono h fs)
    unfold piece
    by_cases e : f.1 = true
    · rw [if_pos e, if_pos e]
      exact rep_mono _ h
    · rw [if_neg e, if_neg e]
      exact List.Sublist.refl _
theorem over_unf {z : Str} {fs : List Fc} (ok : ∀ f ∈ fs, FOk z f) {m : Nat} {c : Nat} (hc : c ∈ unf fs m) : c ∈ tl z := by
  unfold unf at hc
  obtain ⟨l, hl, hc⟩ := List.mem_flatten.mp hc
  obtain ⟨f, hf, rfl⟩ := List.mem_map.mp hl
  refine (ok f hf).2.1.subset ?_
  unfold piece at hc
  by_cases e : f.1 = true
  · rw [if_pos e] at hc
    obtain ⟨l, hl, hc⟩ := List.mem_flatten.mp hc
    rw [List.eq_of_mem_replicate hl] at hc
    exact hc
  · rw [if_neg e] at hc
    exact hc
/-! ### lists of products -/
def pD (fs : List Fc) : PyData := .tuple (fs.map fD)
theorem IsFs.dp {K : PySem.W.Frag} {H : Hp} : ∀ {vs : List V} {fs : List Fc}, IsFs K H vs fs → DpAll K H vs (fs.map fD)
  | _, _, .nil => .nil
  | _, _, .cons h r => .cons h.dp r.dp
theorem IsP.dp {K : PySem.W.Frag} {H : Hp} {v : V} {fs : List Fc} (h : IsP K H v fs) : Dp K H v (pD fs) := by
  obtain ⟨a, xs, rfl, q, r⟩ := h
  exact .tup q r.dp
structure GoodP (K : PySem.W.Frag) (H : Hp) (z : Str) (v : V) (q : List Fc) : Prop where
  isp : IsP K H v q
  ok : ∀ f ∈ q, FOk z f
  len : q.length ≤ 6
inductive IsPs (K : PySem.W.Frag) (H : Hp) (z : Str) : List V → List (List Fc) → Prop where
  | nil : IsPs K H z [] []
  | cons {v : V} {f : List Fc} {vs : List V} {fs : List (List Fc)} (h : GoodP K H z v f) (r : IsPs K H z vs fs) : IsPs K H z (v :: vs) (f :: fs)
section
variable {K : PySem.W.Frag} {H H' : Hp} {z : Str}
theorem IsPs.snoc {v : V} {f : List Fc} : ∀ {vs : List V} {fs : List (List Fc)}, IsPs K H z vs fs → GoodP K H z v f → IsPs K H z (vs ++ [v]) (fs ++ [f])
  | _, _, .nil, h => .cons h .nil
  | _, _, .cons a r, h => .cons a (r.snoc h)
theorem IsPs.len : ∀ {vs : List V} {fs : List (List Fc)}, IsPs K H z vs fs → vs.length = fs.length
  | _, _, .nil => rfl
  | _, _, .cons _ r => by rw [List.length_cons, List.length_cons, r.len]
theorem IsPs.get : ∀ {vs : List V} {fs : List (List Fc)}, IsPs K H z vs fs → ∀ (i : Nat) (v : V), vs[i]? = some v → ∃ f, fs[i]? = some f ∧ GoodP K H z v f
  | _, _, .nil, i, v, h => by simp at h
  | _, _, .cons a r, 0, v, h => by
    have e := Option.some.inj h
    subst e
    exact ⟨_, rfl, a⟩
  | _, _, .cons a r, i + 1, v, h => r.get i v h
theorem GoodP.mono {v : V} {q : List Fc} (m : ∀ b xs, SqT K H b xs → SqT K H' b xs) (g : GoodP K H z v q) : GoodP K H' z v q := ⟨g.isp.mono m, g.ok, g.len⟩
theorem IsPs.mono (m : ∀ b xs, SqT K H b xs → SqT K H' b xs) : ∀ {vs : List V} {fs : List (List Fc)}, IsPs K H z vs fs → IsPs K H' z vs fs
  | _, _, .nil => .nil
  | _, _, .cons a r => .cons (a.mono m) (r.mono m)
theorem IsPs.dp : ∀ {vs : List V} {fs : List (List Fc)}, IsPs K H z vs fs → DpAll K H vs (fs.map pD)
  | _, _, .nil => .nil
  | _, _, .cons h r => .cons h.isp.dp r.dp
end
theorem lay_fs {z : Str} (al : Alph z) : ∀ fs : List Fc, (∀ f ∈ fs, FOk z f) → PyData.canLayAll0 (fs.map fD) = true ∧ PyData.depthAll (fs.map fD) ≤ 1
  | [], _ => ⟨rfl, by simp [PyData.depthAll]⟩
  | f :: fs, h => by
    obtain ⟨h1, h2⟩ := lay_fs al fs fun g hg => h g (List.mem_cons_of_mem _ hg)
    have hf := fD_shaped (fok_low al (h f List.mem_cons_self))
    unfold SeqAt.shaped at hf
    rw [Bool.and_eq_true] at hf
    have d1 : (fD f).depth ≤ 1 := by simp [fD, PyData.depth, PyData.depthAll]
    rw [List.map_cons]
    refine ⟨by simp only [PyData.canLayAll0, hf.1, h1, Bool.and_self], ?_⟩
    simp only [PyData.depthAll]
    omega
theorem lay_ps {z : Str} (al : Alph z) : ∀ qs : List (List Fc), (∀ q ∈ qs, ∀ f ∈ q, FOk z f) → PyData.canLayAll0 (qs.map pD) = true ∧ PyData.depthAll (qs.map pD) ≤ 2
  | [], _ => ⟨rfl, by simp [PyData.depthAll]⟩
  | q :: qs, h => by
    obtain ⟨h1, h2⟩ := lay_ps al qs fun g hg => h g (List.mem_cons_of_mem _ hg)
    obtain ⟨h3, h4⟩ := lay_fs al q (h q List.mem_cons_self)
    rw [List.map_cons]
    refine ⟨by simp only [PyData.canLayAll0, pD, PyData.canLay0, h3, h1, Bool.and_self], ?_⟩
    simp only [PyData.depthAll, pD, PyData.depth]
    omega
theorem ps_shaped {z : Str} (al : Alph z) {qs : List (List Fc)} (h : ∀ q ∈ qs, ∀ f ∈ q, FOk z f) : SeqAt.shaped (.list (qs.map pD)) = true := by
  obtain ⟨h1, h2⟩ := lay_ps al qs h
  unfold SeqAt.shaped
  rw [Bool.and_eq_true]
  refine ⟨by simp only [PyData.canLay0, h1], decide_eq_true ?_⟩
  simp only [PyData.depth]
  omega
theorem nil_shaped : SeqAt.shaped (.list []) = true := by decide +kernel
theorem eqv_nil (ds : List PyData) : PyData.eqv (.list ds) (.list []) = ds.isEmpty := by
  cases ds <;> simp [PyData.eqv, PyData.eqvAll]
theorem IsPs.oks {K : PySem.W.Frag} {H : Hp} {z : Str} : ∀ {vs : List V} {fs : List (List Fc)}, IsPs K H z vs fs → ∀ q ∈ fs, (∀ f ∈ q, FOk z f) ∧ q.length ≤ 6
  | _, _, .nil, q, h => (nomatch h)
  | _, _, .cons a r, q, h => by
    rcases List.mem_cons.mp h with e | e
    · rw [e]
      exact ⟨a.ok, a.len⟩
    · exact r.oks q e
/-! ### slices and sums of tuples -/
theorem sl_any {K : PySem.W.Frag} {H : Hp} {a : Addr} {xs : List V} {lo hi : Option Int} {Q : VK} (ha : SqT K H a xs) (k : ∀ H' a', Same H H' → SqT K H' a' (cutV xs lo hi) → Q (.ref a') H') : rSlA K (.ref a) lo hi H Q := by
  refine ⟨a, xs, rfl, ha, fun h => k H a (Same.refl _) ?_, fun _ p hp => k _ p (same_upd hp) (SqT.of upd_same)⟩
  have e : cutV xs lo hi = xs := by
    unfold cutV
    rw [h.1, h.2, List.drop_zero, Nat.sub_zero, List.take_length]
  rw [e]
  exact ha
theorem cat_any {K : PySem.W.Frag} {H : Hp} {a b : Addr} {xs ys : List V} {Q : VK} (ha : SqT K H a xs) (hb : SqT K H b ys) (hl : xs.length + ys.length ≤ sizeLine) (k : ∀ H' a', Same H H' → SqT K H' a' (xs ++ ys) → Q (.ref a') H') : rCatA K (.ref a) (.ref b) H Q := by
  refine ⟨a, b, xs, ys, rfl, rfl, ha, hb, hl, fun h => k H b (Same.refl _) ?_, fun _ h => k H a (Same.refl _) ?_, fun _ _ p hp => k _ p (same_upd hp) (SqT.of upd_same)⟩
  · rw [h]
    exact hb
  · rw [h, List.append_nil]
    exact ha
theorem cut_take (xs : List V) {k : Int} (h0 : 0 ≤ k) (h : k ≤ xs.length) : cutV xs none (some k) = xs.take k.toNat := by
  obtain ⟨n, rfl⟩ := Int.eq_ofNat_of_zero_le h0
  unfold cutV
  rw [HT.sIx_none, HT.sIx_nat, List.drop_zero, Nat.sub_zero, Nat.min_eq_left (by omega)]
  rfl
theorem cut_drop (xs : List V) {k : Int} (h0 : 0 ≤ k) : cutV xs (some k) none = xs.drop k.toNat := by
  obtain ⟨n, rfl⟩ := Int.eq_ofNat_of_zero_le h0
  unfold cutV
  rw [HT.sIx_none, HT.sIx_nat]
  show List.take _ (List.drop (min n xs.length) xs) = xs.drop n
  by_cases c : n ≤ xs.length
  · rw [Nat.min_eq_left c]
    exact List.take_of_length_le (by rw [List.length_drop]; omega)
  · rw [Nat.min_eq_right (by omega), List.drop_length, List.drop_of_length_le (by omega), List.take_nil]
theorem IsFs.app {K : PySem.W.Frag} {H : Hp} : ∀ {vs us : List V} {fs gs : List Fc}, IsFs K H vs fs → IsFs K H us gs → IsFs K H (vs ++ us) (fs ++ gs)
  | _, _, _, _, .nil, h => h
  | _, _, _, _, .cons a r, h => .cons a (r.app h)
theorem IsFs.take {K : PySem.W.Frag} {H : Hp} : ∀ {vs : List V} {fs : List Fc} (n : Nat), IsFs K H vs fs → IsFs K H (vs.take n) (fs.take n)
  | _, _, 0, _ => .nil
  | _, _, _ + 1, .nil => .nil
  | _, _, n + 1, .cons a r => .cons a (r.take n)
theorem IsFs.drop {K : PySem.W.Frag} {H : Hp} : ∀ {vs : List V} {fs : List Fc} (n : Nat), IsFs K H vs fs → IsFs K H (vs.drop n) (fs.drop n)
  | _, _, 0, h => h
  | _, _, _ + 1, .nil => .nil
  | _, _, n + 1, .cons a r => r.drop n
end DW
/-! lists of texts, of numbers, and products as data -/
namespace DW
open PySem PySem.Spec PyProof.Rows L2 TL
set_option autoImplicit false
def strD (ws : List Str) : PyData := .list (ws.map PyData.str)
theorem str_dpAll {K : PySem.W.Frag} {H : Hp} : ∀ ws : List Str, DpAll K H (ws.map V.str) (ws.map PyData.str)
  | [] => .nil
  | x :: r => .cons (.str _) (str_dpAll r)
theorem str_dp {K : PySem.W.Frag} {H : Hp} {a : Addr} {ws : List Str} (h : SqL K H a (ws.map V.str)) : Dp K H (.ref a) (strD ws) := .lst h (str_dpAll ws)
theorem str_ok : ∀ (ws : List Str), (∀ u ∈ ws, (tl u).length ≤ 20 ∧ ∀ c ∈ tl u, c < 128) → PyData.canLayAll0 (ws.map PyData.str) = true ∧ PyData.depthAll (ws.map PyData.str) = 0 ∧ PyData.weightAll (ws.map PyData.str) ≤ 21 * ws.length ∧
    PyData.showableAll (ws.map PyData.str) = true ∧ PyData.hasDictAll (ws.map PyData.str) = false ∧ PyData.intsShortAll 13 (ws.map PyData.str) = true
  | [], _ => ⟨rfl, rfl, Nat.le_refl _, rfl, rfl, rfl⟩
  | u :: r, h => by
    obtain ⟨h1, h2, h3, h4, h5, h6⟩ := str_ok r fun q hq => h q (List.mem_cons_of_mem _ hq)
    obtain ⟨ul, uc⟩ := h u List.mem_cons_self
    have us : u.cps.size = (tl u).length := (Array.length_toList).symm
    have so : PyData.strOk u = true := by
      unfold PyData.strOk
      rw [Array.all_eq_true]
      intro i hi
      have := uc u.cps[i] (by show u.cps[i] ∈ u.cps.toList; rw [Array.mem_toList_iff]; exact Array.getElem_mem hi)
      exact decide_eq_true (by omega)
    rw [List.map_cons]
    refine ⟨by simp only [PyData.canLayAll0, PyData.canLay0, so, h1, Bool.and_self], by simp only [PyData.depthAll, PyData.depth, h2]; rfl, ?_, by simp only [PyData.showableAll, PyData.showable, h4, Bool.and_self], by simp only [PyData.hasDictAll, PyData.hasDict, h5, Bool.or_self], by simp only [PyData.intsShortAll, PyData.intsShort, h6, Bool.and_self]⟩
    simp only [PyData.weightAll, PyData.weight, List.length_cons]
    omega
theorem str_shaped {ws : List Str} (h : ∀ u ∈ ws, (tl u).length ≤ 20 ∧ ∀ c ∈ tl u, c < 128) : SeqAt.shaped (strD ws) = true := by
  obtain ⟨h1, h2, _⟩ := str_ok ws h
  unfold SeqAt.shaped strD
  rw [Bool.and_eq_true]
  exact ⟨by simp only [PyData.canLay0, h1], decide_eq_true (by simp only [PyData.depth, h2]; omega)⟩
theorem str_eqv {ws : List Str} (h : ∀ u ∈ ws, (tl u).length ≤ 20 ∧ ∀ c ∈ tl u, c < 128) : PyData.eqv (strD ws) (strD ws) = true := by
  obtain ⟨h1, _⟩ := str_ok ws h
  exact PySem.SeqAt.eqv_refl _ (by unfold strD; simp only [PyData.canLay0, h1])
theorem str_eqv_nil (ws : List Str) : PyData.eqv (strD ws) (.list []) = ws.isEmpty := by
  unfold strD
  cases ws <;> simp [PyData.eqv, PyData.eqvAll]
theorem nat_uniq : ∀ (l m : List Nat), l.Pairwise (· < ·) → m.Pairwise (· < ·) → (∀ k, k ∈ l ↔ k ∈ m) → l = m
  | [], [], _, _, _ => rfl
  | [], b :: m, _, _, h => by
    have := (h b).mpr List.mem_cons_self
    cases this
  | a :: l, [], _, _, h => by
    have := (h a).mp List.mem_cons_self
    cases this
  | a :: l, b :: m, p, q, h => by
    obtain ⟨pa, p'⟩ := List.pairwise_cons.mp p
    obtain ⟨qb, q'⟩ := List.pairwise_cons.mp q
    have ab : a = b := by
      rcases List.mem_cons.mp ((h a).mp List.mem_cons_self) with e | e
      · exact e
      · rcases List.mem_cons.mp ((h b).mpr List.mem_cons_self) with f | f
        · exact f.symm
        · have h1 := pa b f
          have h2 := qb a e
          omega
    subst ab
    have e := nat_uniq l m p' q' fun k => by
      constructor
      · intro hk
        rcases List.mem_cons.mp ((h k).mp (List.mem_cons_of_mem _ hk)) with e | e
        · have := pa k hk
          omega
        · exact e
      · intro hk
        rcases List.mem_cons.mp ((h k).mpr (List.mem_cons_of_mem _ hk)) with e | e
        · have := qb k hk
          omega
        · exact e
    rw [e]
theorem ones_ok {cs : List Nat} (h : ∀ c ∈ cs, c < 128) : ∀ u ∈ cs.map one, (tl u).length ≤ 20 ∧ ∀ c ∈ tl u, c < 128 := fun u hu => by
  obtain ⟨c, hc, rfl⟩ := List.mem_map.mp hu
  rw [tl_one]
  exact ⟨by show 1 ≤ 20; decide, fun d hd => by rw [List.mem_singleton.mp hd]; exact h c hc⟩
def intD (ns : List Int) : PyData := .list (ns.map PyData.int)
theorem int_dpAll {K : PySem.W.Frag} {H : Hp} : ∀ ns : List Int, DpAll K H (ns.map V.int) (ns.map PyData.int)
  | [] => .nil
  | x :: r => .cons (.int _) (int_dpAll r)
theorem int_dp {K : PySem.W.Frag} {H : Hp} {a : Addr} {ns : List Int} (h : SqL K H a (ns.map V.int)) : Dp K H (.ref a) (intD ns) := .lst h (int_dpAll ns)
theorem int_ok : ∀ ns : List Int, PyData.canLayAll0 (ns.map PyData.int) = true ∧ PyData.depthAll (ns.map PyData.int) = 0
  | [] => ⟨rfl, rfl⟩
  | x :: r => by
    obtain ⟨h1, h2⟩ := int_ok r
    rw [List.map_cons]
    exact ⟨by simp only [PyData.canLayAll0, PyData.canLay0, h1, Bool.and_self], by simp only [PyData.depthAll, PyData.depth, h2]; rfl⟩
theorem int_shaped (ns : List Int) : SeqAt.shaped (intD ns) = true := by
  obtain ⟨h1, h2⟩ := int_ok ns
  unfold SeqAt.shaped intD
  rw [Bool.and_eq_true]
  exact ⟨by simp only [PyData.canLay0, h1], decide_eq_true (by simp only [PyData.depth, h2]; omega)⟩
theorem int_eqv_nil (ns : List Int) : PyData.eqv (intD ns) (.list []) = ns.isEmpty := by
  unfold intD
  cases ns <;> simp [PyData.eqv, PyData.eqvAll]
theorem fs_eqv : ∀ fs gs : List Fc, PyData.eqvAll (fs.map fD) (gs.map fD) = decide (fs = gs)
  | [], [] => rfl
  | [], _ :: _ => by simp [PyData.eqvAll]
  | _ :: _, [] => by simp [PyData.eqvAll]
  | f :: fs, g :: gs => by
    rw [List.map_cons, List.map_cons]
    simp only [PyData.eqvAll]
    rw [fD_eqv, fs_eqv fs gs, Bool.eq_iff_iff]
    simp
theorem pD_eqv (fs gs : List Fc) : PyData.eqv (pD fs) (pD gs) = decide (fs = gs) := by
  unfold pD
  simp only [PyData.eqv]
  exact fs_eqv fs gs
theorem pD_shaped {z : Str} (al : Alph z) {fs : List Fc} (h : ∀ f ∈ fs, FOk z f) : SeqAt.shaped (pD fs) = true := by
  obtain ⟨h1, h2⟩ := lay_fs al fs h
  unfold SeqAt.shaped pD
  rw [Bool.and_eq_true]
  refine ⟨by simp only [PyData.canLay0, h1], decide_eq_true ?_⟩
  simp only [PyData.depth]
  omega
theorem atI_of {α : Type} {xs : List α} {i : Int} {j : Nat} {v : α} (e : i = (j : Int)) (h : xs[j]? = some v) : atI xs i = some v := by
  rw [e]
  exact atI_nat h
end DW
/-! reduced products: the stack, its words, and what put-in factors do to it -/
namespace DW
open PySem PySem.Spec PyProof.Rows L2 TL
set_option autoImplicit false
/-- the kept factors, the last one first, after one factor more -/
def stp (st : List Fc) (f : Fc) : List Fc := match st.dropWhile (sw f) with
  | [] => [f]
  | g :: r => if sw g f = true then g :: r else f :: g :: r
def red (fs : List Fc) : List Fc := (fs.foldl stp []).reverse
/-! ### words -/
theorem Lg.in_one {g : Fc} {u : List Nat} (h : Lg [g] u) : ∀ c ∈ u, c ∈ ls g := by
  intro c hc
  obtain ⟨a, b, rfl⟩ := List.append_of_mem hc
  obtain ⟨g', hg, q⟩ := (Lg.drop h).has
  rw [List.mem_singleton.mp hg] at q
  exact q
theorem sw_star {g f : Fc} (h : sw g f = true) : g.1 = true := (Bool.and_eq_true_iff.mp h).1
theorem sw_sub {g f : Fc} (h : sw g f = true) : ∀ c ∈ ls f, c ∈ ls g := fun c hc => of_decide_eq_true (List.all_eq_true.mp (Bool.and_eq_true_iff.mp h).2 c hc)
theorem sw_of {g f : Fc} (k : g.1 = true) (h : ∀ c ∈ ls f, c ∈ ls g) : sw g f = true := Bool.and_eq_true_iff.mpr ⟨k, List.all_eq_true.mpr fun c hc => decide_eq_true (h c hc)⟩
theorem sw_trans {g s m : Fc} (h : sw g s = true) (k : sw s m = true) : sw g m = true := sw_of (sw_star h) fun c hc => sw_sub h c (sw_sub k c hc)
theorem lg_cong {a b x y : List Fc} (h : ∀ u, Lg x u ↔ Lg y u) (w : List Nat) : Lg (a ++ (x ++ b)) w ↔ Lg (a ++ (y ++ b)) w := by
  constructor
  · intro q
    obtain ⟨u, v, rfl, h1, h2⟩ := q.split
    obtain ⟨u', v', rfl, h3, h4⟩ := h2.split
    exact h1.app (((h u').mp h3).app h4)
  · intro q
    obtain ⟨u, v, rfl, h1, h2⟩ := q.split
    obtain ⟨u', v', rfl, h3, h4⟩ := h2.split
    exact h1.app (((h u').mpr h3).app h4)
theorem lg_front {f g : Fc} (h : sw f g = true) (u : List Nat) : Lg [g, f] u ↔ Lg [f] u := by
  constructor
  · intro q
    obtain ⟨a, b, rfl, h1, h2⟩ := Lg.split (fs := [g]) (gs := [f]) q
    rw [Lg.one_star (sw_star h)] at h2 ⊢
    intro c hc
    rcases List.mem_append.mp hc with z | z
    · exact sw_sub h c (h1.in_one c z)
    · exact h2 c z
  · intro q
    exact .skip q
theorem lg_back {f g : Fc} (h : sw g f = true) (u : List Nat) : Lg [g, f] u ↔ Lg [g] u := by
  constructor
  · intro q
    obtain ⟨a, b, rfl, h1, h2⟩ := Lg.split (fs := [g]) (gs := [f]) q
    rw [Lg.one_star (sw_star h)] at h1 ⊢
    intro c hc
    rcases List.mem_append.mp hc with z | z
    · exact h1 c z
    · exact sw_sub h c (h2.in_one c z)
  · intro q
    have := q.app (Lg.empty [f])
    rw [List.append_nil] at this
    exact this
theorem lg_drop (f : Fc) (b : List Fc) (w : List Nat) : ∀ st : List Fc, Lg (st.reverse ++ ([f] ++ b)) w ↔ Lg ((st.dropWhile (sw f)).reverse ++ ([f] ++ b)) w
  | [] => Iff.rfl
  | g :: st => by
    rw [List.dropWhile_cons]
    by_cases h : sw f g = true
    · rw [if_pos h, ← lg_drop f b w st, List.reverse_cons, List.append_assoc]
      have := lg_cong (a := st.reverse) (b := b) (lg_front h) w
      exact this
    · rw [if_neg h]
theorem stp_lg (f : Fc) (b st : List Fc) (w : List Nat) : Lg (st.reverse ++ (f :: b)) w ↔ Lg ((stp st f).reverse ++ b) w := by
  have e := lg_drop f b w st
  rw [show ([f] ++ b) = f :: b from rfl] at e
  rw [e]
  unfold stp
  cases q : st.dropWhile (sw f) with
  | nil => exact Iff.rfl
  | cons g r =>
    show _ ↔ Lg ((if sw g f = true then g :: r else f :: g :: r).reverse ++ b) w
    by_cases h : sw g f = true
    · rw [if_pos h, List.reverse_cons, List.append_assoc, List.append_assoc]
      exact lg_cong (a := r.reverse) (b := b) (lg_back h) w
    · rw [if_neg h]
      simp
theorem fold_lg (w : List Nat) : ∀ (fs st : List Fc), Lg (st.reverse ++ fs) w ↔ Lg (fs.foldl stp st).reverse w
  | [], st => by rw [List.append_nil]; rfl
  | f :: fs, st => by
    rw [stp_lg f fs st w]
    exact fold_lg w fs (stp st f)
theorem red_lg (fs : List Fc) (w : List Nat) : Lg fs w ↔ Lg (red fs) w := fold_lg w fs []
/-! ### neighbours -/
def Apart : List Fc → Prop
  | [] => True
  | [_] => True
  | f :: g :: r => sw f g = false ∧ sw g f = false ∧ Apart (g :: r)
theorem Apart.tail {f : Fc} {r : List Fc} (h : Apart (f :: r)) : Apart r := by
  cases r with
  | nil => trivial
  | cons g r => exact h.2.2
theorem Apart.dw (p : Fc → Bool) : ∀ {st : List Fc}, Apart st → Apart (st.dropWhile p)
  | [], _ => trivial
  | g :: st, h => by
    rw [List.dropWhile_cons]
    by_cases q : p g = true
    · rw [if_pos q]
      exact Apart.dw p h.tail
    · rw [if_neg q]
      exact h
theorem dw_top {p : Fc → Bool} : ∀ {st r : List Fc} {g : Fc}, st.dropWhile p = g :: r → p g = false
  | [], _, _, h => by cases h
  | x :: st, r, g, h => by
    rw [List.dropWhile_cons] at h
    by_cases q : p x = true
    · rw [if_pos q] at h
      exact dw_top h
    · rw [if_neg q] at h
      rw [← (List.cons.inj h).1]
      simpa using q
theorem stp_apart {st : List Fc} {f : Fc} (h : Apart st) : Apart (stp st f) := by
  unfold stp
  have h' := h.dw (sw f)
  cases q : st.dropWhile (sw f) with
  | nil => trivial
  | cons g r =>
    rw [q] at h'
    show Apart (if sw g f = true then g :: r else f :: g :: r)
    by_cases k : sw g f = true
    · rw [if_pos k]
      exact h'
    · rw [if_neg k]
      exact ⟨dw_top q, by simpa using k, h'⟩
theorem fold_apart : ∀ (fs st : List Fc), Apart st → Apart (fs.foldl stp st)
  | [], _, h => h
  | f :: fs, st, h => fold_apart fs (stp st f) (stp_apart h)
theorem stp_push {f : Fc} {r : List Fc} (h : Apart (f :: r)) : stp r f = f :: r := by
  unfold stp
  cases r with
  | nil => rfl
  | cons g r =>
    rw [List.dropWhile_cons, if_neg (by rw [h.1]; simp)]
    show (if sw g f = true then _ else _) = _
    rw [if_neg (by rw [h.2.1]; simp)]
theorem fold_rev : ∀ l : List Fc, Apart l → l.reverse.foldl stp [] = l
  | [], _ => rfl
  | f :: r, h => by
    rw [List.reverse_cons, List.foldl_append, fold_rev r h.tail]
    exact stp_push h
theorem red_red (fs : List Fc) : red (red fs) = red fs := by
  unfold red
  rw [fold_rev _ (fold_apart fs [] trivial)]
/-! ### factors put in -/
theorem dw_dw {p q : Fc → Bool} (h : ∀ x, p x = true → q x = true) : ∀ l : List Fc, (l.dropWhile p).dropWhile q = l.dropWhile q
  | [] => rfl
  | x :: l => by
    rw [List.dropWhile_cons (p := p)]
    by_cases k : p x = true
    · rw [if_pos k, dw_dw h l, List.dropWhile_cons, if_pos (h x k)]
    · rw [if_neg k]
theorem pad_front {s m : Fc} (h : sw s m = true) (st : List Fc) : stp (stp st m) s = stp st s := by
  have e : (stp st m).dropWhile (sw s) = st.dropWhile (sw s) := by
    have d := dw_dw (p := sw m) (q := sw s) (fun x hx => sw_trans h hx) st
    rw [← d]
    unfold stp
    cases q : st.dropWhile (sw m) with
    | nil =>
      show [m].dropWhile (sw s) = _
      rw [List.dropWhile_cons, if_pos h]
    | cons g r =>
      show (if sw g m = true then g :: r else m :: g :: r).dropWhile (sw s) = _
      by_cases k : sw g m = true
      · rw [if_pos k]
      · rw [if_neg k, List.dropWhile_cons, if_pos h]
  unfold stp at e ⊢
  rw [e]
theorem pad_back {s m : Fc} {st : List Fc} (h : sw s m = true) (ha : Apart st) (anti : ∀ x ∈ stp st s, sw m x = true → sw x m = true → m = x) : stp (stp st s) m = stp st s := by
  have hA : Apart (stp st s) := stp_apart ha
  obtain ⟨g, r, e, k⟩ : ∃ g r, stp st s = g :: r ∧ sw g m = true := by
    unfold stp
    cases q : st.dropWhile (sw s) with
    | nil => exact ⟨s, [], rfl, h⟩
    | cons g r =>
      by_cases k : sw g s = true
      · exact ⟨g, r, if_pos k, sw_trans k h⟩
      · exact ⟨s, g :: r, if_neg k, h⟩
  rw [e] at hA anti ⊢
  by_cases q : sw m g = true
  · have em := anti g List.mem_cons_self q k
    subst em
    have e2 : stp (m :: r) m = stp r m := by
      unfold stp
      rw [List.dropWhile_cons, if_pos q]
    rw [e2]
    exact stp_push hA
  · unfold stp
    rw [List.dropWhile_cons, if_neg q]
    show (if sw g m = true then _ else _) = _
    rw [if_pos k]
theorem red_front {s m : Fc} (h : sw s m = true) (a b : List Fc) : red (a ++ m :: s :: b) = red (a ++ s :: b) := by
  unfold red
  rw [List.foldl_append, List.foldl_append]
  show (b.foldl stp (stp (stp (a.foldl stp []) m) s)).reverse = _
  rw [pad_front h]
  rfl
theorem red_back {s m : Fc} (h : sw s m = true) (a b : List Fc) (anti : ∀ x ∈ stp (a.foldl stp []) s, sw m x = true → sw x m = true → m = x) : red (a ++ s :: m :: b) = red (a ++ s :: b) := by
  unfold red
  rw [List.foldl_append, List.foldl_append]
  show (b.foldl stp (stp (stp (a.foldl stp []) s) m)).reverse = _
  rw [pad_back h (fold_apart a [] trivial) anti]
  rfl
/-! ### nothing new is kept -/
theorem stp_mem {f : Fc} {st : List Fc} {x : Fc} (h : x ∈ stp st f) : x = f ∨ x ∈ st := by
  unfold stp at h
  have dm : ∀ y, y ∈ st.dropWhile (sw f) → y ∈ st := fun y hy => (List.dropWhile_sublist _).subset hy
  cases q : st.dropWhile (sw f) with
  | nil =>
    rw [q] at h
    exact .inl (List.mem_singleton.mp h)
  | cons g r =>
    rw [q] at h dm
    have h' : x ∈ (if sw g f = true then g :: r else f :: g :: r) := h
    by_cases k : sw g f = true
    · rw [if_pos k] at h'
      exact .inr (dm x h')
    · rw [if_neg k] at h'
      rcases List.mem_cons.mp h' with z | z
      · exact .inl z
      · exact .inr (dm x z)
theorem fold_mem : ∀ (fs st : List Fc) (x : Fc), x ∈ fs.foldl stp st → x ∈ fs ∨ x ∈ st
  | [], _, _, h => .inr h
  | f :: fs, st, x, h => by
    rcases fold_mem fs (stp st f) x h with q | q
    · exact .inl (List.mem_cons_of_mem _ q)
    · rcases stp_mem q with z | z
      · exact .inl (z ▸ List.mem_cons_self)
      · exact .inr z
theorem red_mem {fs : List Fc} {x : Fc} (h : x ∈ red fs) : x ∈ fs := by
  rcases fold_mem fs [] x (List.mem_reverse.mp h) with q | q
  · exact q
  · cases q
end DW
/-! reduce_product -/
namespace DW
open PySem PySem.Spec PyProof.Rows L2 TL
set_option autoImplicit false
def spRd (K : PySem.W.Frag) : Sp := fun vs H Q _ => ∃ (v : V) (fs : List Fc), vs = [v] ∧ IsP K H v fs ∧ (∀ f ∈ fs, (ls f).length ≤ 1000) ∧ fs.length ≤ 100000 ∧ ∀ H' u, Same H H' → IsP K H' u (red fs) → Q u H'
theorem IsFs.unsnoc {K : PySem.W.Frag} {H : Hp} {g : Fc} : ∀ {fs : List Fc} {vs : List V}, IsFs K H vs (fs ++ [g]) → ∃ us v, vs = us ++ [v] ∧ IsFs K H us fs ∧ IsF K H v g := by
  intro fs
  induction fs with
  | nil =>
    intro vs h
    have h' : IsFs K H vs (g :: []) := h
    cases h' with
    | cons a r =>
      cases r
      exact ⟨[], _, rfl, .nil, a⟩
  | cons f fs ih =>
    intro vs h
    have h' : IsFs K H vs (f :: (fs ++ [g])) := h
    cases h' with
    | cons a r =>
      obtain ⟨us, v, e, h1, h2⟩ := ih r
      exact ⟨_ :: us, v, by rw [e]; rfl, .cons a h1, h2⟩
theorem stp_len (st : List Fc) (f : Fc) : (stp st f).length ≤ st.length + 1 := by
  have h := (List.dropWhile_suffix (l := st) (sw f)).length_le
  unfold stp
  split
  · simp
  · rename_i g r e
    rw [e] at h
    by_cases c : sw g f = true
    · rw [if_pos c]
      omega
    · rw [if_neg c, List.length_cons]
      omega
theorem dw_mem {p : Fc → Bool} {st : List Fc} {g : Fc} {r : List Fc} (e : st.dropWhile p = g :: r) : g ∈ st := (List.dropWhile_suffix (l := st) p).subset (by rw [e]; exact List.mem_cons_self)
section
variable {P : Program} {w : World} {K : PySem.W.Frag} {mg : Str → Option Value} {base : Heap}
theorem scRd : FnScope ["product", "kept", "factor"] ["product"] (defScope sReduceProduct) := ⟨rfl, rfl, rfl, by decide +kernel, rfl, by decide +kernel, by decide +kernel⟩
theorem ok_rd (D : Df K mg "reduce_product" sReduceProduct ["product"]) (Ds0 : Df K mg "swallows" sSwallows ["factor", "other"]) (ma : mg "all" = none) (mt : mg "tuple" = none) : FnOk P w K mg base CX0 2 D.f D.fd ["product"] (spRd K) := by
  have Gs : FnOk P w K mg base CX0 1 Ds0.f Ds0.fd ["factor", "other"] (spSw K) := ok_sw Ds0 ma
  refine D.F.ok scRd (fun vs H Q E h => ?_) (fun cdv A outer s H vs Q E hr h => ?_)
  · obtain ⟨v, fs, rfl, _⟩ := h
    rfl
  · obtain ⟨v, fs, rfl, ⟨a, xs, rfl, hq, iF⟩, fl, l1, k⟩ := h
    refine ⟨_, PSs.nox (pss_cons (ps_set (i := 1) scRd.nd rfl (.inl rfl) (pe_lst pa_nil)) (pss_cons (ps_for PassesOwn.never rfl (pi_tup (pv 0)) (pg_name (i := 2) scRd.nd rfl (.inl rfl)) (C8.pss_cut (ps_while PassesOwn.never (pw_and (pt_truth (pv 1) (by intro _; rfl)) (pw_and1 (pt_val (pe_call Gs hr (by rfl) Ds0.g Ds0.F.kp Ds0.b .nil pass0 (pa_cons (pv 2) (pa_cons (pe_ix ix_list (pv 1) (pe_un un_neg pe_int) (fun _ _ => rfl)) pa_nil)))))).pt (pss_one (ps_expr (pe_bm0 PySem.F.plainAttrs_list PySem.F.slot_list_pop PySem.F.type_list_pop mt_pop (pv 1))))) (pss_one (ps_if (pw_or (pt_not (pt_truth (pv 1) (by intro _; rfl))) (pw_or1 (pt_not (pt_val (pe_call Gs hr (by rfl) Ds0.g Ds0.F.kp Ds0.b .nil pass0 (pa_cons (pe_ix ix_list (pv 1) (pe_un un_neg pe_int) (fun _ _ => rfl)) (pa_cons (pv 2) pa_nil))))))).pt (pss_one (ps_expr (pe_bm PySem.F.plainAttrs_list PySem.F.slot_list_append PySem.F.type_list_append mt_append (pv 1) (pa_cons (pv 2) pa_nil)))) pss_nil)))) (pss_one (ps_ret (pe_callTy call_tuple_of (by rfl) mt (by decide +kernel) (pa_cons (pv 1) pa_nil)))))), ?_⟩
    refine ⟨by show 0 ≤ sizeLine; decide, fun L hL => ?_⟩
    have sL := same_upd (o := .lst []) hL
    have xl := iF.len
    refine ⟨.ref a, rfl, a, rfl, ⟨xs, same_tup sL _ _ hq⟩, for_it (walk_tup (xs := xs)) (fun i σ H' => ∃ (us : List V) (st : List Fc) (y2 : Option V), σ = [some (.ref a), some (.ref L), y2] ∧ H' L = some (.lst us) ∧ IsFs K H' us st.reverse ∧ st = (fs.take i).foldl stp [] ∧ st.length ≤ i ∧ (∀ g ∈ st, g ∈ fs) ∧ Same H H')
      ⟨[], [], _, rfl, upd_same, .nil, rfl, Nat.le_refl _, fun g hg => (nomatch hg), sL⟩ (fun _ _ H' _ ⟨_, _, _, _, _, _, _, _, _, sm⟩ => same_tup sm _ _ hq) ?_ ?_⟩
    · rintro i x σ G G' hi ⟨us, st, y2, rfl, gL, iU, est, stl, stm, sm⟩ ⟨rfl, hx⟩
      obtain ⟨f, hf, isf0⟩ := iF.get i x hx
      have fm : f ∈ fs := List.mem_of_getElem? hf
      have il : i < fs.length := by omega
      refine ⟨fun σ' H' => ∃ us : List V, σ' = [some (.ref a), some (.ref L), some x] ∧ H' L = some (.lst us) ∧ IsFs K H' us (st.dropWhile (sw f)).reverse ∧ Same H H', ?_, ?_⟩
      · refine ⟨fun m σ' H' => ∃ (us : List V) (st' : List Fc), σ' = [some (.ref a), some (.ref L), some x] ∧ H' L = some (.lst us) ∧ IsFs K H' us st'.reverse ∧ st'.dropWhile (sw f) = st.dropWhile (sw f) ∧ (∀ g ∈ st', g ∈ fs) ∧ m = st'.length ∧ Same H H', ⟨_, us, st, rfl, gL, iU, rfl, stm, rfl, sm⟩, ?_⟩
        rintro m σ' H' ⟨us, st', rfl, gL, iU, ed, stm', rfl, sm⟩
        cases st' with
        | nil =>
          cases iU
          refine ⟨.ref L, rfl, false, .inl ⟨_, SqL.of gL, rfl⟩, iteF (iteF ⟨[], rfl, gL, ?_, sm⟩)⟩
          rw [← ed]
          exact .nil
        | cons g r =>
          rw [List.reverse_cons] at iU
          obtain ⟨us0, v, rfl, iU0, isg⟩ := iU.unsnoc
          refine ⟨.ref L, rfl, true, .inl ⟨_, SqL.of gL, by simp⟩, iteT ?_⟩
          have gm := fl g (stm' g List.mem_cons_self)
          refine ⟨x, rfl, .ref L, rfl, 1, rfl, L, us0 ++ [v], -1, v, rfl, rfl, SqL.of gL, atI_last us0 v, x, v, f, g, rfl, isf0.mono (same_tup sm), isg, gm, fun H2 s2 => ⟨_, rfl, ite2 (fun e => ?_) (fun e => ?_)⟩⟩
          · refine ⟨fun σ' H' => ∃ us : List V, σ' = [some (.ref a), some (.ref L), some x] ∧ H' L = some (.lst us) ∧ IsFs K H' us r.reverse ∧ Same H H', fun σ' H' h => ?_, ?_⟩
            · obtain ⟨us, rfl, gL', iU', sm'⟩ := h
              refine ⟨r.length, by simp, us, r, rfl, gL', iU', ?_, fun g hg => stm' g (List.mem_cons_of_mem _ hg), rfl, sm'⟩
              rw [← ed, List.dropWhile_cons, if_pos e]
            · have gL2 := s2 _ _ gL
              refine ⟨.ref L, rfl, .inl ⟨rfl, _, SqL.of gL2⟩, L, us0 ++ [v], v, rfl, rfl, gL2, by simp, us0, rfl, ?_, (iU0.mono (same_tup s2)).mono (upd_tup gL2), fun b o e => (upd_ne (ne_of_none e hL)).trans ((sm.trans s2) _ _ e)⟩
              rw [upd_same, List.dropLast_concat]
          · have e' : sw f g = false := by simpa using e
            refine ⟨us0 ++ [v], rfl, s2 _ _ gL, ?_, sm.trans s2⟩
            rw [← ed, List.dropWhile_cons, if_neg e, List.reverse_cons]
            exact (iU0.snoc isg).mono (same_tup s2)
      · rintro σ' H' ⟨us, rfl, gL, iU, sm⟩
        have tk : (fs.take (i + 1)).foldl stp [] = stp st f := by
          rw [List.take_add_one, hf, est]
          exact List.foldl_append
        have sl := stp_len st f
        have smem : ∀ g ∈ stp st f, g ∈ fs := fun g hg => by
          rcases stp_mem hg with q | q
          · rw [q]; exact fm
          · exact stm g q
        have push : ∀ {H2 : Hp}, H2 L = some (.lst us) → IsFs K H2 us (st.dropWhile (sw f)).reverse → Same H H2 → stp st f = f :: st.dropWhile (sw f) →
            ∃ (us' : List V) (st' : List Fc) (y2 : Option V), [some (V.ref a), some (.ref L), some x] = [some (.ref a), some (.ref L), y2] ∧ (upd H2 L (.lst (us ++ [x]))) L = some (.lst us') ∧ IsFs K (upd H2 L (.lst (us ++ [x]))) us' st'.reverse ∧ st' = (fs.take (i + 1)).foldl stp [] ∧ st'.length ≤ i + 1 ∧ (∀ g ∈ st', g ∈ fs) ∧ Same H (upd H2 L (.lst (us ++ [x]))) := by
          intro H2 gL2 iU2 sm2 e
          refine ⟨us ++ [x], stp st f, _, rfl, upd_same, ?_, tk.symm, by omega, smem, fun b o e => (upd_ne (ne_of_none e hL)).trans (sm2 _ _ e)⟩
          rw [e, List.reverse_cons]
          exact (iU2.snoc (isf0.mono (same_tup sm2))).mono (upd_tup gL2)
        have usl : us.length < sizeLine := by
          rw [iU.len, List.length_reverse, sizeLine_eq]
          have := (List.dropWhile_suffix (l := st) (sw f)).length_le
          omega
        cases ew : st.dropWhile (sw f) with
        | nil =>
          rw [ew] at iU
          cases iU
          refine ⟨.ref L, rfl, false, .inl ⟨_, SqL.of gL, rfl⟩, iteT ?_⟩
          refine iteT ?_
          refine ⟨.ref L, rfl, .inl ⟨rfl, _, SqL.of gL⟩, x, rfl, L, _, _, rfl, rfl, gL, usl, ?_⟩
          refine push gL (by rw [ew]; exact .nil) sm ?_
          unfold stp
          rw [ew]
        | cons g r =>
          rw [ew, List.reverse_cons] at iU
          obtain ⟨us0, v, rfl, iU0, isg⟩ := iU.unsnoc
          refine ⟨.ref L, rfl, true, .inl ⟨_, SqL.of gL, by simp⟩, iteF ?_⟩
          refine ⟨.ref L, rfl, 1, rfl, L, us0 ++ [v], -1, v, rfl, rfl, SqL.of gL, atI_last us0 v, x, rfl, v, x, g, f, rfl, isg, isf0.mono (same_tup sm), fl f fm, fun H2 s2 => ⟨_, rfl, ?_⟩⟩
          have gL2 := s2 _ _ gL
          have iU2 : IsFs K H2 (us0 ++ [v]) (st.dropWhile (sw f)).reverse := by
            rw [ew, List.reverse_cons]
            exact (iU0.snoc isg).mono (same_tup s2)
          refine ite2 (fun e => ?_) (fun e => ?_)
          · have e' : sw g f = false := by simpa using e
            refine ⟨.ref L, rfl, .inl ⟨rfl, _, SqL.of gL2⟩, x, rfl, L, _, _, rfl, rfl, gL2, usl, ?_⟩
            refine push gL2 iU2 (sm.trans s2) ?_
            unfold stp
            rw [ew]
            show (if sw g f = true then _ else _) = _
            rw [if_neg (by rw [e']; simp)]
          · have e' : sw g f = true := by simpa using e
            have est' : stp st f = st.dropWhile (sw f) := by
              unfold stp
              rw [ew]
              show (if sw g f = true then _ else _) = _
              rw [if_pos e']
            refine ⟨us0 ++ [v], stp st f, _, rfl, gL2, ?_, tk.symm, by omega, smem, sm.trans s2⟩
            rw [est']
            exact iU2
    · rintro σ G ⟨us, st, y2, rfl, gL, iU, est, stl, stm, sm⟩
      refine ⟨.ref L, rfl, L, us, rfl, .inl ⟨SqL.of gL, fun p hp => ?_⟩⟩
      have sp := same_upd (o := .tup us) hp
      refine k _ _ (sm.trans sp) ⟨p, us, rfl, SqT.of upd_same, ?_⟩
      have e : red fs = st.reverse := by
        unfold red
        rw [est, xl, List.take_length]
      rw [e]
      exact iU.mono (same_tup sp)
end
end DW
/-! dicts whose keys are tuples at any depth (to eight): of numbers, texts, None and such tuples -/
namespace ND
open PySem PySem.Spec PyProof.Rows L2
set_option autoImplicit false
/-! ### keys -/
mutual
inductive NK (K : PySem.W.Frag) (H : Hp) : NestedKey → V → Prop
  | none : NK K H .none .non
  | num (i : Int) : NK K H (.num i) (.int i)
  | text (x : Str) : NK K H (.text x) (.str x)
  | tup {a : Addr} {vs : List V} {ks : List NestedKey} : SqT K H a vs → NKs K H ks vs → NK K H (.tup ks) (.ref a)
inductive NKs (K : PySem.W.Frag) (H : Hp) : List NestedKey → List V → Prop
  | nil : NKs K H [] []
  | cons {k : NestedKey} {v : V} {ks : List NestedKey} {vs : List V} : NK K H k v → NKs K H ks vs → NKs K H (k :: ks) (v :: vs)
end
mutual
theorem NK.mono {K : PySem.W.Frag} {H H' : Hp} (m : ∀ b xs, SqT K H b xs → SqT K H' b xs) : ∀ (k : NestedKey) (v : V), NK K H k v → NK K H' k v
  | .none, _, h => by cases h; exact .none
  | .num i, _, h => by cases h; exact .num i
  | .text x, _, h => by cases h; exact .text x
  | .tup ks, _, h => by
    cases h with
    | tup q r => exact .tup (m _ _ q) (NKs.mono m ks _ r)
theorem NKs.mono {K : PySem.W.Frag} {H H' : Hp} (m : ∀ b xs, SqT K H b xs → SqT K H' b xs) : ∀ (ks : List NestedKey) (vs : List V), NKs K H ks vs → NKs K H' ks vs
  | [], _, h => by cases h; exact .nil
  | k :: ks, _, h => by
    cases h with
    | cons a r => exact .cons (NK.mono m k _ a) (NKs.mono m ks _ r)
end
section
variable {X : Cx} {pins : List (Addr × Obj)} {σ : L2.St} {H : Hp} {s : Shared}
mutual
theorem nk_is (I : Inv X pins σ H s) : ∀ (k : NestedKey) (v : V) (u : Value), NK X.K H k v → RelV v u → NestedIs s.heap k u
  | .none, _, u, h, r => by
    cases h
    obtain rfl : u = Value.none := r
    exact .none
  | .num i, _, u, h, r => by
    cases h
    obtain ⟨t, rfl⟩ : ∃ t, u = Value.int i t := r
    exact .int i t
  | .text x, _, u, h, r => by
    cases h
    obtain ⟨t, rfl⟩ : ∃ t, u = Value.str x t := r
    exact .text x t
  | .tup ks, _, u, h, r => by
    cases h with
    | @tup a vs _ q rest =>
      obtain rfl : u = Value.ref a := r
      obtain ⟨its, rv, ⟨o, ho, hc, n, hd⟩, _⟩ := I.tuple q
      exact .tup ho hc hd (by simpa using nks_is I ks vs its rest rv)
theorem nks_is (I : Inv X pins σ H s) : ∀ (ks : List NestedKey) (vs : List V) (us : List Value), NKs X.K H ks vs → Vals vs us → NestedAll s.heap ks us
  | [], _, us, h, r => by
    cases h
    cases r
    exact .nil
  | k :: ks, _, us, h, r => by
    cases h with
    | cons a rest =>
      cases r with
      | cons ra rr => exact .cons (nk_is I k _ _ a ra) (nks_is I ks _ _ rest rr)
end
end
/-! ### the dict -/
abbrev Ent : Type := NestedKey × Addr × V
abbrev Raw : Type := NestedKey × Addr × Value
def KN : List Ent → List Raw → Prop := Paired fun (p : Ent) (q : Raw) => p.1 = q.1 ∧ p.2.1 = q.2.1 ∧ RelV p.2.2 q.2.2
def DO (P : Program) (w : World) (d : Addr) (kvs : List Ent) : HO := .ext fun h => (d == sysModules) = false ∧ kvs.length ≤ sizeLine ∧ ∃ xs : List Raw, KN kvs xs ∧
  ∃ (o : Obj) (es : Array DictEntry) (ep : Nat), h.get? d = some o ∧ o.ExactDict ∧ o.data = .dict es ep ∧ es.toList = xs.map (entryOfKey (nestedKind P w)) ∧ (xs.map (·.1)).Nodup
def KOks (K : PySem.W.Frag) (H : Hp) (kvs : List Ent) : Prop := ∀ p ∈ kvs, NK K H p.1 (.ref p.2.1) ∧ p.1.depth ≤ 8
theorem KOks.mono {K : PySem.W.Frag} {H H' : Hp} {kvs : List Ent} (h : KOks K H kvs) (m : ∀ b xs, SqT K H b xs → SqT K H' b xs) : KOks K H' kvs := fun p hp => ⟨NK.mono m _ _ (h p hp).1, (h p hp).2⟩
def valN (kvs : List Ent) (k : NestedKey) : Option V := (kvs.find? fun p => decide (p.1 = k)).map (·.2.2)
def setN (k : NestedKey) (v : V) (p : Ent) : Ent := if p.1 = k then (p.1, p.2.1, v) else p
def putN (kvs : List Ent) (k : NestedKey) (b : Addr) (v : V) : List Ent := if (valN kvs k).isSome = true then kvs.map (setN k v) else kvs ++ [(k, b, v)]
theorem KN.len : ∀ {kvs : List Ent} {xs : List Raw}, KN kvs xs → kvs.length = xs.length
  | _, _, .nil => rfl
  | _, _, .cons _ r => by rw [List.length_cons, List.length_cons, KN.len r]
theorem KN.val {k : NestedKey} : ∀ {kvs : List Ent} {xs : List Raw}, KN kvs xs → RelO (valN kvs k) ((atKey xs k).map (·.2))
  | _, _, .nil => by exact True.intro
  | _, _, @Paired.cons _ _ _ p q ps qs h r => by
    have ih := KN.val (k := k) r
    unfold valN atKey at ih ⊢
    by_cases c : p.1 = k
    · rw [List.find?_cons_of_pos (by exact decide_eq_true c), List.find?_cons_of_pos (by rw [← h.1]; exact decide_eq_true c)]
      exact h.2.2
    · rw [List.find?_cons_of_neg (by simpa using c), List.find?_cons_of_neg (by rw [← h.1]; simpa using c)]
      exact ih
theorem KN.rep {k : NestedKey} {v : V} {r : Value} (rv : RelV v r) : ∀ {kvs : List Ent} {xs : List Raw}, KN kvs xs → KN (kvs.map (setN k v)) (xs.map (putAt k r))
  | _, _, .nil => .nil
  | _, _, @Paired.cons _ _ _ p q ps qs h t => by
    refine .cons ?_ (KN.rep rv t)
    unfold setN putAt
    by_cases c : p.1 = k
    · rw [if_pos c, if_pos (by rw [← h.1]; exact c)]
      exact ⟨h.1, h.2.1, rv⟩
    · rw [if_neg c, if_neg (by rw [← h.1]; exact c)]
      exact h
theorem KN.snoc {p : Ent} {q : Raw} (h : p.1 = q.1 ∧ p.2.1 = q.2.1 ∧ RelV p.2.2 q.2.2) : ∀ {kvs : List Ent} {xs : List Raw}, KN kvs xs → KN (kvs ++ [p]) (xs ++ [q])
  | _, _, .nil => .cons h .nil
  | _, _, .cons a r => .cons a (KN.snoc h r)
theorem KN.put {k : NestedKey} {b : Addr} {v : V} {r : Value} (rv : RelV v r) {kvs : List Ent} {xs : List Raw} (h : KN kvs xs) : KN (putN kvs k b v) (storedH xs k b r) := by
  have e := (KN.val (k := k) h).isSome_eq
  rw [Option.isSome_map] at e
  unfold putN storedH
  rw [e]
  by_cases q : (atKey xs k).isSome = true
  · rw [if_pos q, if_pos q]
    exact h.rep rv
  · rw [if_neg q, if_neg q]
    exact h.snoc ⟨rfl, rfl, rv⟩
theorem putN_len (kvs : List Ent) (k : NestedKey) (b : Addr) (v : V) : (putN kvs k b v).length ≤ kvs.length + 1 := by
  unfold putN
  split
  · rw [List.length_map]
    omega
  · rw [List.length_append]
    exact Nat.le_refl _
theorem putN_ok {K : PySem.W.Frag} {H : Hp} {kvs : List Ent} {k : NestedKey} {b : Addr} {v : V} (h : KOks K H kvs) (hk : NK K H k (.ref b)) (hd : k.depth ≤ 8) : KOks K H (putN kvs k b v) := by
  unfold putN
  split
  · intro p hp
    obtain ⟨q, hq, rfl⟩ := List.mem_map.mp hp
    unfold setN
    split
    · exact h q hq
    · exact h q hq
  · intro p hp
    rcases List.mem_append.mp hp with q | q
    · exact h p q
    · rw [List.mem_singleton.mp q]
      exact ⟨hk, hd⟩
theorem do_new {P : Program} {w : World} {H : Hp} {h : Heap} {d : Addr} {kvs : List Ent} {xs : List Raw} (hs : (d == sysModules) = false) (hl : kvs.length ≤ sizeLine) (r : KN kvs xs) (dd : h.DictOfH (nestedKind P w) d xs) : ObjOk P w H h d (DO P w d kvs) := by
  obtain ⟨o, es, ep, h1, h2, h3, h4, _, h5⟩ := dd
  refine ⟨⟨hs, hl, xs, r, o, es, ep, h1, h2, h3, h4, h5⟩, ⟨o, h1⟩, ?_⟩
  rintro g1 g2 ⟨hs, hl, xs, r, o, es, ep, h1, h2⟩ kk
  exact ⟨hs, hl, xs, r, o, es, ep, kk o h1, h2⟩
section
variable {X : Cx} {pins : List (Addr × Obj)} {σ : L2.St} {H : Hp} {s : Shared} {d b : Addr} {kvs : List Ent} {k : NestedKey} {A : Around} {E : Value → Shared → Prop}
theorem do_at (I : Inv X pins σ H s) (e : Rd H d (DO X.prog X.w d kvs)) (ko : KOks X.K H kvs) : (d == sysModules) = false ∧ kvs.length ≤ sizeLine ∧ ∃ xs : List Raw, KN kvs xs ∧ s.heap.DictOfH (nestedKind X.prog X.w) d xs := by
  obtain ⟨⟨hs, hl, xs, r, o, es, ep, h1, h2, h3, h4, h5⟩, _, _⟩ := e.ok I.hok
  refine ⟨hs, hl, xs, r, o, es, ep, h1, h2, h3, h4, ?_, h5⟩
  have all : ∀ {l : List Ent} {m : List Raw}, KN l m → KOks X.K H l → ∀ x ∈ m, (nestedKind X.prog X.w).is s.heap x.1 x.2.1 := by
    intro l m q
    induction q with
    | nil => intro _ x hx; exact nomatch hx
    | @cons p q ps qs hq t ih =>
      intro ok x hx
      rcases List.mem_cons.mp hx with z | z
      · subst z
        obtain ⟨h1, h2⟩ := ok p List.mem_cons_self
        refine ⟨?_, by rw [← hq.1]; exact h2⟩
        rw [← hq.1, ← hq.2.1]
        exact nk_is I _ _ _ h1 rfl
      · exact ih (fun p hp => ok p (List.mem_cons_of_mem _ hp)) x z
  exact all r ko
theorem key_at (I : Inv X pins σ H s) (hk : NK X.K H k (.ref b)) (hd : k.depth ≤ 8) : (nestedKind X.prog X.w).is s.heap k b := ⟨nk_is I _ _ _ hk rfl, hd⟩
theorem room_at (hu : A.units + 9 < cLine) : (nestedKind X.prog X.w).room A.in1 := by
  show A.in1.units + 8 < cLine
  have : A.in1.units ≤ A.units + 1 := by first | exact Nat.le_refl _ | (unfold Around.in1; simp)
  omega
end
/-! ### rules -/
/-- {} -/
def tNewN (P : Program) (w : World) : TE := fun _ H Q => ∀ p, H p = none → Q (.ref p) (upd H p (DO P w p []))
theorem pe_dnewN {X : Cx} {pos : Pos} : PE X (.Dict [] [] pos) (tNewN X.prog X.w) := ⟨fun pins s σ H Q I h => by
  refine wpAny_Dict_empty ⟨.ref s.heap.objs.size, upd H s.heap.objs.size (DO X.prog X.w s.heap.objs.size []), ?_, rfl, h _ (I.hok.fresh (Nat.le_refl _))⟩
  refine I.laid (t' := s.toks) (fun _ _ q => Heap.get?_push_of_some _ q) (Nat.le_refl _) ?_
  exact do_new (xs := []) (beq_eq_false_iff_ne.mpr (Ne.symm (Nat.ne_of_lt I.big))) (Nat.zero_le _) .nil (Heap.DictOfH.new s.heap)⟩
/-- what is asked of a dict and a key -/
structure At (X : Cx) (H : Hp) (d b : Addr) (kvs : List Ent) (k : NestedKey) : Prop where
  dic : Rd H d (DO X.prog X.w d kvs)
  oks : KOks X.K H kvs
  key : NK X.K H k (.ref b)
  dep : k.depth ≤ 8
section
variable {X : Cx} {o i value e f : Expr} {td ty tv tx : TE} {pos pos' apos cpos : Pos}
def tGetN (X : Cx) (td ty : TE) : TE := fun σ H Q => td σ H fun x H1 => ty σ H1 fun y H2 => ∃ (d b : Addr) (kvs : List Ent) (k : NestedKey) (v : V), x = .ref d ∧ y = .ref b ∧ At X H2 d b kvs k ∧ valN kvs k = some v ∧ Q v H2
theorem pe_dgetN (hu : X.A.units + 9 < cLine) (ho : PE X o td) (hi : PE X i ty) (hs : NoSl i) : PE X (.Subscript o i pos) (tGetN X td ty) := by
  refine ⟨fun pins s σ H Q I h => ?_⟩
  refine subD_of PySem.F.slot_dict_getitem.lookup hs (thn (ho.run pins s σ H _ I h) fun u s1 ⟨x, H1, I1, rx, q1⟩ => thn (hi.run pins s1 σ H1 _ I1 q1) fun iv s2 ⟨y, H2, I2, ry, d, b, kvs, k, v, ex, ey, g, hv, q2⟩ => ?_)
  subst ex ey
  obtain rfl : u = Value.ref d := rx
  obtain rfl : iv = Value.ref b := ry
  obtain ⟨_, _, xs, r, dd⟩ := do_at I2 g.dic g.oks
  obtain ⟨w', hw, rw'⟩ := RelO.some_of (v := v) (o := (atKey xs k).map (·.2)) (by rw [← hv]; exact r.val)
  obtain ⟨p, hp, hp2⟩ := Option.map_eq_some_iff.mp hw
  refine ⟨dd.typeIs, wpAny_getItem_heap (room_at hu) (key_at I2 g.key g.dep) dd hp ?_⟩
  rw [hp2]
  exact ⟨v, H2, I2.tok _, rw', q2⟩
def rInN (X : Cx) (neg : Bool) : R2 := fun y x H Q => ∃ (d b : Addr) (kvs : List Ent) (k : NestedKey), x = .ref d ∧ y = .ref b ∧ At X H d b kvs k ∧ Q (.bl (if neg = true then !(valN kvs k).isSome else (valN kvs k).isSome)) H
theorem op_inN (hu : X.A.units + 9 < cLine) : OpR X (compareOp .In) (rInN X false) := by
  intro pins s σ H y x iv u Q I ry rx h
  obtain ⟨d, b, kvs, k, ex, ey, g, q⟩ := h
  subst ex ey
  obtain rfl : u = Value.ref d := rx
  obtain rfl : iv = Value.ref b := ry
  obtain ⟨hs, _, xs, r, dd⟩ := do_at I g.dic g.oks
  refine wpAny_in_heap (room_at hu) (key_at I g.key g.dep) hs dd ?_
  have z := (KN.val (k := k) r).isSome_eq
  rw [Option.isSome_map] at z
  exact ⟨.bl (valN kvs k).isSome, H, I.tok _, by rw [z]; rfl, q⟩
theorem op_notInN (hu : X.A.units + 9 < cLine) : OpR X (compareOp .NotIn) (rInN X true) := by
  intro pins s σ H y x iv u Q I ry rx h
  obtain ⟨d, b, kvs, k, ex, ey, g, q⟩ := h
  subst ex ey
  obtain rfl : u = Value.ref d := rx
  obtain rfl : iv = Value.ref b := ry
  obtain ⟨hs, _, xs, r, dd⟩ := do_at I g.dic g.oks
  refine wpAny_notIn_heap (room_at hu) (key_at I g.key g.dep) hs dd ?_
  have z := (KN.val (k := k) r).isSome_eq
  rw [Option.isSome_map] at z
  exact ⟨.bl (!(valN kvs k).isSome), H, I.tok _, by rw [z]; rfl, q⟩
def sPutN (X : Cx) (td ty tv : TE) : TS := fun D σ H => tv σ H fun v H1 => td σ H1 fun x H2 => ty σ H2 fun y H3 => ∃ (d b : Addr) (kvs : List Ent) (k : NestedKey), x = .ref d ∧ y = .ref b ∧ H3 d = some (DO X.prog X.w d kvs) ∧ KOks X.K H3 kvs ∧ NK X.K H3 k (.ref b) ∧ k.depth ≤ 8 ∧ kvs.length < sizeLine ∧
  D.nx σ (upd H3 d (DO X.prog X.w d (putN kvs k b v)))
theorem ps_dputN (hu : X.A.units + 9 < cLine) (ho : PE X o td) (hi : PE X i ty) (hv : PE X value tv) (hs : swapsWith value (some (.Subscript o i pos')) pos.line X.env = pure false) : PS X (.Assign [.Subscript o i pos'] value pos) (sPutN X td ty tv) := by
  refine ⟨fun pins s σ H D I h => ?_⟩
  refine wpAny_Assign_Subscript (thn (hv.run pins s σ H _ I h) fun r s1 ⟨v, H1, I1, rv, q1⟩ => thn (ho.run pins s1 σ H1 _ I1 q1) fun u s2 ⟨x, H2, I2, rx, q2⟩ => thn (hi.run pins s2 σ H2 _ I2 q2) fun iv s3 ⟨y, H3, I3, ry, d, b, kvs, k, ex, ey, hd, ok, hk, dp, hl, q3⟩ => ?_) hs
  subst ex ey
  obtain rfl : u = Value.ref d := rx
  obtain rfl : iv = Value.ref b := ry
  obtain ⟨h1, _, xs, rel, dd⟩ := do_at I3 (.inl hd) ok
  have hz : xs.length ≤ sizeLine := by
    rw [← rel.len]
    omega
  refine wpAny_setItem_heap (hsz := hz) (room_at hu) (key_at I3 hk dp) dd fun h' dd' same => ⟨σ, _, ?_, q3⟩
  have pl := putN_len kvs k b v
  have he : ∃ q, h'.get? d = some q := by
    obtain ⟨q, _, _, hq, _⟩ := dd'
    exact ⟨q, hq⟩
  exact d_write I3 (by rw [hd]; exact True.intro) same he (do_new h1 (by omega) (rel.put rv) dd')
def tSetdN (X : Cx) (td ty tx : TE) : TE := fun σ H Q => td σ H fun x H1 => ∃ d kvs0, x = .ref d ∧ H1 d = some (DO X.prog X.w d kvs0) ∧ KOks X.K H1 kvs0 ∧ ty σ H1 fun y H2 => tx σ H2 fun z H3 => ∃ (b : Addr) (kvs : List Ent) (k : NestedKey), y = .ref b ∧
  H3 d = some (DO X.prog X.w d kvs) ∧ KOks X.K H3 kvs ∧ NK X.K H3 k (.ref b) ∧ k.depth ≤ 8 ∧ kvs.length < sizeLine ∧ (∀ v, valN kvs k = some v → Q v H3) ∧ (valN kvs k = none → Q z (upd H3 d (DO X.prog X.w d (putN kvs k b z))))
theorem pe_dsetdN (hu : X.A.units + 9 < cLine) (ho : PE X o td) (he : PE X e ty) (hf : PE X f tx) (m : M2 X o "setdefault" apos e f cpos) : PE X (.Call (.Attribute o "setdefault" apos) [e, f] [] cpos) (tSetdN X td ty tx) := by
  refine ⟨fun pins s σ H Q I h => ?_⟩
  refine wpAny_Call_method m.base m.few m.line PySem.F.plainAttrs_dict PySem.F.slot_dict_setdefault PySem.F.type_dict_setdefault (thn (ho.run pins s σ H _ I h) fun u s1 ⟨x, H1, I1, rx, d, kvs0, ex, hd0, ok0, q1⟩ => ?_)
  subst ex
  obtain rfl : u = Value.ref d := rx
  obtain ⟨_, _, xs0, _, dd0⟩ := do_at I1 (.inl hd0) ok0
  refine ⟨dd0.typeIs, fun b0 q => ?_, ?_⟩
  · cases q
    obtain ⟨o0, _, _, z1, z2, _⟩ := dd0
    exact ⟨o0, z1, z2.2.1⟩
  rw [m.trees]
  refine Calls.callWith_builtin rfl (Calls.evalArgs_plain (Calls.spliced_cons (thn (he.run pins s1 σ H1 _ I1 q1) fun iv s2 ⟨y, H2, I2, ry, q2⟩ =>
    Calls.spliced_cons (thn (hf.run pins s2 σ H2 _ I2 q2) fun fv s3 ⟨z, H3, I3, rz, b, kvs, k, ey, hd, ok, hk, dp, hl, q3, q4⟩ => Calls.spliced_nil ?_))))
  subst ey
  obtain rfl : iv = Value.ref b := ry
  obtain ⟨h1, _, xs, rel, dd⟩ := do_at I3 (.inl hd) ok
  have hz : xs.length ≤ sizeLine := by
    rw [← rel.len]
    omega
  have rv := KN.val (k := k) rel
  refine call_setdefault_heap (hsz := hz) (room_at hu) (key_at I3 hk dp) h1 dd (fun p hp => ?_) fun hn h' dd' same => ?_
  · rw [hp] at rv
    cases hval : valN kvs k with
    | none => rw [hval] at rv; exact rv.elim
    | some v =>
      rw [hval] at rv
      exact ⟨v, H3, I3.tok _, rv, q3 v hval⟩
  · have hval : valN kvs k = none := by
      rw [hn] at rv
      cases hval : valN kvs k with
      | none => rfl
      | some v => rw [hval] at rv; exact rv.elim
    have pl := putN_len kvs k b z
    have he : ∃ q, h'.get? d = some q := by
      obtain ⟨q, _, _, hq, _⟩ := dd'
      exact ⟨q, hq⟩
    exact ⟨z, _, d_write I3 (by rw [hd]; exact True.intro) same he (do_new h1 (by omega) (rel.put rz) dd'), rz, q4 hval⟩
end
end ND
namespace ND
open PySem PySem.Spec PyProof.Rows L2
set_option autoImplicit false
/-! ### walking over the keys -/
/-- the keys of the locked dict, in their order: each its own tuple -/
def ItN (P : Program) (w : World) (d : Addr) (ob : Obj) (kvs : List Ent) : L2.It :=
  ⟨fun n H => H d = some (.frz ob (DO P w d kvs)) ∧ n < kvs.length, fun n H x H' => H' = H ∧ ∃ p, kvs[n]? = some p ∧ x = .ref p.2.1, fun n H => H d = some (.frz ob (DO P w d kvs)) ∧ kvs.length ≤ n⟩
theorem KN.get : ∀ {kvs : List Ent} {xs : List Raw}, KN kvs xs → ∀ (n : Nat) (p : Ent), kvs[n]? = some p → ∃ q, xs[n]? = some q ∧ p.1 = q.1 ∧ p.2.1 = q.2.1 ∧ RelV p.2.2 q.2.2
  | _, _, .nil, n, p, h => by simp at h
  | _, _, .cons a r, 0, p, h => by
    have e := Option.some.inj h
    subst e
    exact ⟨_, rfl, a⟩
  | _, _, .cons a r, n + 1, p, h => KN.get r n p h
theorem locked_at {X : Cx} {pins : List (Addr × Obj)} {σ : L2.St} {H : Hp} {s : Shared} {d : Addr} {ob : Obj} {kvs : List Ent} (I : Inv X pins σ H s) (h : H d = some (.frz ob (DO X.prog X.w d kvs))) :
    (d == sysModules) = false ∧ s.heap.get? d = some ob ∧ ob.ExactDict ∧ ∃ (es : Array DictEntry) (ep : Nat), ob.data = .dict es ep ∧ es.size = kvs.length ∧
      ∀ (n : Nat) (p : Ent), kvs[n]? = some p → ∃ en : DictEntry, es[n]? = some en ∧ en.key = .ref p.2.1 := by
  obtain ⟨at1, ⟨hs, _, xs, rel, o1, es, ep, at2, ex, dt, he, _⟩, _⟩ := I.hok d _ h
  rw [at1] at at2
  cases at2
  refine ⟨hs, at1, ex, es, ep, dt, ?_, fun n p hp => ?_⟩
  · rw [size_of_entries he, rel.len]
  · obtain ⟨q, hq, _, e2, _⟩ := KN.get rel n p hp
    have z := entry_at he n
    rw [hq] at z
    exact ⟨_, z, by rw [e2]; rfl⟩
theorem same_data {ob : Obj} {es es' : Array DictEntry} {ep ep' : Nat} (h : ob.data = .dict es ep) (h' : ob.data = .dict es' ep') : es' = es ∧ ep' = ep := by
  rw [h'] at h
  cases h
  exact ⟨rfl, rfl⟩
theorem turn_keysN {P : Program} {w : World} {K : PySem.W.Frag} {tg : Expr} {d : Addr} {ob : Obj} {es : Array DictEntry} {ep : Nat} {kvs : List Ent} (itr : Addr) (hob : ob.data = .dict es ep) : Turn P w K tg (ItN P w d ob kvs) [itr] itr (fun n h => h.IsKeyIter itr d n kvs.length ep) where
  mem := by simp
  obj := fun n h st b hb => by
    obtain rfl : b = itr := by simpa using hb
    obtain ⟨oi, z, _, dd⟩ := st
    exact ⟨oi, z, fun v q => by rw [dd] at q; cases q⟩
  keep := fun n h h' st kk => st.at fun oi z => kk itr (by simp) oi z
  item := by
    intro X hP hw hK hc n pins s σ H E I hf st hg
    subst hP hw hK
    obtain ⟨hd, hn⟩ := hg
    obtain ⟨g0, g1, g2, g3, g4, g5⟩ := hf itr (by simp)
    obtain ⟨_, atd, _, es', ep', dt', sz, ent⟩ := locked_at I hd
    obtain ⟨rfl, rfl⟩ := same_data hob dt'
    have hp : kvs[n]? = some kvs[n] := List.getElem?_eq_getElem hn
    obtain ⟨en, hen, hkey⟩ := ent n _ hp
    refine next_key_item st atd dt' sz hen fun h' st' sb => ?_
    have J : Inv X pins σ H { s with heap := h' } := I.turned (t' := s.toks) (fun b u hb z => (sb.2 b hb).trans z) g0 g1 g3 g4 g5
    obtain ⟨oi, z, cc, dd⟩ := id st'
    refine ⟨en.key, rfl, go_of (s := { s with heap := h' }) z cc dd (by decide) ⟨.ref kvs[n].2.1, H, J, hkey, ⟨rfl, kvs[n], hp, rfl⟩, st', fun b hb => (hf b hb).1⟩⟩
  done := by
    intro X hP hw hK hc n pins s σ H E I hf st hg
    subst hP hw hK
    obtain ⟨hd, hn⟩ := hg
    obtain ⟨g0, g1, g2, g3, g4, g5⟩ := hf itr (by simp)
    obtain ⟨_, atd, _, es', ep', dt', sz, ent⟩ := locked_at I hd
    obtain ⟨rfl, rfl⟩ := same_data hob dt'
    exact next_key_end (I.ok.hd hc) st atd dt' sz hn fun h' eb => ⟨rfl, I.turned (t' := s.toks) (fun b u hb z => eb b u hb z) g0 g1 g3 g4 g5⟩
  self := fun A n s Q E st h => by
    refine wpAny_pyIter_slot st.typeIs PySem.F.slot_dict_keyiterator_iter (wpAny_call_entry PySem.F.slot_dict_keyiterator_iter st.typeIs PySem.F.entry_dict_keyiterator_iter ?_ (PySem.F.args_dict_keyiterator_iter_1 _))
    show wpAny _ _ (ret (.ref itr)) _ _ s
    exact wpAny_pure ⟨_, rfl, "dict_keyiterator", _, st.typeIs, PySem.F.slot_dict_keyiterator_next.lookup, h⟩
def iKeysN (X : Cx) (td : TE) : TI := fun σ H R => td σ H fun x H1 => ∃ (d : Addr) (ob : Obj) (kvs : List Ent), x = .ref d ∧ H1 d = some (.frz ob (DO X.prog X.w d kvs)) ∧ R (ItN X.prog X.w d ob kvs) H1
theorem pi_keysN {X : Cx} {tg e : Expr} {td : TE} (he : PE X e td) : PI X tg e (iKeysN X td) := by
  refine ⟨fun pins s σ H R I h => ?_⟩
  refine thn (he.run pins s σ H _ I h) fun u s1 ⟨x, H1, J, rx, d, ob, kvs, ex, hd, q⟩ => ?_
  subst ex
  obtain rfl : u = Value.ref d := rx
  obtain ⟨hs, atd, exd, es, ep, dt, sz, _⟩ := locked_at J hd
  refine iter_keys hs atd exd dt (pi_one (tk := s1.toks) J _ (turn_keysN _ dt) ⟨_, Heap.get?_push_size _ rfl, rfl, ?_⟩ q)
  rw [sz] <;> rfl
theorem walk_keysN {P : Program} {w : World} {d : Addr} {ob : Obj} {kvs : List Ent} : Walk (ItN P w d ob kvs) kvs.length (fun H => H d = some (.frz ob (DO P w d kvs))) (fun n H x H' => H' = H ∧ ∃ p, kvs[n]? = some p ∧ x = .ref p.2.1) :=
  ⟨fun _ _ hn q => ⟨q, hn⟩, fun _ q => ⟨q, Nat.le_refl _⟩, fun _ _ _ _ _ _ y => y⟩
end ND
/-! sorted(xs, key=f): f a def of the program whose promise gives a text and leaves all as it was -/
namespace SK
open PySem PySem.Spec PyProof.Rows L2 PySem.W
set_option autoImplicit false
def leG (g : V → Str) : V → V → Bool := dataLe false fun x => PyData.str (g x)
def Rx (u : Value) (x : V) : Prop := RelV x u
theorem each_vals : ∀ {xs : List V} {us : List Value}, Vals xs us → EachIs Rx us xs
  | _, _, .nil => .nil
  | _, _, .cons h r => .cons h (each_vals r)
theorem vals_each : ∀ {xs : List V} {us : List Value}, EachIs Rx us xs → Vals xs us
  | _, _, .nil => .nil
  | _, _, .cons h r => .cons h (vals_each r)
theorem nf {a q : Addr} {n : Nat} (h1 : a < n) (h2 : n ≤ q) : q ≠ a := fun e => absurd (Nat.lt_of_lt_of_le h1 h2) (by rw [e]; exact Nat.lt_irrefl _)
structure Fresh (X : Cx) (pins : List (Addr × Obj)) (H : Hp) (q : Addr) : Prop where
  non : H q = none
  loc : q ≠ X.env.locals
  fs : q ∉ X.fs
  new : X.s_0.heap.objs.size ≤ q
  cel : ∀ x c, X.env.cells.lookup x = some c → c ≠ q
  pin : ∀ p ∈ X.pn ++ pins, p.1 ≠ q
section
variable {X : Cx} {pins : List (Addr × Obj)} {σ : L2.St} {H : Hp} {s : Shared}
theorem fresh_of (I : Inv X pins σ H s) {q : Addr} (h : s.heap.objs.size ≤ q) : Fresh X pins H q where
  non := I.hok.fresh h
  loc := nf I.lt h
  fs := I.nofs h
  new := Nat.le_trans I.sz h
  cel := fun x c hc => by
    obtain ⟨v, o, ho, _⟩ := I.cell x c hc
    exact (nf (Heap.lt_size ho) h).symm
  pin := fun p hp => (nf (Heap.lt_size (I.pin p hp).1) h).symm
/-- the key store of the sort: pinned with what it holds; the list itself: tracked to the object -/
def here (a : Addr) (o : Obj) : HO := .ext fun h => h.get? a = some o
theorem here_ok {P : Program} {w : World} {h : Heap} {a : Addr} {o : Obj} (e : h.get? a = some o) : ObjOk P w H h a (here a o) := ⟨e, ⟨o, e⟩, fun _ _ z k => k o z⟩
theorem here_at {P : Program} {w : World} {h : Heap} {a : Addr} {o : Obj} (x : HOk P w H h) (e : H a = some (here a o)) : h.get? a = some o := (x a _ e).1
theorem seq_list {vs : Array Value} {n : Nat} : (seqObj "list" vs n) = ({ cls := .type "list", data := .seq vs n } : Obj) := rfl
theorem sort_core {a f : Addr} {fd : FuncData} {k tk0 : Nat} {pn : Str} {sp : Sp} {xs : List V} {vs : List Value} {g : V → Str} {hC : Heap} {Q : Value → Shared → Prop} {E' : Value → Shared → Prop} (I : Inv X pins σ H s) (keepC : ∀ b u, s.heap.get? b = some u → hC.get? b = some u) (ha : s.heap.objs.size ≤ a) (at0 : hC.get? a = some (seqObj "list" vs.toArray 0)) (rv : Vals xs vs) (hL : xs.length ≤ sizeLine)
    (F : FnOk X.prog X.w X.K X.mg X.base CX0 k f fd [pn] sp) (hr : Room (k + 2) X.A) (hb : Binds X.K fd [pn] []) (hu : X.A.units + 4 < cLine)
    (hsp : ∀ x ∈ xs, ∀ H', Same H H' → sp [x] H' (fun v H2 => v = .str (g x) ∧ Same H' H2) (fun _ _ _ => False))
    (fin : ∀ (H2 : Hp) (q : Addr) (s2 : Shared), Inv X pins σ H2 s2 → Same H H2 → H q = none → H2 q = some (.lst (xs.mergeSort (leG g))) → Q (.ref q) s2) :
    wpAny (model X.prog X.w) X.A.in1.in1 (Builtin.«list.sort» ⟨[.ref a], [(Str.ofString "key", .ref f)]⟩) (fun f s' => f = .done (.ret .none) ∧ Q (.ref a) s') E' { s with heap := hC, toks := tk0 } := by
  have vl : xs.length = vs.length := rv.length
  rw [ksk_t1]
  obtain ⟨e1, at1⟩ : ∃ e1, (hC.update a (Obj.mapSeq fun _ => (#[] : Array Value))).get? a = some (seqObj "list" #[] e1) := ⟨_, get?_update_seq at0 fun _ => #[]⟩
  generalize eh : hC.update a (Obj.mapSeq fun _ => (#[] : Array Value)) = hA at at1
  have keepA : ∀ b u, s.heap.get? b = some u → hA.get? b = some u := fun b u q => by
    rw [← eh, Heap.get?_update_ne _ _ _ _ (nf (Heap.lt_size q) ha).symm]
    exact keepC b u q
  unfold ksk_tree
  refine wpAny_bind (listItems_at (s := { s with heap := hC, toks := tk0 }) at0 rfl ?_)
  refine wpAny_bind (listUpdate_at (s := { s with heap := hC, toks := tk0 }) at0 rfl ?_ (by rw [List.size_toArray, ← vl]; exact hL) (Nat.zero_le _))
  show wpAny _ _ _ _ _ { s with toks := tk0, heap := hC.update a (Obj.mapSeq fun _ => (#[] : Array Value)) }
  rw [eh]
  refine wpAny_bind (seqEpoch_at (s := { s with heap := hA, toks := tk0 }) at1 rfl ?_)
  refine wpAny_bind (wpAny_newTuple ?_ (by show vs.length ≤ _; rw [← vl]; exact hL))
  refine wpAny_bind (wpAny_newList ?_ (Nat.zero_le _))
  refine wpAny_holding ?_
  -- the heap with the list emptied, the tuple laid
  generalize eT : hA.push (seqObj "tuple" vs.toArray 0) = hT
  have atT : hT.get? a = some (seqObj "list" #[] e1) := by
    rw [← eT]
    exact Heap.get?_push_of_some _ at1
  have I1 : Inv X pins σ (upd H a (here a (seqObj "list" #[] e1))) { s with heap := hT, toks := tk0 } := by
    refine I.laid (fun b u q => ?_) ha (here_ok atT)
    rw [← eT]
    exact Heap.get?_push_of_some _ (keepA b u q)
  have Ha : H a = none := I.hok.fresh ha
  have sm1 : Same H (upd H a (here a (seqObj "list" #[] e1))) := fun b o q => by
    rw [upd_ne (ne_of_none q Ha)]
    exact q
  generalize eH1 : upd H a (here a (seqObj "list" #[] e1)) = H1 at I1 sm1
  have H1a : H1 a = some (here a (seqObj "list" #[] e1)) := by
    rw [← eH1]
    exact upd_same
  have fr := fresh_of I1 (Nat.le_refl _)
  show wpAny _ _ (ksk_rest a (.ref f) false vs.toArray e1 (.ref hT.objs.size)) _ _ { s with heap := hT.push (seqObj "list" #[] 0), toks := tk0 }
  have hTs : hT.objs.size = ({ s with heap := hT, toks := tk0 } : Shared).heap.objs.size := rfl
  generalize eS : hT.objs.size = kS at fr ⊢
  have ka : kS ≠ a := nf (Heap.lt_size atT) (Nat.le_of_eq eS)
  have I2 : Inv X ((kS, seqObj "list" #[] 0) :: pins) σ H1 { s with heap := hT.push (seqObj "list" #[] 0), toks := tk0 } := by
    have J : Inv X pins σ H1 { s with heap := hT.push (seqObj "list" #[] 0), toks := tk0 } := I1.kept (t' := tk0) fun b u q => Heap.get?_push_of_some _ q
    refine J.pins_of fun p hp => ?_
    rcases List.mem_cons.mp hp with e | e
    · rw [e]
      refine ⟨?_, fr.non, fr.loc, fr.fs, fun v z => by cases z⟩
      rw [← eS]
      exact Heap.get?_push_size _ rfl
    · exact J.pin p (List.mem_append_right _ e)
  unfold ksk_rest
  refine wpAny_bind (wpAny_rule ?_)
  first
    | rw [List.forIn_toArray]
    | (rw [← Array.forIn_toList]; simp only [List.toList_toArray])
  refine wpAny_bind (ksk_fold (fun n s' => ∃ (Hn : Hp) (kA : Array Value) (e : Nat), Inv X ((kS, seqObj "list" kA e) :: pins) σ Hn s' ∧ Same H1 Hn ∧ Vals ((xs.take n).map fun x => V.str (g x)) kA.toList) vs 0 _ ⟨H1, #[], 0, I2, Same.refl _, .nil⟩ ?turn ?over)
  case turn =>
    rintro j u s' hj ⟨Hn, kA, e, J, sm, rk⟩
    simp only [Nat.zero_add] at rk ⊢
    have jl : j < vs.length := (List.getElem?_eq_some_iff.mp hj).1
    obtain ⟨x, hx, rx⟩ : ∃ x, xs[j]? = some x ∧ RelV x u := by
      have hx : xs[j]? = some (xs[j]'(by omega)) := List.getElem?_eq_getElem (by omega)
      obtain ⟨u', hu', ru'⟩ := rv.get hx
      rw [hj] at hu'
      cases hu'
      exact ⟨_, hx, ru'⟩
    have xm : x ∈ xs := List.mem_of_getElem? hx
    have hrun : wpAny (model X.prog X.w) X.A.in1.in1 (call (.ref f) [u]) (fun v s2 => EP X ((kS, seqObj "list" kA e) :: pins) σ (fun v H2 => v = .str (g x) ∧ Same Hn H2) v s2) (fun _ _ => False) s' := by
      have hr2 : Room k X.A.in1.in1 := (show Room (k + 1) X.A.in1 from Room.in1 hr).in1
      refine wpAny_call (codeAny_mono (F.run X.A.in1.in1 X.stack s' Hn ⟨[u], []⟩ [u] [x] (fun v H2 => v = .str (g x) ∧ Same Hn H2) (fun _ _ _ => False) hr2 J.env0.in1.in1 ?_ (.cons rx .nil) (hsp x xm Hn (sm1.trans sm))) fun r s2 hq => ?_)
      · have b1 := hb s' [u] J.kIn rfl
        rw [List.append_nil] at b1
        exact b1
      · cases r with
        | error er => exact (hq : False)
        | ok fl =>
          cases fl with
          | ret v => exact J.after hq
          | next => exact False.elim hq
          | brk => exact False.elim hq
          | cont => exact False.elim hq
    refine wpAny_bind (wpAny_attempt (wpAny_mono hrun (fun v s2 hv => ?_) fun _ _ z => z.elim))
    obtain ⟨y, H2, J2, ry, ey, sm2⟩ := hv
    subst ey
    have pk := J2.pin (kS, seqObj "list" kA e) (List.mem_append_right _ List.mem_cons_self)
    have kl : kA.size ≤ vs.length := by
      have q1 := rk.length
      rw [List.length_map, List.length_take] at q1
      have q2 : kA.toList.length = kA.size := Array.length_toList
      omega
    obtain ⟨c2, hc2⟩ : ∃ c2, (s2.heap.update kS (Obj.mapSeq (·.push v))).get? kS = some (seqObj "list" (kA.push v) c2) := ⟨_, get?_update_seq pk.1 (·.push v)⟩
    have sb := Heap.SameBut.update s2.heap kS (Obj.mapSeq (·.push v))
    try dsimp only
    refine wpAny_bind (listUpdate_at pk.1 rfl ?_ (by rw [← vl] at kl; omega) (by rw [Array.size_push, ← vl] at *; omega))
    refine wpAny_pure ⟨rfl, H2, kA.push v, c2, ?_, sm.trans sm2, ?_⟩
    · have J3 : Inv X pins σ H2 s2 := J2.pins_of fun p hp => J2.pin p (List.mem_append_right _ (List.mem_cons_of_mem _ hp))
      have J4 := J3.turned (t' := s2.toks) (h' := s2.heap.update kS (Obj.mapSeq (·.push v))) (it := kS) (fun b o hb q => (sb.2 b hb).trans q) pk.2.1 fr.loc (.inr fr.new) fr.cel fr.pin
      refine J4.pins_of fun p hp => ?_
      rcases List.mem_cons.mp hp with q | q
      · rw [q]
        exact ⟨hc2, pk.2.1, fr.loc, fr.fs, fun v z => by cases z⟩
      · exact J4.pin p (List.mem_append_right _ q)
    · rw [List.take_add_one, hx, List.map_append, Array.toList_push]
      exact rk.append (.cons ry .nil)
  case over =>
    rintro s' ⟨Hn, kA, e, J, sm, rk⟩
    simp only [Nat.zero_add] at rk
    rw [← vl, List.take_length] at rk
    have pk := J.pin (kS, seqObj "list" kA e) (List.mem_append_right _ List.mem_cons_self)
    have ata : s'.heap.get? a = some (seqObj "list" #[] e1) := here_at J.hok (sm _ _ H1a)
    have ksz : kA.size = vs.length := by
      have q1 := rk.length
      rw [List.length_map] at q1
      have q2 : kA.toList.length = kA.size := Array.length_toList
      omega
    have eachK : EachIs (fun v d => ∃ as, Reads s'.heap v d as) kA.toList (xs.map fun x => PyData.str (g x)) := by
      have gen : ∀ (ys : List V) (us : List Value), Vals (ys.map fun x => V.str (g x)) us → EachIs (fun v d => ∃ as, Reads s'.heap v d as) us (ys.map fun x => PyData.str (g x)) := by
        intro ys
        induction ys with
        | nil =>
          intro us r
          cases r
          exact .nil
        | cons y ys ih =>
          intro us r
          cases r with
          | cons ry rr =>
            obtain ⟨t, rfl⟩ := ry
            exact .cons ⟨[], .str _ _⟩ (ih _ rr)
      exact gen xs _ rk
    have alikeK : AllAlike (xs.map fun x => PyData.str (g x)) := by
      intro d hd d' hd'
      obtain ⟨b, _, rfl⟩ := List.mem_map.mp hd
      obtain ⟨c, _, rfl⟩ := List.mem_map.mp hd'
      simp [alike]
    have sortK : Sortable (xs.map fun x => PyData.str (g x)) := by
      refine .inr fun d hd => ?_
      obtain ⟨b, _, rfl⟩ := List.mem_map.mp hd
      exact ⟨by simp, fun ys => by simp⟩
    have unitK : ∀ d ∈ xs.map (fun x => PyData.str (g x)), X.A.in1.in1.units + d.depth < cLine := by
      intro d hd
      obtain ⟨b, _, rfl⟩ := List.mem_map.mp hd
      have u1 : X.A.in1.in1.units ≤ X.A.units + 2 := by first | exact Nat.le_refl _ | simp [Around.in1]
      simp only [PyData.depth]
      omega
    try dsimp only
    refine wpAny_bind (listItems_at pk.1 rfl ?_)
    have hid : (hideAll s'.heap [kS]).get? kS = none := hideAll_none _ (by simp)
    refine keyH_end (κ := dataKind s'.heap (xs.map fun x => PyData.str (g x))) (h₁ := hideAll s'.heap [kS]) (fun b o _ q => of_hideAll _ q) hid pk.1 ata ka (SortsAt.data (s := s') eachK alikeK sortK unitK) ksz (by rw [← vl]; exact hL) fun h3 tk c kp at3 => ⟨rfl, ?_⟩
    have eo : EachIs Rx (sortVals (dataKind s'.heap (xs.map fun x => PyData.str (g x))) false kA.toList vs) (xs.mergeSort (leG g)) :=
      keyedOut_each (rev := false) (fun x : V => PyData.str (g x)) ⟨s'.heap, kA.toList, alikeK, rfl, eachK⟩ (each_vals rv)
    generalize sortVals (dataKind s'.heap (xs.map fun x => PyData.str (g x))) false kA.toList vs = out at at3 eo
    -- the key store is let go, then the list takes the items
    have J3 : Inv X pins σ Hn s' := J.pins_of fun p hp => J.pin p (List.mem_append_right _ (List.mem_cons_of_mem _ hp))
    have back : (h3.update a fun _ => seqObj "list" #[] e1).get? a = some (seqObj "list" #[] e1) := by
      exact Heap.get?_update_self _ at3 rfl
    have J4 := J3.turned (t' := tk) (h' := h3.update a fun _ => seqObj "list" #[] e1) (it := kS) (fun b o hb q => ?_) pk.2.1 fr.loc (.inr fr.new) fr.cel fr.pin
    · have lenO : (xs.mergeSort (leG g)).length ≤ sizeLine := by
        rw [List.length_mergeSort]
        exact hL
      have J5 := J4.write (t' := tk) (x := a) (e := a) (h' := h3) (o := .lst (xs.mergeSort (leG g))) (by rw [sm _ _ H1a]; exact True.intro) (.inl rfl) (fun b u hb q => ?_) ⟨_, at3⟩ ⟨lenO, out, c, vals_each eo, at3⟩
      · refine fin _ a _ J5 (fun b o q => ?_) Ha upd_same
        rw [upd_ne (ne_of_none q Ha)]
        exact sm _ _ (sm1 _ _ q)
      · rw [Heap.get?_update_ne _ _ _ _ hb] at q
        exact q
    · by_cases ba : b = a
      · rw [ba] at q ⊢
        rw [ata] at q
        rw [← Option.some.inj q]
        exact back
      · rw [Heap.get?_update_ne _ _ _ _ ba]
        refine kp b o ba ?_
        exact hideAll_get [kS] q (by simpa using hb)
theorem sorted_fn {l f : Addr} {fd : FuncData} {k : Nat} {pn : Str} {sp : Sp} {xs : List V} {vs : List Value} {g : V → Str} {Q : Value → Shared → Prop} {E : Value → Shared → Prop} (I : Inv X pins σ H s) (hl : s.heap.IsList l vs.toArray) (rv : Vals xs vs) (hL : xs.length ≤ sizeLine)
    (F : FnOk X.prog X.w X.K X.mg X.base CX0 k f fd [pn] sp) (hr : Room (k + 2) X.A) (hb : Binds X.K fd [pn] []) (hu : X.A.units + 4 < cLine)
    (hsp : ∀ x ∈ xs, ∀ H', Same H H' → sp [x] H' (fun v H2 => v = .str (g x) ∧ Same H' H2) (fun _ _ _ => False))
    (fin : ∀ (H2 : Hp) (q : Addr) (s2 : Shared), Inv X pins σ H2 s2 → Same H H2 → H q = none → H2 q = some (.lst (xs.mergeSort (leG g))) → Q (.ref q) s2) :
    wpAny (model X.prog X.w) X.A (call (.builtin "sorted") [.ref l] [(Str.ofString "key", .ref f)]) Q E s := by
  refine sorted_of_sort hl (by rw [← rv.length]; exact hL) (ksk_s1 _ _) (fun _ => ksk_l1 _ _) fun E' => ?_
  exact sort_core I (fun b u q => copyHeap_old q) (Nat.le_succ _) (copyHeap_at s.heap vs) rv hL F hr hb hu hsp fin
end
end SK
namespace SK
open PySem PySem.Spec PyProof.Rows L2 PySem.W
set_option autoImplicit false
/-- a tuple is read in one way -/
def TInj (K : PySem.W.Frag) (H : Hp) : Prop := ∀ (a : Addr) (xs ys : List V), SqT K H a xs → SqT K H a ys → xs = ys
def tSortFn (K : PySem.W.Frag) (sp : Sp) (t : TA) : TE := fun σ H Q => t σ H fun vs H1 => TInj K H1 → ∃ (l : Addr) (xs : List V) (g : V → Str), vs = [.ref l] ∧ SqL K H1 l xs ∧
  (∀ x ∈ xs, ∀ H', Same H1 H' → sp [x] H' (fun v H2 => v = .str (g x) ∧ Same H' H2) (fun _ _ _ => False)) ∧ ∀ H2 p, Same H1 H2 → H1 p = none → H2 p = some (.lst (xs.mergeSort (leG g))) → Q (.ref p) H2
section
variable {X : Cx} {p p2 pos kpos : Pos} {e : Expr} {t : TA} {k : Nat} {f : Addr} {fd : FuncData} {pn fn : Str} {sp : Sp}
theorem pe_sortedFn (F : FnOk X.prog X.w X.K X.mg X.base CX0 k f fd [pn] sp) (hr : Room (k + 2) X.A) (hb : Binds X.K fd [pn] []) (hgs : Gl X "sorted") (hms : X.mg "sorted" = none) (hgf : Gl X fn) (hmf : X.mg fn = some (.ref f)) (ha : PA X [e] t)
    (hdb : (fn == ("__debug__" : Str)) = false := by decide) (he : backTo pos (starEach [e] X.env) = (false, eval e X.env) :: backTo pos (starEach [] X.env) := by rfl) (hpl : (backTo pos (starEach [e] X.env)).any (·.1) = false := by rfl) :
    PE X (.Call (.Name "sorted" p) [e] [⟨some "key", .Name fn p2, kpos⟩] pos) (tSortFn X.K sp t) := by
  refine ⟨fun pins s σ H Q I h => ?_⟩
  refine wpAny_Call_Name_kw (ld_blt I hgs hms (u := .builtin "sorted") (by decide +kernel) ?_)
  refine PyProof.Rows.callWith_kw (thn (ha.run pos pins s σ H _ I h) fun us s1 ⟨vs, H1, J, r1, q1⟩ => ?_) he hpl (by rfl) (by rfl)
  show wpAny _ _ (evalAll [do let v ← eval (.Name fn p2) X.env; standAt pos; pure v]) _ _ s1
  refine wpAny_evalAll_cons (wpAny_bind (ld_glob J hgf hmf (wpAny_bind (wpAny_standAt (wpAny_pure (wpAny_evalAll_nil ?_)))) hdb))
  obtain ⟨l, xs, g, rfl, hs, hsp, q⟩ := q1 fun a xs ys h1 h2 => J.tuple_inj h1 h2
  obtain ⟨its, rv, hl, hz⟩ := J.list hs
  rw [Vals.ref1 r1]
  show wpAny _ _ (call (.builtin "sorted") [.ref l] [(Str.ofString "key", .ref f)]) _ _ _
  exact sorted_fn J hl.isList rv hz F hr hb (by have := hr.units; omega) hsp fun H2 a s2 J2 sm hn ha => ⟨.ref a, H2, J2, rfl, q H2 a sm hn ha⟩
end
end SK
/-! sorted(d, reverse=b), sorted(d, key=f), list(d): d a dict with tuple keys -/
namespace ND
open PySem PySem.Spec PyProof.Rows L2 PySem.W PySem.Calls
set_option autoImplicit false
def keyRefs (kvs : List Ent) : List Value := kvs.map fun p => Value.ref p.2.1
def keyVs (kvs : List Ent) : List V := kvs.map fun p => V.ref p.2.1
theorem keyVals : ∀ kvs : List Ent, Vals (keyVs kvs) (keyRefs kvs)
  | [] => .nil
  | _ :: r => .cons rfl (keyVals r)
section
variable {X : Cx} {pins : List (Addr × Obj)} {σ : L2.St} {H : Hp} {s : Shared} {d : Addr} {kvs : List Ent}
theorem raw_at (I : Inv X pins σ H s) (hd : Rd H d (DO X.prog X.w d kvs)) : (d == sysModules) = false ∧ kvs.length ≤ sizeLine ∧ ∃ (es : Array DictEntry) (ep : Nat), s.heap.DictRaw d es ep ∧ es.size = kvs.length ∧ ∀ (n : Nat) (p : Ent), kvs[n]? = some p → ∃ en : DictEntry, es[n]? = some en ∧ en.key = .ref p.2.1 := by
  obtain ⟨⟨hs, hl, xs, rel, o, es, ep, h1, h2, h3, he, _⟩, _, _⟩ := hd.ok I.hok
  refine ⟨hs, hl, es, ep, ⟨o, h1, h2, h3⟩, ?_, fun n p hp => ?_⟩
  · rw [size_of_entries he, rel.len]
  · obtain ⟨q, hq, _, e2, _⟩ := KN.get rel n p hp
    have z := entry_at he n
    rw [hq] at z
    exact ⟨_, z, by rw [e2]; rfl⟩
theorem items_keys {es : Array DictEntry} {acc : Array Value} (sz : es.size = kvs.length) (ent : ∀ (n : Nat) (p : Ent), kvs[n]? = some p → ∃ en : DictEntry, es[n]? = some en ∧ en.key = .ref p.2.1) (ha : ItemsOf (fun i v => ∃ hi : i < es.size, v = es[i].key) acc es.size) : acc.toList = keyRefs kvs := by
  refine List.ext_getElem? fun n => ?_
  have asz : acc.toList.length = kvs.length := by
    have q : acc.toList.length = acc.size := Array.length_toList
    have := ha.1
    omega
  by_cases hn : n < kvs.length
  · have hp : kvs[n]? = some kvs[n] := List.getElem?_eq_getElem hn
    obtain ⟨en, hen, hk⟩ := ent n _ hp
    have hv : acc.toList[n]? = some (acc.toList[n]'(by omega)) := List.getElem?_eq_getElem (by omega)
    obtain ⟨hi, e⟩ := ha.2 n _ (by rw [← Array.getElem?_toList]; exact hv)
    have e2 : es[n] = en := by
      have := Array.getElem?_eq_getElem (xs := es) (i := n) hi
      rw [hen] at this
      exact (Option.some.inj this).symm
    rw [hv, e, e2, hk]
    unfold keyRefs
    rw [List.getElem?_map, hp]
    rfl
  · unfold keyRefs
    rw [List.getElem?_map, List.getElem?_eq_none (by omega), List.getElem?_eq_none (by omega)]
    rfl
theorem dict_sorted {kw : List (Str × Value)} {Q : Value → Shared → Prop} {E : Value → Shared → Prop} (I : Inv X pins σ H s) (hd : Rd H d (DO X.prog X.w d kvs)) (calm : X.calm = true) (ha1 : argsOk "sorted" ⟨[.ref d], kw⟩) (ha2 : ∀ x, argsOk "list.sort" ⟨[.ref x], kw⟩)
    (body : ∀ s1 : Shared, Inv X pins σ H s1 → ∀ E' : Value → Shared → Prop,
      wpAny (model X.prog X.w) X.A.in1.in1 (Builtin.«list.sort» ⟨[.ref s1.heap.objs.size], kw⟩) (fun f s' => f = .done (.ret .none) ∧ Q (.ref s1.heap.objs.size) s') E' { s1 with heap := s1.heap.push (seqObj "list" (keyRefs kvs).toArray 0) }) :
    wpAny (model X.prog X.w) X.A (call (.builtin "sorted") [.ref d] kw) Q E s := by
  obtain ⟨lo, hl, es, ep, raw, sz, ent⟩ := raw_at I hd
  refine call_function_entry_kw kind_sorted plain_sorted entry_sorted ha1 ?_
  unfold Builtin.«sorted»
  refine wpAny_bind (m := checkCount "sorted" 1 1 _) (wpAny_pure ?_)
  refine wpAny_bind (kdu_collect (A := X.A.in1) (KdlSrc.rawDict (prog := X.prog) (w := X.w) (es := es) (ep := ep) lo) (I.ok.hd calm) raw (by rw [sz]; exact hl) fun h' tk acc kp items => ?_)
  rw [items_keys sz ent items]
  have kl : (keyRefs kvs).length ≤ sizeLine := by
    unfold keyRefs
    rw [List.length_map]
    exact hl
  refine wpAny_bind (wpAny_newList ?_ kl)
  have J : Inv X pins σ H { s with heap := h', toks := tk } := I.kept kp
  have at0 : (h'.push (seqObj "list" (keyRefs kvs).toArray 0)).get? h'.objs.size = some (seqObj "list" (keyRefs kvs).toArray 0) := Heap.get?_push_size _ rfl
  refine wpAny_bind (wpAny_holding (wpAny_call_entry_kw slot_list_sort ⟨_, at0, rfl⟩ entry_list_sort ?inner (ha2 _)))
  case inner =>
    refine wpAny_mono (body { s with heap := h', toks := tk } J _) (fun f s' hf => ?_) fun _ _ e => e
    obtain ⟨rfl, hq⟩ := hf
    exact ⟨_, rfl, wpAny_pure ⟨_, rfl, hq⟩⟩
/-! ### sorted(d, reverse=b) -/
mutual
theorem NK.dp {K : PySem.W.Frag} {H : Hp} : ∀ (k : NestedKey) (v : V), NK K H k v → Dp K H v k.data
  | .none, _, h => by cases h; exact .non
  | .num i, _, h => by cases h; exact .int i
  | .text x, _, h => by cases h; exact .str x
  | .tup ks, _, h => by
    cases h with
    | tup q r => exact .tup q (NKs.dp ks _ r)
theorem NKs.dp {K : PySem.W.Frag} {H : Hp} : ∀ (ks : List NestedKey) (vs : List V), NKs K H ks vs → DpAll K H vs (NestedKey.datas ks)
  | [], _, h => by cases h; exact .nil
  | k :: ks, _, h => by
    cases h with
    | cons a r => exact .cons (NK.dp k _ a) (NKs.dp ks _ r)
end
def Rr (u : Value) (p : Ent) : Prop := u = .ref p.2.1
theorem each_refs : ∀ kvs : List Ent, EachIs Rr (keyRefs kvs) kvs
  | [] => .nil
  | _ :: r => .cons rfl (each_refs r)
theorem vals_refs : ∀ {us : List Value} {ps : List Ent}, EachIs Rr us ps → Vals (keyVs ps) us
  | _, _, .nil => .nil
  | _, _, .cons h r => .cons h (vals_refs r)
def rSortD (X : Cx) (b : Bool) : List V → List V → Hp → VK → Prop := fun vs zs H Q => ∃ (d : Addr) (kvs : List Ent), vs = [V.ref d] ∧ zs = [.bl b] ∧ Rd H d (DO X.prog X.w d kvs) ∧ KOks X.K H kvs ∧ AllAlike (kvs.map fun p => p.1.data) ∧ Sortable (kvs.map fun p => p.1.data) ∧ (∀ p ∈ kvs, p.1.data.depth ≤ 9) ∧
  ∀ p, H p = none → Q (.ref p) (upd H p (.lst (keyVs (kvs.mergeSort (dataLe b fun p => p.1.data)))))
theorem cr_sortedD {b : Bool} (calm : X.calm = true) (hu : X.A.units + 64 < cLine) : CallRK X (.builtin "sorted") [Str.ofString "reverse"] (rSortD X b) := by
  intro pins s σ H vs zs us ws Q I r rz h
  obtain ⟨d, kvs, rfl, rfl, hd, ok, al, so, dp, q⟩ := h
  obtain rfl := Vals.ref1 r
  obtain ⟨w1, rfl, e1⟩ := vals1 rz
  obtain rfl : w1 = Value.bool b := e1
  have hl : kvs.length ≤ sizeLine := (raw_at I hd).2.1
  refine dict_sorted I hd calm (args_sorted_rev _ _) (fun _ => args_list_sort_rev _ _) fun s1 J E' => ?_
  have at0 : (s1.heap.push (seqObj "list" (keyRefs kvs).toArray 0)).get? s1.heap.objs.size = some (seqObj "list" (keyRefs kvs).toArray 0) := Heap.get?_push_size _ rfl
  have er : EachIs (fun v p => ∃ as, Reads (sortingHeap (s1.heap.push (seqObj "list" (keyRefs kvs).toArray 0)) s1.heap.objs.size (keyRefs kvs)) v p.1.data as) (keyRefs kvs) kvs := by
    have gen : ∀ l : List Ent, KOks X.K H l → EachIs (fun v p => ∃ as, Reads (sortingHeap (s1.heap.push (seqObj "list" (keyRefs kvs).toArray 0)) s1.heap.objs.size (keyRefs kvs)) v p.1.data as) (keyRefs l) l := by
      intro l
      induction l with
      | nil => intro _; exact .nil
      | cons p l ih =>
        intro o
        refine .cons ?_ (ih fun x hx => o x (List.mem_cons_of_mem _ hx))
        obtain ⟨as, rd⟩ := Dp.reads J _ _ _ (NK.dp _ _ (o p List.mem_cons_self).1) rfl
        exact ⟨as, PyProof.Rows.Reads.keeps (fun b o e => sortingHeap_old (Nat.ne_of_lt (Heap.lt_size e)) (Heap.get?_push_of_some _ e)) rd⟩
    exact gen kvs ok
  have un : ∀ x ∈ kvs.map (fun p => p.1.data), X.A.in1.in1.units + x.depth < cLine := by
    intro x hx
    obtain ⟨p, hp, rfl⟩ := List.mem_map.mp hx
    have := dp p hp
    have u1 : X.A.in1.in1.units ≤ X.A.units + 2 := by first | exact Nat.le_refl _ | simp [Around.in1]
    omega
  have kl : (keyRefs kvs).length ≤ sizeLine := by
    unfold keyRefs
    rw [List.length_map]
    exact hl
  refine list_sort_rev_vals (s := { s1 with heap := s1.heap.push (seqObj "list" (keyRefs kvs).toArray 0) }) at0 (SortsAt.data (s := { s1 with heap := sortingHeap (s1.heap.push (seqObj "list" (keyRefs kvs).toArray 0)) s1.heap.objs.size (keyRefs kvs) }) (each_map (R := fun v x => ∃ as, Reads (sortingHeap (s1.heap.push (seqObj "list" (keyRefs kvs).toArray 0)) s1.heap.objs.size (keyRefs kvs)) v x as) (fun p : Ent => p.1.data) er) al so un) kl ⟨rfl, ?_⟩
  have eo := sortVals_data b (each_refs kvs) er al
  generalize sortVals (dataKind (sortingHeap (s1.heap.push (seqObj "list" (keyRefs kvs).toArray 0)) s1.heap.objs.size (keyRefs kvs)) (kvs.map fun p => p.1.data)) b (keyRefs kvs) (keyRefs kvs) = out at eo ⊢
  obtain ⟨c, hc⟩ := PyProof.Rows.sortedHeap_at (vs := keyRefs kvs) (out := out.toArray) at0
  refine ⟨.ref s1.heap.objs.size, upd H s1.heap.objs.size (.lst (keyVs (kvs.mergeSort (dataLe b fun p => p.1.data)))), J.laid (t' := s1.toks) (fun b u e => ?_) (Nat.le_refl _) ⟨?_, out, c, vals_refs eo, hc⟩, rfl, q _ (J.hok.fresh (Nat.le_refl _))⟩
  · have lt := Heap.lt_size e
    rw [PyProof.Rows.sortedHeap_old (Nat.ne_of_lt lt) (Nat.lt_of_lt_of_le lt (by rw [size_push']; exact Nat.le_succ _))]
    exact Heap.get?_push_of_some _ e
  · unfold keyVs
    rw [List.length_map, List.length_mergeSort]
    exact hl
/-! ### sorted(d, key=f) -/
def tSortDFn (X : Cx) (sp : Sp) (t : TA) : TE := fun σ H Q => t σ H fun vs H1 => SK.TInj X.K H1 → ∃ (d : Addr) (kvs : List Ent) (g : V → Str), vs = [.ref d] ∧ Rd H1 d (DO X.prog X.w d kvs) ∧
  (∀ x ∈ keyVs kvs, ∀ H', Same H1 H' → sp [x] H' (fun v H2 => v = .str (g x) ∧ Same H' H2) (fun _ _ _ => False)) ∧ ∀ H2 p, Same H1 H2 → H1 p = none → H2 p = some (.lst ((keyVs kvs).mergeSort (SK.leG g))) → Q (.ref p) H2
theorem pe_sortedDFn {p p2 pos kpos : Pos} {e : Expr} {t : TA} {k : Nat} {f : Addr} {fd : FuncData} {pn fn : Str} {sp : Sp} (calm : X.calm = true) (F : FnOk X.prog X.w X.K X.mg X.base CX0 k f fd [pn] sp) (hr : Room (k + 2) X.A) (hb : Binds X.K fd [pn] []) (hgs : Gl X "sorted") (hms : X.mg "sorted" = none) (hgf : Gl X fn) (hmf : X.mg fn = some (.ref f)) (ha : PA X [e] t)
    (hdb : (fn == ("__debug__" : Str)) = false := by decide) (he : backTo pos (starEach [e] X.env) = (false, eval e X.env) :: backTo pos (starEach [] X.env) := by rfl) (hpl : (backTo pos (starEach [e] X.env)).any (·.1) = false := by rfl) :
    PE X (.Call (.Name "sorted" p) [e] [⟨some "key", .Name fn p2, kpos⟩] pos) (tSortDFn X sp t) := by
  refine ⟨fun pins s σ H Q I h => ?_⟩
  refine wpAny_Call_Name_kw (ld_blt I hgs hms (u := .builtin "sorted") (by decide +kernel) ?_)
  refine PyProof.Rows.callWith_kw (thn (ha.run pos pins s σ H _ I h) fun us s1 ⟨vs, H1, J, r1, q1⟩ => ?_) he hpl (by rfl) (by rfl)
  show wpAny _ _ (evalAll [do let v ← eval (.Name fn p2) X.env; standAt pos; pure v]) _ _ s1
  refine wpAny_evalAll_cons (wpAny_bind (ld_glob J hgf hmf (wpAny_bind (wpAny_standAt (wpAny_pure (wpAny_evalAll_nil ?_)))) hdb))
  obtain ⟨d, kvs, g, rfl, hd, hsp, q⟩ := q1 fun a xs ys h1 h2 => J.tuple_inj h1 h2
  have hl : (keyVs kvs).length ≤ sizeLine := by
    unfold keyVs
    rw [List.length_map]
    exact (raw_at J hd).2.1
  rw [Vals.ref1 r1]
  show wpAny _ _ (call (.builtin "sorted") [.ref d] [(Str.ofString "key", .ref f)]) _ _ _
  refine dict_sorted J hd calm (ksk_s1 _ _) (fun _ => ksk_l1 _ _) fun s2 J2 E' => ?_
  exact SK.sort_core (Q := EP X pins σ Q) J2 (fun b u e => Heap.get?_push_of_some _ e) (Nat.le_refl _) (Heap.get?_push_size _ rfl) (keyVals kvs) hl F hr hb (by have := hr.units; omega) hsp fun H2 a s3 J3 sm hn ha => ⟨.ref a, H2, J3, rfl, q H2 a sm hn ha⟩
/-! ### list(d) -/
def rListD (X : Cx) : List V → Hp → VK → Prop := fun vs H Q => ∃ (d : Addr) (kvs : List Ent), vs = [V.ref d] ∧ Rd H d (DO X.prog X.w d kvs) ∧ ∀ p, H p = none → Q (.ref p) (upd H p (.lst (keyVs kvs)))
theorem cr_listD (calm : X.calm = true) : CallR X (.type "list") (rListD X) := by
  intro pins s σ H vs us Q I r h
  obtain ⟨d, kvs, rfl, hd, q⟩ := h
  obtain rfl := Vals.ref1 r
  obtain ⟨lo, hl, es, ep, raw, sz, ent⟩ := raw_at I hd
  refine kdl_call (KdlSrc.rawDict (prog := X.prog) (w := X.w) (es := es) (ep := ep) lo) (I.ok.hd calm) raw (by rw [sz]; exact hl) fun h' tk acc c kp at0 items => ?_
  have e := items_keys sz ent items
  have at1 : h'.get? s.heap.objs.size = some { cls := .type "list", dict := none, data := .seq (keyRefs kvs).toArray c, slots := #[] } := by
    rw [at0, ← e]
  refine ⟨.ref s.heap.objs.size, upd H s.heap.objs.size (.lst (keyVs kvs)), I.laid (t' := tk) kp (Nat.le_refl _) ⟨?_, keyRefs kvs, c, keyVals kvs, at1⟩, rfl, q _ (I.hok.fresh (Nat.le_refl _))⟩
  unfold keyVs
  rw [List.length_map]
  exact hl
end
end ND
/-! format_factor, format_product, is_inside, size_of_product, by_written_form -/
namespace DW
open PySem PySem.Spec PyProof.Rows L2 TL
set_option autoImplicit false
theorem tl_app2 (x y : Str) : tl (x ++ y) = tl x ++ tl y := Array.toList_append
/-! ### written forms -/
def fform (f : Fc) : Str := if f.1 = true then ("{" : Str) ++ f.2 ++ ("}*" : Str) else f.2 ++ ("?" : Str)
def pform (fs : List Fc) : Str := if fs = [] then "-" else Txt.join "" (fs.map fform)
def spFf (K : PySem.W.Frag) : Sp := fun vs H Q _ => ∃ (v : V) (f : Fc), vs = [v] ∧ IsF K H v f ∧ (ls f).length ≤ 1000 ∧ Q (.str (fform f)) H
def spFp (K : PySem.W.Frag) : Sp := fun vs H Q _ => ∃ (v : V) (fs : List Fc), vs = [v] ∧ IsP K H v fs ∧ (∀ f ∈ fs, (ls f).length ≤ 1000) ∧ fs.length ≤ 10000 ∧ ∀ H', Same H H' → Q (.str (pform fs)) H'
theorem fform_len {f : Fc} (h : (ls f).length ≤ 1000) : (fform f).length ≤ 1003 := by
  have e : ∀ y : Str, y.length = (tl y).length := fun y => (Array.length_toList).symm
  have h' : (tl f.2).length ≤ 1000 := h
  unfold fform
  split
  · rw [e, tl_app2, tl_app2, List.length_append, List.length_append]
    have e1 : (tl "{").length = 1 := by decide +kernel
    have e2 : (tl "}*").length = 2 := by decide +kernel
    omega
  · rw [e, tl_app2, List.length_append]
    have e2 : (tl "?").length = 1 := by decide +kernel
    omega
section
variable {P : Program} {w : World} {K : PySem.W.Frag} {mg : Str → Option Value} {base : Heap}
theorem scFf : FnScope ["factor", "kind", "letters"] ["factor"] (defScope sFormatFactor) := ⟨rfl, rfl, rfl, by decide +kernel, rfl, by decide +kernel, by decide +kernel⟩
theorem ok_ff (D : Df K mg "format_factor" sFormatFactor ["factor"]) : FnOk P w K mg base CX0 1 D.f D.fd ["factor"] (spFf K) := by
  refine D.F.ok scFf (fun vs H Q E h => ?_) (fun cdv A outer s H vs Q E hr h => ?_)
  · obtain ⟨v, f, rfl, _⟩ := h
    rfl
  · obtain ⟨v, f, rfl, ⟨a, rfl, ha⟩, fl, k⟩ := h
    have sz : ∀ y : Str, y.length = (tl y).length := fun y => (Array.length_toList).symm
    have fl' : (tl f.2).length ≤ 1000 := fl
    refine ⟨_, (pss_cons (ps_asg (pv 0) (pg_tup rfl (pgs_cons (pg_name (i := 1) scFf.nd rfl (.inl rfl)) (pgs_cons (pg_name (i := 2) scFf.nd rfl (.inl rfl)) pgs_nil)))) (pss_cons (ps_if (pt_cmpR op_eq (pv 1) pe_str (nomark _)) (pss_one (ps_ret (pe_op op_add_str (pv 2) pe_str))) pss_nil) (pss_one (ps_ret (pe_op op_add_str (pe_op op_add_str pe_str (pv 2)) pe_str))))), ?_⟩
    refine ⟨.ref a, rfl, a, _, rfl, ha, rfl, _, _, rfl, _, _, rfl, rfl, ?_⟩
    refine ⟨_, rfl, rfl, _, rfl, ?_⟩
    rw [kd_opt]
    unfold fform at k
    have l1 : ("?" : Str).length = 1 := by decide +kernel
    have l2 : ("{" : Str).length = 1 := by decide +kernel
    have l3 : ("}*" : Str).length = 2 := by decide +kernel
    cases q : f.1 with
    | false =>
      rw [q, if_neg (by simp)] at k
      exact iteT ⟨_, rfl, f.2, "?", rfl, rfl, by rw [l1, sz, sizeLine_eq]; omega, k⟩
    | true =>
      rw [q, if_pos rfl] at k
      refine iteF ⟨_, rfl, "{", f.2, rfl, rfl, by rw [l2, sz, sizeLine_eq]; omega, ("{" : Str) ++ f.2, "}*", rfl, rfl, ?_, k⟩
      rw [l3, sz, tl_app2, List.length_append, sizeLine_eq]
      have : (tl "{").length = 1 := by decide +kernel
      omega
theorem scFp : FnScope ["product", "factor"] ["product"] (defScope sFormatProduct) := ⟨rfl, rfl, rfl, by decide +kernel, rfl, by decide +kernel, by decide +kernel⟩
theorem ok_fp (D : Df K mg "format_product" sFormatProduct ["product"]) (Df0 : Df K mg "format_factor" sFormatFactor ["factor"]) (ml : mg "len" = none) (me0 : ∃ t, mg "EMPTY_FORM" = some (.str "-" t)) : FnOk P w K mg base CX0 2 D.f D.fd ["product"] (spFp K) := by
  have Gf : FnOk P w K mg base CX0 1 Df0.f Df0.fd ["factor"] (spFf K) := ok_ff Df0
  have me : ∃ u, mg "EMPTY_FORM" = some u ∧ RelV (.str "-") u := by
    obtain ⟨t, e⟩ := me0
    exact ⟨_, e, t, rfl⟩
  refine D.F.ok scFp (fun vs H Q E h => ?_) (fun cdv A outer s H vs Q E hr h => ?_)
  · obtain ⟨v, fs, rfl, _⟩ := h
    rfl
  · obtain ⟨v, fs, rfl, ⟨a, xs, rfl, ha, iF⟩, fl, l1, k⟩ := h
    have xl := iF.len
    refine ⟨_, (pss_cons (ps_if (pt_cmpR op_eq (pe_callB call_len_seq (by rfl) ml PySem.boot_len (pa_cons (pv 0) pa_nil)) pe_int (nomark _)) (pss_one (ps_ret (C8.pe_gc (by rfl) me))) pss_nil) (pss_one (ps_ret (pe_join pe_str (pe_lc (own := [("factor", 1)]) (g := gName 1) rfl scFp.nd (pi_tup (pv 0)) (blkOk_by (N := ["product", "factor"]) (sc := defScope sFormatProduct) (by decide +kernel)) (fun _ _ _ _ _ => pg_name (i := 1) scFp.nd rfl (Or.inl rfl)) (fun _ _ _ _ _ => pts_nil) (fun _ _ _ _ _ => (pe_call Gf hr (by rfl) Df0.g Df0.F.kp Df0.b .nil pass0 (pa_cons (pv 1) pa_nil)))))))), ?_⟩
    refine ⟨.ref a, rfl, a, xs, rfl, .inr ha, rfl, _, rfl, ?_⟩
    refine ite2 (fun e => ?_) (fun e => ?_)
    · have e' : fs = [] := by
        have := V.int.inj (of_decide_eq_true e)
        exact List.length_eq_zero_iff.mp (by omega)
      have q := k _ (Same.refl _)
      unfold pform at q
      rw [if_pos e'] at q
      exact q
    · have ne : fs ≠ [] := fun z => e (decide_eq_true (by rw [xl, z]; rfl))
      refine ⟨⟨_, rfl⟩, .ref a, rfl, a, rfl, ⟨_, ha⟩, fun L hL => ?_⟩
      have sL := same_upd (o := .lst []) hL
      refine lc_it (walk_tup (xs := xs)) (fun i H' => H' L = some (.lst (((fs.take i).map fform).map V.str)) ∧ Same H H') ⟨upd_same, sL⟩ (fun _ _ _ ⟨_, sm⟩ => same_tup sm _ _ ha) ?_ ?_
      · rintro i x G G' hi ⟨gL, sm⟩ ⟨rfl, hx⟩
        obtain ⟨f, hf, isf⟩ := iF.get i x hx
        refine ⟨rfl, yes ?_⟩
        refine ⟨x, rfl, x, f, rfl, isf.mono (same_tup sm), fl f (List.mem_of_getElem? hf), ?_⟩
        refine ⟨_, gL, ?_, ?_, fun b o e => (upd_ne (ne_of_none e hL)).trans (sm _ _ e)⟩
        · rw [List.length_map, List.length_map, List.length_take, sizeLine_eq]
          omega
        · rw [upd_same, List.take_add_one, hf, List.map_append, List.map_append]
          rfl
      · rintro G ⟨gL, sm⟩
        rw [xl, List.take_length] at gL
        refine ⟨"", L, fs.map fform, rfl, rfl, .inl (SqL.of gL), ?_, ?_⟩
        · have bound : ∀ gs : List Fc, (∀ f ∈ gs, (ls f).length ≤ 1000) → (((gs.map fform).map (·.length)).sum ≤ 1003 * gs.length) := by
            intro gs
            induction gs with
            | nil => intro _; exact Nat.le_refl _
            | cons g gs ih =>
              intro hg
              have h1 := fform_len (hg g List.mem_cons_self)
              have h2 := ih fun f hf => hg f (List.mem_cons_of_mem _ hf)
              simp only [List.map_cons, List.sum_cons, List.length_cons]
              omega
          have := bound fs fl
          have e0 : ("" : Str).length = 0 := rfl
          rw [e0, Nat.mul_zero]
          omega
        · have q := k _ sm
          unfold pform at q
          rw [if_neg ne] at q
          exact q
/-! ### is_inside -/
inductive IsL (K : PySem.W.Frag) (H : Hp) : List V → List (List Fc) → Prop where
  | nil : IsL K H [] []
  | cons {v : V} {f : List Fc} {vs : List V} {fs : List (List Fc)} (h : IsP K H v f) (r : IsL K H vs fs) : IsL K H (v :: vs) (f :: fs)
theorem IsL.mono {H H' : Hp} (m : ∀ b xs, SqT K H b xs → SqT K H' b xs) : ∀ {vs : List V} {fs : List (List Fc)}, IsL K H vs fs → IsL K H' vs fs
  | _, _, .nil => .nil
  | _, _, .cons a r => .cons (a.mono m) (r.mono m)
theorem IsL.len {H : Hp} : ∀ {vs : List V} {fs : List (List Fc)}, IsL K H vs fs → vs.length = fs.length
  | _, _, .nil => rfl
  | _, _, .cons _ r => by rw [List.length_cons, List.length_cons, r.len]
theorem IsL.get {H : Hp} : ∀ {vs : List V} {fs : List (List Fc)}, IsL K H vs fs → ∀ (i : Nat) (v : V), vs[i]? = some v → ∃ f, fs[i]? = some f ∧ IsP K H v f
  | _, _, .nil, i, v, h => by simp at h
  | _, _, .cons a r, 0, v, h => by
    have e := Option.some.inj h
    subst e
    exact ⟨_, rfl, a⟩
  | _, _, .cons a r, i + 1, v, h => r.get i v h
theorem IsL.app {H : Hp} : ∀ {vs us : List V} {fs gs : List (List Fc)}, IsL K H vs fs → IsL K H us gs → IsL K H (vs ++ us) (fs ++ gs)
  | _, _, _, _, .nil, h => h
  | _, _, _, _, .cons a r, h => .cons a (r.app h)
def spIn (K : PySem.W.Frag) : Sp := fun vs H Q _ => ∃ (v : V) (a : Addr) (p : List Fc) (xs : List V) (qs : List (List Fc)), vs = [v, .ref a] ∧ IsP K H v p ∧ SqL K H a xs ∧ IsL K H xs qs ∧ (∀ f ∈ p, Low f) ∧ (∀ q ∈ qs, ∀ g ∈ q, Low g) ∧ ∀ H', Same H H' → Q (.bl (qs.any fun q => inc q p)) H'
theorem same_lst {H H' : Hp} {a : Addr} {xs : List V} (s : Same H H') (h : SqL K H a xs) : SqL K H' a xs := by
  rcases h with (h | ⟨o, h⟩) | h
  · exact .inl (.inl (s _ _ h))
  · exact .inl (.inr ⟨o, s _ _ h⟩)
  · exact .inr h
theorem scIn : FnScope ["product", "products", "other"] ["product", "products"] (defScope sIsInside) := ⟨rfl, rfl, rfl, by decide +kernel, rfl, by decide +kernel, by decide +kernel⟩
theorem ok_in (D : Df K mg "is_inside" sIsInside ["product", "products"]) (Di : DfIncl K mg) (ma : mg "all" = none) (ml : mg "len" = none) : FnOk P w K mg base CX0 5 D.f D.fd ["product", "products"] (spIn K) := by
  have Gi : FnOk P w K mg base CX0 4 Di.i.f Di.i.fd ["product", "other"] (spIncl K) := ok_incl Di ma ml
  refine D.F.ok scIn (fun vs H Q E h => ?_) (fun cdv A outer s H vs Q E hr h => ?_)
  · obtain ⟨v, a, p, xs, qs, rfl, _⟩ := h
    rfl
  · obtain ⟨v, a, p, xs, qs, rfl, isp, ha, iL, lp, lq, k⟩ := h
    have xl := iL.len
    refine ⟨_, PSs.nox (pss_cons (ps_for PassesOwn.never rfl (pi_list (pv 1)) (pg_name (i := 2) scIn.nd rfl (.inl rfl)) (pss_one (ps_if (pt_val (pe_call Gi hr (by rfl) Di.i.g Di.i.F.kp Di.i.b .nil pass0 (pa_cons (pv 0) (pa_cons (pv 2) pa_nil)))) (pss_one (ps_ret pe_bl)) pss_nil))) (pss_one (ps_ret pe_bl))), ?_⟩
    refine ⟨.ref a, rfl, a, rfl, ⟨xs, ha⟩, for_it (walk_list (xs := xs)) (fun i σ H' => ∃ y2 : Option V, σ = [some v, some (.ref a), y2] ∧ Same H H' ∧ ((qs.take i).any fun q => inc q p) = false) ⟨_, rfl, Same.refl _, rfl⟩ (fun _ _ _ _ ⟨_, _, sm, _⟩ => same_lst sm ha) ?_ ?_⟩
    · rintro i x σ G G' hi ⟨y2, rfl, sm, no⟩ ⟨rfl, hx⟩
      obtain ⟨q, hq, isq⟩ := iL.get i x hx
      have qm : q ∈ qs := List.mem_of_getElem? hq
      refine ⟨v, rfl, x, rfl, v, x, p, q, rfl, isp.mono (same_tup sm), isq.mono (same_tup sm), lp, lq q qm, fun H2 s2 => ⟨_, rfl, ite2 (fun e => ?_) (fun e => ?_)⟩⟩
      · have e2 : (qs.any fun q => inc q p) = true := List.any_eq_true.mpr ⟨q, qm, e⟩
        show Q (.bl true) _
        rw [← e2]
        exact k _ (sm.trans s2)
      · refine ⟨_, rfl, sm.trans s2, ?_⟩
        rw [List.take_add_one, hq, List.any_append, no]
        simpa using e
    · rintro σ G ⟨y2, rfl, sm, no⟩
      rw [xl, List.take_length] at no
      show Q (.bl false) _
      rw [← no]
      exact k _ sm
/-! ### by_written_form -/
theorem scBw : FnScope ["products"] ["products"] (defScope sByWrittenForm) := ⟨rfl, rfl, rfl, by decide +kernel, rfl, by decide +kernel, by decide +kernel⟩
/-- what a value's product is written as -/
def spBw (K : PySem.W.Frag) : Sp := fun vs H Q _ => ∃ (a : Addr) (xs : List V) (qs : List (List Fc)), vs = [.ref a] ∧ SqL K H a xs ∧ IsL K H xs qs ∧ (∀ q ∈ qs, (∀ f ∈ q, (ls f).length ≤ 1000) ∧ q.length ≤ 10000) ∧
  ∀ H' p ys zs, Same H H' → H p = none → H' p = some (.lst ys) → IsL K H' ys zs → zs = qs.mergeSort (fun x y => decide (tl (pform x) ≤ tl (pform y))) → Q (.ref p) H'
/-- lists that belong together stay so when both are sorted -/
theorem IsL.sorted {H : Hp} {g : V → Str} {xs : List V} {qs : List (List Fc)} (h : IsL K H xs qs) (hg : ∀ (i : Nat) (v : V) (q : List Fc), xs[i]? = some v → qs[i]? = some q → g v = pform q) : IsL K H (xs.mergeSort (SK.leG g)) (qs.mergeSort fun x y => decide (tl (pform x) ≤ tl (pform y))) := by
  have xl := h.len
  let zs := xs.zip qs
  have e1 : zs.map Prod.fst = xs := List.map_fst_zip (by omega)
  have e2 : zs.map Prod.snd = qs := List.map_snd_zip (by omega)
  have mem : ∀ z ∈ zs, IsP K H z.1 z.2 ∧ g z.1 = pform z.2 := by
    intro z hz
    obtain ⟨i, hi⟩ := List.getElem?_of_mem hz
    obtain ⟨h1, h2⟩ := List.getElem?_zip_eq_some.mp hi
    obtain ⟨f, hf, isf⟩ := h.get i _ h1
    rw [h2] at hf
    cases hf
    exact ⟨isf, hg i _ _ h1 h2⟩
  let le : V × List Fc → V × List Fc → Bool := fun x y => decide (tl (pform x.2) ≤ tl (pform y.2))
  have m1 : (zs.mergeSort le).map Prod.fst = xs.mergeSort (SK.leG g) := by
    rw [List.map_mergeSort (r := le) (s := SK.leG g) (f := Prod.fst) (fun a ha b hb => ?_), e1]
    unfold SK.leG
    rw [PySem.W.dataLe_str]
    show decide (tl (pform a.2) ≤ tl (pform b.2)) = decide (tl (g a.1) ≤ tl (g b.1))
    rw [(mem a ha).2, (mem b hb).2]
  have m2 : (zs.mergeSort le).map Prod.snd = qs.mergeSort fun x y => decide (tl (pform x) ≤ tl (pform y)) := by
    rw [List.map_mergeSort (r := le) (s := fun x y => decide (tl (pform x) ≤ tl (pform y))) (f := Prod.snd) (fun a ha b hb => rfl), e2]
  rw [← m1, ← m2]
  have all : ∀ l : List (V × List Fc), (∀ z ∈ l, IsP K H z.1 z.2) → IsL K H (l.map Prod.fst) (l.map Prod.snd) := by
    intro l
    induction l with
    | nil => intro _; exact .nil
    | cons z l ih => exact fun hl => .cons (hl z List.mem_cons_self) (ih fun y hy => hl y (List.mem_cons_of_mem _ hy))
  exact all _ fun z hz => (mem z ((List.mergeSort_perm zs le).mem_iff.mp hz)).1
open Classical in
theorem form_of {H : Hp} {xs : List V} {qs : List (List Fc)} (h : IsL K H xs qs) (inj : ∀ (v : V) (p q : List Fc), IsP K H v p → IsP K H v q → p = q) : ∃ g : V → Str, ∀ (i : Nat) (v : V) (q : List Fc), xs[i]? = some v → qs[i]? = some q → g v = pform q := by
  refine ⟨fun v => if c : ∃ q, IsP K H v q then pform c.choose else "", fun i v q hv hq => ?_⟩
  obtain ⟨f, hf, isf⟩ := h.get i v hv
  rw [hq] at hf
  cases hf
  have c : ∃ q, IsP K H v q := ⟨q, isf⟩
  show (if c : ∃ q, IsP K H v q then pform c.choose else "") = pform q
  rw [dif_pos c, inj v _ _ c.choose_spec isf]
end
end DW
/-! by_written_form, size_of_product -/
namespace DW
open PySem PySem.Spec PyProof.Rows L2 TL
set_option autoImplicit false
theorem isF_inj {K : PySem.W.Frag} {H : Hp} (ti : SK.TInj K H) {v : V} {f g : Fc} (a : IsF K H v f) (b : IsF K H v g) : f = g := by
  obtain ⟨x, rfl, hx⟩ := a
  obtain ⟨y, e, hy⟩ := b
  cases e
  have e := ti _ _ _ hx hy
  injection e with e1 e2
  injection e2 with e2 _
  have k1 := kd_inj (V.str.inj e1)
  have k2 := V.str.inj e2
  obtain ⟨f1, f2⟩ := f
  obtain ⟨g1, g2⟩ := g
  simp only at k1 k2
  rw [k1, k2]
theorem isFs_inj {K : PySem.W.Frag} {H : Hp} (ti : SK.TInj K H) : ∀ {vs : List V} {fs gs : List Fc}, IsFs K H vs fs → IsFs K H vs gs → fs = gs
  | _, _, _, .nil, h => by cases h; rfl
  | _, _, _, .cons a r, h => by
    cases h with
    | cons b q => rw [isF_inj ti a b, isFs_inj ti r q]
theorem isP_inj {K : PySem.W.Frag} {H : Hp} (ti : SK.TInj K H) (v : V) (p q : List Fc) (a : IsP K H v p) (b : IsP K H v q) : p = q := by
  obtain ⟨x, xs, rfl, hx, iF⟩ := a
  obtain ⟨y, ys, e, hy, iG⟩ := b
  cases e
  have e := ti _ _ _ hx hy
  subst e
  exact isFs_inj ti iF iG
section
variable {P : Program} {w : World} {K : PySem.W.Frag} {mg : Str → Option Value} {base : Heap}
structure DfBw (K : PySem.W.Frag) (mg : Str → Option Value) where
  b : Df K mg "by_written_form" sByWrittenForm ["products"]
  p : Df K mg "format_product" sFormatProduct ["product"]
  f : Df K mg "format_factor" sFormatFactor ["factor"]
  ml : mg "len" = none
  me : ∃ t, mg "EMPTY_FORM" = some (.str "-" t)
  ms : mg "sorted" = none
theorem ok_bw (D : DfBw K mg) : FnOk P w K mg base CX0 5 D.b.f D.b.fd ["products"] (spBw K) := by
  have Gp : FnOk P w K mg base CX0 2 D.p.f D.p.fd ["product"] (spFp K) := ok_fp D.p D.f D.ml D.me
  refine D.b.F.ok scBw (fun vs H Q E h => ?_) (fun cdv A outer s H vs Q E hr h => ?_)
  · obtain ⟨a, xs, qs, rfl, _⟩ := h
    rfl
  · obtain ⟨a, xs, qs, rfl, ha, iL, lq, k⟩ := h
    refine ⟨_, pss_one (ps_ret (SK.pe_sortedFn Gp hr D.p.b (by rfl) D.ms (by rfl) D.p.g (pa_cons (pv 0) pa_nil))), ?_⟩
    refine ⟨.ref a, rfl, fun ti => ?_⟩
    obtain ⟨g, hg⟩ := form_of iL (isP_inj ti)
    refine ⟨a, xs, g, rfl, ha, fun x hx H' sm => ?_, fun H2 p sm hn hp => ?_⟩
    · obtain ⟨i, hi⟩ := List.getElem?_of_mem hx
      obtain ⟨q, hq, isq⟩ := iL.get i x hi
      obtain ⟨l1, l2⟩ := lq q (List.mem_of_getElem? hq)
      exact ⟨x, q, rfl, isq.mono (same_tup sm), l1, l2, fun H2 s2 => ⟨by rw [hg i x q hi hq], s2⟩⟩
    · exact k H2 p _ _ sm hn hp ((iL.mono (same_tup sm)).sorted hg) rfl
/-! ### size_of_product -/
def szs (fs : List Fc) : List Int := fs.map fun f => if f.1 = true then ((ls f).length : Int) else 0
def sizeT (fs : List Fc) : List Int := [((szs fs).count 3 : Nat), ((szs fs).count 2 : Nat), ((szs fs).count 1 : Nat), ((szs fs).count 0 : Nat)]
def spSz (K : PySem.W.Frag) : Sp := fun vs H Q _ => ∃ (v : V) (fs : List Fc), vs = [v] ∧ IsP K H v fs ∧ (∀ f ∈ fs, (ls f).length ≤ 1000) ∧ fs.length ≤ 10000 ∧ ∀ H' p, Same H H' → H p = none → H' p = some (.tup ((sizeT fs).map V.int)) → Q (.ref p) H'
theorem scSz : FnScope ["product", "sizes", "kind", "letters", "size"] ["product"] (defScope sSizeOfProduct) := ⟨rfl, rfl, rfl, by decide +kernel, rfl, by decide +kernel, by decide +kernel⟩
theorem ok_sz (D : Df K mg "size_of_product" sSizeOfProduct ["product"]) (ml : mg "len" = none) (mt : mg "tuple" = none) (mr : mg "reversed" = none) (mg0 : mg "range" = none) (mm0 : ∃ t, mg "MOST_LETTERS" = some (.int 3 t)) : FnOk P w K mg base CX0 1 D.f D.fd ["product"] (spSz K) := by
  have mm : ∃ u, mg "MOST_LETTERS" = some u ∧ RelV (.int 3) u := by
    obtain ⟨t, e⟩ := mm0
    exact ⟨_, e, t, rfl⟩
  refine D.F.ok scSz (fun vs H Q E h => ?_) (fun cdv A outer s H vs Q E hr h => ?_)
  · obtain ⟨v, fs, rfl, _⟩ := h
    rfl
  · obtain ⟨v, fs, rfl, ⟨a, xs, rfl, ha, iF⟩, fl, l1, k⟩ := h
    have xl := iF.len
    have sz : ∀ y : Str, y.length = (tl y).length := fun y => (Array.length_toList).symm
    refine ⟨_, (pss_cons (ps_set (i := 1) scSz.nd rfl (.inr rfl) (pe_lc (own := [("kind", 2), ("letters", 3)]) (g := gTup K 2 (gCons (gName 2) (gCons (gName 3) gNil))) rfl scSz.nd (pi_tup (pv 0)) (blkOk_by (N := ["product", "sizes", "kind", "letters", "size"]) (sc := defScope sSizeOfProduct) (by decide +kernel)) (fun _ _ _ _ _ => (pg_tup rfl (pgs_cons (pg_name (i := 2) scSz.nd rfl (.inl rfl)) (pgs_cons (pg_name (i := 3) scSz.nd rfl (.inl rfl)) pgs_nil)))) (fun _ _ _ _ _ => pts_nil) (fun _ _ _ _ _ => (pe_ifExp (pt_cmpR op_eq (pv 2) pe_str (nomark _)) (pe_callB call_len_str (by rfl) ml PySem.boot_len (pa_cons (pv 3) pa_nil)) pe_int)))) (pss_one (ps_ret (pe_callTy call_tuple_of (by rfl) mt (by decide +kernel) (pa_cons (pe_lc (te := tBM K "list" (rCntI K) (tVar 1) (tCons (tVar 4) tNil)) (own := [("size", 4)]) (g := gName 4) rfl scSz.nd (pi_revR (by rfl) mr (prg_1 (by rfl) mg0 (pe_op op_add (C8.pe_gc (by rfl) mm) pe_int))) (blkOk_by (N := ["product", "sizes", "kind", "letters", "size"]) (sc := defScope sSizeOfProduct) (by decide +kernel)) (fun _ _ _ _ _ => pg_name (i := 4) scSz.nd rfl (Or.inl rfl)) (fun _ _ _ _ _ => pts_nil) (fun _ _ _ _ _ => (pe_bm PySem.F.plainAttrs_list PySem.F.slot_list_count PySem.F.type_list_count mt_lcount (pv 1) (pa_cons (pv 4) pa_nil)))) pa_nil))))), ?_⟩
    refine ⟨.ref a, rfl, a, rfl, ⟨xs, ha⟩, fun L hL => ?_⟩
    have sL := same_upd (o := .lst []) hL
    refine lc_it (walk_tup (xs := xs)) (fun i H' => H' L = some (.lst ((szs (fs.take i)).map V.int)) ∧ Same H H') ⟨upd_same, sL⟩ (fun _ _ _ ⟨_, sm⟩ => same_tup sm _ _ ha) ?_ ?_
    · rintro i x G G' hi ⟨gL, sm⟩ ⟨rfl, hx⟩
      obtain ⟨f, hf, b, rfl, hb⟩ := iF.get i x hx
      have f1 : (tl f.2).length ≤ 1000 := fl f (List.mem_of_getElem? hf)
      refine ⟨b, _, rfl, same_tup sm _ _ hb, rfl, _, _, rfl, _, _, rfl, rfl, rfl, yes ?_⟩
      have tk : szs (fs.take (i + 1)) = szs (fs.take i) ++ [if f.1 = true then ((ls f).length : Int) else 0] := by
        unfold szs
        rw [List.take_add_one, hf, List.map_append]
        rfl
      have size1 : ((szs (fs.take i)).map V.int).length < sizeLine := by
        unfold szs
        rw [List.length_map, List.length_map, List.length_take, sizeLine_eq]
        omega
      refine ⟨_, rfl, rfl, _, rfl, ?_⟩
      rw [kd_star]
      cases q : f.1 with
      | true =>
        refine iteT ⟨_, rfl, f.2, rfl, by rw [sz, sizeLine_eq]; omega, _, gL, size1, ?_, fun b o e => (upd_ne (ne_of_none e hL)).trans (sm _ _ e)⟩
        rw [upd_same, tk, q, if_pos rfl, List.map_append, sz]
        rfl
      | false =>
        refine iteF ⟨_, gL, size1, ?_, fun b o e => (upd_ne (ne_of_none e hL)).trans (sm _ _ e)⟩
        rw [upd_same, tk, q, if_neg (by simp), List.map_append]
        rfl
    · rintro G ⟨gL, sm⟩
      rw [xl, List.take_length] at gL
      refine ⟨3, 1, rfl, rfl, 4, rfl, by decide, by decide, by decide, by decide, fun M hM => ?_⟩
      have sM := same_upd (o := .lst []) hM
      have gLM := sM _ _ gL
      have c4 : ∀ (i : Nat), i < 4 → ((((szs fs).count ((3 : Int) + (i : Nat) * (-1)) : Nat) : Int)) = ((sizeT fs)[i]?).getD 0 := by
        intro i hi
        match i, hi with
        | 0, _ => rfl
        | 1, _ => rfl
        | 2, _ => rfl
        | 3, _ => rfl
      refine lc_it walk_rangeC (fun i H' => H' M = some (.lst (((sizeT fs).take i).map V.int)) ∧ H' L = some (.lst ((szs fs).map V.int)) ∧ Same H H') ⟨upd_same, gLM, sm.trans sM⟩ (fun _ _ _ _ => trivial) ?_ ?_
      · rintro i x G1 G2 hi ⟨gM, gL2, sm2⟩ ⟨rfl, rfl⟩
        have hi' : i < 4 := hi
        refine ⟨rfl, yes ?_⟩
        refine ⟨_, rfl, .inl ⟨rfl, _, SqL.of gL2⟩, _, rfl, L, szs fs, _, rfl, rfl, SqL.of gL2, _, gM, ?_, ?_, ?_, ?_⟩
        · rw [List.length_map, List.length_take, sizeLine_eq]
          omega
        · rw [upd_same]
          have e := c4 i hi'
          have e2 : (sizeT fs)[i]? = some (((sizeT fs)[i]?).getD 0) := by
            match i, hi' with
            | 0, _ => rfl
            | 1, _ => rfl
            | 2, _ => rfl
            | 3, _ => rfl
          rw [List.take_add_one, e2, List.map_append, ← e]
          rfl
        · rw [upd_ne (ne_of_none gL hM)]
          exact gL2
        · exact fun b o e => (upd_ne (ne_of_none (sm _ _ e) hM)).trans (sm2 _ _ e)
      · rintro G1 ⟨gM, gL2, sm2⟩
        refine ⟨M, _, rfl, .inl ⟨SqL.of gM, fun p hp => ?_⟩⟩
        have sp := same_upd (o := .tup (((sizeT fs).take 4).map V.int)) hp
        refine k _ p (sm2.trans sp) (sm2.free hp) upd_same
end
end DW
/-! maximal_products -/
namespace DW
open PySem PySem.Spec PyProof.Rows L2 TL
set_option autoImplicit false
open ND (Ent DO KOks NK NKs valN putN setN keyVs)
/-! ### keys -/
def facKey (f : Fc) : NestedKey := .tup [.text (kd f.1), .text f.2]
def prodKey (fs : List Fc) : NestedKey := .tup (fs.map facKey)
def numKey (ns : List Int) : NestedKey := .tup (ns.map NestedKey.num)
theorem facKey_inj {f g : Fc} (h : facKey f = facKey g) : f = g := by
  unfold facKey at h
  injection h with h
  injection h with h1 h2
  injection h1 with h1
  injection h2 with h2 _
  injection h2 with h2
  have k := kd_inj h1
  obtain ⟨a, b⟩ := f
  obtain ⟨c, d⟩ := g
  simp only at k h2
  rw [k, h2]
theorem prodKey_inj : ∀ {p q : List Fc}, prodKey p = prodKey q → p = q := by
  intro p q h
  unfold prodKey at h
  injection h with h
  exact (List.map_inj_right (f := facKey) fun a b e => facKey_inj e).mp h
theorem num_inj {a b : Int} (h : NestedKey.num a = NestedKey.num b) : a = b := by injection h
theorem numKey_inj {p q : List Int} (h : numKey p = numKey q) : p = q := by
  unfold numKey at h
  injection h with h
  exact (List.map_inj_right (f := NestedKey.num) fun a b e => num_inj e).mp h
theorem isF_nk {K : PySem.W.Frag} {H : Hp} {v : V} {f : Fc} (h : IsF K H v f) : NK K H (facKey f) v := by
  obtain ⟨a, rfl, q⟩ := h
  exact .tup q (.cons (.text _) (.cons (.text _) .nil))
theorem isFs_nk {K : PySem.W.Frag} {H : Hp} : ∀ {vs : List V} {fs : List Fc}, IsFs K H vs fs → NKs K H (fs.map facKey) vs
  | _, _, .nil => .nil
  | _, _, .cons a r => .cons (isF_nk a) (isFs_nk r)
theorem isP_nk {K : PySem.W.Frag} {H : Hp} {v : V} {fs : List Fc} (h : IsP K H v fs) : NK K H (prodKey fs) v := by
  obtain ⟨a, xs, rfl, q, r⟩ := h
  exact .tup q (isFs_nk r)
theorem nums_nk {K : PySem.W.Frag} {H : Hp} : ∀ ns : List Int, NKs K H (ns.map NestedKey.num) (ns.map V.int)
  | [] => .nil
  | n :: ns => .cons (.num n) (nums_nk ns)
theorem depth_fs : ∀ fs : List Fc, NestedKey.depthAll (fs.map facKey) ≤ 1
  | [] => by simp [NestedKey.depthAll]
  | f :: fs => by
    have := depth_fs fs
    simp only [List.map_cons, NestedKey.depthAll, facKey, NestedKey.depth]
    omega
theorem depth_prod (fs : List Fc) : (prodKey fs).depth ≤ 8 := by
  have := depth_fs fs
  simp only [prodKey, NestedKey.depth]
  omega
theorem depth_nums : ∀ ns : List Int, NestedKey.depthAll (ns.map NestedKey.num) = 0
  | [] => by simp [NestedKey.depthAll]
  | n :: ns => by
    have := depth_nums ns
    simp only [List.map_cons, NestedKey.depthAll, NestedKey.depth, this]
    rfl
theorem depth_num (ns : List Int) : (numKey ns).depth ≤ 8 := by
  simp only [numKey, NestedKey.depth, depth_nums]
  omega
/-! ### groups -/
abbrev Gp : Type := List Int × List (List Fc)
structure Grp (ps : List (List Fc)) (Gs : List Gp) : Prop where
  mem : ∀ r, (∃ g ∈ Gs, r ∈ g.2) ↔ ∃ p ∈ ps, r = red p
  key : ∀ g ∈ Gs, ∀ r ∈ g.2, sizeT r = g.1
  nd : ∀ g ∈ Gs, g.2.Nodup
  kn : (Gs.map (·.1)).Nodup
def addR (rs : List (List Fc)) (r : List Fc) : List (List Fc) := if r ∈ rs then rs else rs ++ [r]
theorem addR_mem {rs : List (List Fc)} {r x : List Fc} : x ∈ addR rs r ↔ x ∈ rs ∨ x = r := by
  unfold addR
  split
  · rename_i h
    exact ⟨.inl, fun z => z.elim id fun e => by rw [e]; exact h⟩
  · simp
theorem addR_nd {rs : List (List Fc)} {r : List Fc} (h : rs.Nodup) : (addR rs r).Nodup := by
  unfold addR
  split
  · exact h
  · rename_i n
    exact List.nodup_append.mpr ⟨h, by simp, fun a ha b hb e => n (by rw [List.mem_singleton.mp hb] at e; rw [← e]; exact ha)⟩
theorem grp_old {ps : List (List Fc)} {Gs : List Gp} {p : List Fc} {j : Nat} {g : Gp} (G : Grp ps Gs) (hj : Gs[j]? = some g) (hk : sizeT (red p) = g.1) : Grp (ps ++ [p]) (Gs.set j (g.1, addR g.2 (red p))) := by
  have jl := (List.getElem?_eq_some_iff.mp hj).1
  have gm : g ∈ Gs := List.mem_of_getElem? hj
  have mset : ∀ x ∈ Gs.set j (g.1, addR g.2 (red p)), x ∈ Gs ∨ x = (g.1, addR g.2 (red p)) := fun x hx => List.mem_or_eq_of_mem_set hx
  have mnew : (g.1, addR g.2 (red p)) ∈ Gs.set j (g.1, addR g.2 (red p)) := List.mem_set jl _
  refine ⟨fun r => ⟨?_, ?_⟩, fun x hx r hr => ?_, fun x hx => ?_, ?_⟩
  · rintro ⟨x, hx, hr⟩
    rcases mset x hx with e | e
    · obtain ⟨p', h1, h2⟩ := (G.mem r).mp ⟨x, e, hr⟩
      exact ⟨p', List.mem_append_left _ h1, h2⟩
    · rw [e] at hr
      rcases addR_mem.mp hr with q | q
      · obtain ⟨p', h1, h2⟩ := (G.mem r).mp ⟨g, gm, q⟩
        exact ⟨p', List.mem_append_left _ h1, h2⟩
      · exact ⟨p, by simp, q⟩
  · rintro ⟨p', h1, h2⟩
    rcases List.mem_append.mp h1 with q | q
    · obtain ⟨x, hx, hr⟩ := (G.mem r).mpr ⟨p', q, h2⟩
      obtain ⟨i, hi⟩ := List.getElem?_of_mem hx
      by_cases e : i = j
      · rw [e, hj] at hi
        cases hi
        exact ⟨_, mnew, addR_mem.mpr (.inl hr)⟩
      · refine ⟨x, List.mem_of_getElem? (i := i) ?_, hr⟩
        rw [List.getElem?_set_ne (Ne.symm e)]
        exact hi
    · rw [List.mem_singleton.mp q] at h2
      exact ⟨_, mnew, addR_mem.mpr (.inr h2)⟩
  · rcases mset x hx with e | e
    · exact G.key x e r hr
    · rw [e] at hr ⊢
      rcases addR_mem.mp hr with q | q
      · exact G.key g gm r q
      · rw [q]
        exact hk
  · rcases mset x hx with e | e
    · exact G.nd x e
    · rw [e]
      exact addR_nd (G.nd g gm)
  · have e : (Gs.set j (g.1, addR g.2 (red p))).map (·.1) = Gs.map (·.1) := by
      rw [List.map_set]
      refine List.ext_getElem? fun n => ?_
      by_cases q : j = n
      · rw [← q, List.getElem?_set_self (by rw [List.length_map]; exact jl), List.getElem?_map, hj]
        rfl
      · rw [List.getElem?_set_ne q]
    rw [e]
    exact G.kn
theorem grp_new {ps : List (List Fc)} {Gs : List Gp} {p : List Fc} (G : Grp ps Gs) (hk : ∀ g ∈ Gs, g.1 ≠ sizeT (red p)) : Grp (ps ++ [p]) (Gs ++ [(sizeT (red p), [red p])]) := by
  refine ⟨fun r => ⟨?_, ?_⟩, fun x hx r hr => ?_, fun x hx => ?_, ?_⟩
  · rintro ⟨x, hx, hr⟩
    rcases List.mem_append.mp hx with e | e
    · obtain ⟨p', h1, h2⟩ := (G.mem r).mp ⟨x, e, hr⟩
      exact ⟨p', List.mem_append_left _ h1, h2⟩
    · rw [List.mem_singleton.mp e] at hr
      exact ⟨p, by simp, List.mem_singleton.mp hr⟩
  · rintro ⟨p', h1, h2⟩
    rcases List.mem_append.mp h1 with q | q
    · obtain ⟨x, hx, hr⟩ := (G.mem r).mpr ⟨p', q, h2⟩
      exact ⟨x, List.mem_append_left _ hx, hr⟩
    · rw [List.mem_singleton.mp q] at h2
      exact ⟨(sizeT (red p), [red p]), by simp, by rw [h2]; simp⟩
  · rcases List.mem_append.mp hx with e | e
    · exact G.key x e r hr
    · rw [List.mem_singleton.mp e] at hr ⊢
      rw [List.mem_singleton.mp hr]
  · rcases List.mem_append.mp hx with e | e
    · exact G.nd x e
    · rw [List.mem_singleton.mp e]
      simp
  · rw [List.map_append]
    refine List.nodup_append.mpr ⟨G.kn, by simp, fun a ha b hb e => ?_⟩
    obtain ⟨g, hg, rfl⟩ := List.mem_map.mp ha
    rw [List.map_singleton] at hb
    rw [List.mem_singleton.mp hb] at e
    exact hk g hg e
/-- the products that are kept, group by group -/
def keepG (M : List (List Fc)) (g : Gp) : List (List Fc) := M ++ g.2.filter fun r => !(M.any fun m => inc m r)
def pickM (Gs : List Gp) : List (List Fc) := Gs.foldl keepG []
def leK (a b : Gp) : Bool := PySem.W.dataLe true (fun g : Gp => (numKey g.1).data) a b
/-! ### the dicts -/
structure RW (K : PySem.W.Frag) (H : Hp) (rows : List Ent) (rs : List (List Fc)) : Prop where
  keys : rows.map (·.1) = rs.map prodKey
  isp : ∀ (i : Nat) (e : Ent) (r : List Fc), rows[i]? = some e → rs[i]? = some r → IsP K H (.ref e.2.1) r
theorem RW.len {K : PySem.W.Frag} {H : Hp} {rows : List Ent} {rs : List (List Fc)} (h : RW K H rows rs) : rows.length = rs.length := by
  have e := congrArg List.length h.keys
  rw [List.length_map, List.length_map] at e
  exact e
theorem RW.mono {K : PySem.W.Frag} {H H' : Hp} {rows : List Ent} {rs : List (List Fc)} (m : ∀ b xs, SqT K H b xs → SqT K H' b xs) (h : RW K H rows rs) : RW K H' rows rs := ⟨h.keys, fun i e r h1 h2 => (h.isp i e r h1 h2).mono m⟩
theorem RW.key {K : PySem.W.Frag} {H : Hp} {rows : List Ent} {rs : List (List Fc)} (h : RW K H rows rs) {i : Nat} {e : Ent} (he : rows[i]? = some e) : ∃ r, rs[i]? = some r ∧ e.1 = prodKey r := by
  have il := (List.getElem?_eq_some_iff.mp he).1
  have hl := h.len
  refine ⟨rs[i], List.getElem?_eq_getElem (by omega), ?_⟩
  have k1 : (rows.map (·.1))[i]? = some e.1 := by rw [List.getElem?_map, he]; rfl
  rw [h.keys, List.getElem?_map, List.getElem?_eq_getElem (by omega)] at k1
  exact (Option.some.inj k1).symm
theorem RW.oks {K : PySem.W.Frag} {H : Hp} {rows : List Ent} {rs : List (List Fc)} (h : RW K H rows rs) : KOks K H rows := fun e he => by
  obtain ⟨i, hi⟩ := List.getElem?_of_mem he
  obtain ⟨r, hr, ek⟩ := h.key hi
  rw [ek]
  exact ⟨isP_nk (h.isp i e r hi hr), depth_prod r⟩
theorem valN_none {kvs : List Ent} {k : NestedKey} (h : valN kvs k = none) : ∀ e ∈ kvs, e.1 ≠ k := fun e he z => by
  unfold valN at h
  rw [Option.map_eq_none_iff, List.find?_eq_none] at h
  exact h e he (decide_eq_true z)
theorem valN_some {kvs : List Ent} {k : NestedKey} {v : V} (h : valN kvs k = some v) : ∃ (j : Nat) (e : Ent), kvs[j]? = some e ∧ e.1 = k ∧ v = e.2.2 := by
  unfold valN at h
  obtain ⟨e, he, rfl⟩ := Option.map_eq_some_iff.mp h
  obtain ⟨j, hj⟩ := List.getElem?_of_mem (List.mem_of_find?_eq_some he)
  have hp := List.find?_some (p := fun p : Ent => decide (p.1 = k)) he
  exact ⟨j, e, hj, of_decide_eq_true hp, rfl⟩
theorem valN_get {kvs : List Ent} (nd : (kvs.map (·.1)).Nodup) {j : Nat} {e : Ent} (h : kvs[j]? = some e) : valN kvs e.1 = some e.2.2 := by
  cases q : valN kvs e.1 with
  | none => exact absurd rfl (valN_none q e (List.mem_of_getElem? h))
  | some v =>
    obtain ⟨i, e', hi, ek, ev⟩ := valN_some q
    have k1 : (kvs.map (·.1))[i]? = some e.1 := by rw [List.getElem?_map, hi, ← ek]; rfl
    have k2 : (kvs.map (·.1))[j]? = some e.1 := by rw [List.getElem?_map, h]; rfl
    have ij : i = j := (List.getElem?_inj (List.getElem?_eq_some_iff.mp k1).1 nd).mp (k1.trans k2.symm)
    rw [ij, h] at hi
    cases hi
    rw [ev]
theorem RW.put {K : PySem.W.Frag} {H : Hp} {rows : List Ent} {rs : List (List Fc)} {r : List Fc} {b : Addr} (h : RW K H rows rs) (hb : IsP K H (.ref b) r) : RW K H (putN rows (prodKey r) b (.bl true)) (addR rs r) := by
  have hl := h.len
  unfold putN
  cases q : valN rows (prodKey r) with
  | none =>
    have nr : r ∉ rs := fun hr => by
      obtain ⟨i, hi⟩ := List.getElem?_of_mem hr
      have il := (List.getElem?_eq_some_iff.mp hi).1
      have he : rows[i]? = some (rows[i]'(by omega)) := List.getElem?_eq_getElem (by omega)
      obtain ⟨r', hr', ek⟩ := h.key he
      rw [hi] at hr'
      cases hr'
      exact valN_none q _ (List.mem_of_getElem? he) ek
    rw [if_neg (by simp)]
    unfold addR
    rw [if_neg nr]
    refine ⟨by rw [List.map_append, List.map_append, h.keys]; rfl, fun i e x h1 h2 => ?_⟩
    by_cases c : i < rows.length
    · rw [List.getElem?_append_left c] at h1
      rw [List.getElem?_append_left (by omega)] at h2
      exact h.isp i e x h1 h2
    · rw [List.getElem?_append_right (by omega)] at h1
      rw [List.getElem?_append_right (by omega), ← hl] at h2
      generalize i - rows.length = m at h1 h2
      match m, h1, h2 with
      | 0, h1, h2 =>
        cases h1
        cases h2
        exact hb
      | m + 1, h1, _ => simp at h1
  | some v =>
    obtain ⟨i, e, hi, ek, _⟩ := valN_some q
    obtain ⟨r', hr', ek'⟩ := h.key hi
    have rr : r = r' := prodKey_inj (ek.symm.trans ek')
    rw [if_pos (show (some v).isSome = true from rfl)]
    unfold addR
    rw [if_pos (by rw [rr]; exact List.mem_of_getElem? hr')]
    have fst : ∀ e : Ent, (setN (prodKey r) (.bl true) e).1 = e.1 ∧ (setN (prodKey r) (.bl true) e).2.1 = e.2.1 := fun e => by
      unfold setN
      split <;> exact ⟨rfl, rfl⟩
    refine ⟨?_, fun n x y h1 h2 => ?_⟩
    · rw [List.map_map, ← h.keys]
      exact List.map_congr_left fun e _ => (fst e).1
    · rw [List.getElem?_map] at h1
      obtain ⟨x0, hx0, rfl⟩ := Option.map_eq_some_iff.mp h1
      rw [(fst x0).2]
      exact h.isp n x0 y hx0 h2
theorem RW.isl {K : PySem.W.Frag} {H : Hp} : ∀ {rows : List Ent} {rs : List (List Fc)}, RW K H rows rs → IsL K H (keyVs rows) rs
  | [], [], _ => .nil
  | [], _ :: _, h => by have := h.len; cases this
  | _ :: _, [], h => by have := h.len; cases this
  | e :: rows, r :: rs, h => by
    refine .cons (h.isp 0 e r rfl rfl) (RW.isl ⟨?_, fun i x y h1 h2 => h.isp (i + 1) x y h1 h2⟩)
    have := h.keys
    rw [List.map_cons, List.map_cons] at this
    exact (List.cons.inj this).2
/-- the dict of groups -/
structure EG (P : Program) (w : World) (K : PySem.W.Frag) (H : Hp) (e : Ent) (g : Gp) : Prop where
  key : e.1 = numKey g.1
  tup : SqT K H e.2.1 (g.1.map V.int)
  dic : ∃ (Di : Addr) (rows : List Ent), e.2.2 = .ref Di ∧ H Di = some (DO P w Di rows) ∧ RW K H rows g.2
structure GD (P : Program) (w : World) (K : PySem.W.Frag) (H0 H : Hp) (D0 : Addr) (kvs : List Ent) (Gs : List Gp) : Prop where
  at0 : H D0 = some (DO P w D0 kvs)
  new0 : H0 D0 = none
  len : kvs.length = Gs.length
  eg : ∀ (i : Nat) (e : Ent) (g : Gp), kvs[i]? = some e → Gs[i]? = some g → EG P w K H e g
  dn : ∀ (i j : Nat) (e e' : Ent), kvs[i]? = some e → kvs[j]? = some e' → i ≠ j → e.2.2 ≠ e'.2.2
  nw : ∀ e ∈ kvs, ∃ Di, e.2.2 = .ref Di ∧ H0 Di = none ∧ Di ≠ D0
theorem GD.gp {P : Program} {w : World} {K : PySem.W.Frag} {H0 H : Hp} {D0 : Addr} {kvs : List Ent} {Gs : List Gp} (G : GD P w K H0 H D0 kvs Gs) {i : Nat} {e : Ent} (he : kvs[i]? = some e) : ∃ g, Gs[i]? = some g ∧ EG P w K H e g := by
  have il := (List.getElem?_eq_some_iff.mp he).1
  have hl := G.len
  have hg : Gs[i]? = some (Gs[i]'(by omega)) := List.getElem?_eq_getElem (by omega)
  exact ⟨_, hg, G.eg i e _ he hg⟩
theorem GD.oks {P : Program} {w : World} {K : PySem.W.Frag} {H0 H : Hp} {D0 : Addr} {kvs : List Ent} {Gs : List Gp} (G : GD P w K H0 H D0 kvs Gs) : KOks K H kvs := fun e he => by
  obtain ⟨i, hi⟩ := List.getElem?_of_mem he
  obtain ⟨g, _, q⟩ := G.gp hi
  rw [q.key]
  exact ⟨.tup q.tup (nums_nk _), depth_num _⟩
theorem GD.keys {P : Program} {w : World} {K : PySem.W.Frag} {H0 H : Hp} {D0 : Addr} {kvs : List Ent} {Gs : List Gp} (G : GD P w K H0 H D0 kvs Gs) : kvs.map (·.1) = Gs.map fun g => numKey g.1 := by
  refine List.ext_getElem? fun n => ?_
  rw [List.getElem?_map, List.getElem?_map]
  have hl := G.len
  by_cases c : n < kvs.length
  · have h1 : kvs[n]? = some kvs[n] := List.getElem?_eq_getElem c
    obtain ⟨g, hg, q⟩ := G.gp h1
    rw [h1, hg]
    exact congrArg some q.key
  · rw [List.getElem?_eq_none (by omega), List.getElem?_eq_none (by omega)]
    rfl
theorem GD.same {P : Program} {w : World} {K : PySem.W.Frag} {H0 H H' : Hp} {D0 : Addr} {kvs : List Ent} {Gs : List Gp} (G : GD P w K H0 H D0 kvs Gs) (s : Same H H') : GD P w K H0 H' D0 kvs Gs := by
  refine ⟨s _ _ G.at0, G.new0, G.len, fun i e g h1 h2 => ?_, G.dn, G.nw⟩
  obtain ⟨k, t, Di, rows, e1, e2, e3⟩ := G.eg i e g h1 h2
  exact ⟨k, same_tup s _ _ t, Di, rows, e1, s _ _ e2, e3.mono (same_tup s)⟩
/-- a store at a dict leaves the tuples -/
theorem upd_do {P : Program} {w : World} {K : PySem.W.Frag} {H : Hp} {D : Addr} {kvs : List Ent} {o : HO} (hD : H D = some (DO P w D kvs)) (b : Addr) (xs : List V) (h : SqT K H b xs) : SqT K (upd H D o) b xs := by
  rcases h with (h | ⟨u, h⟩) | h
  · exact .inl (.inl ((upd_ne (ne_of h hD (by intro z; cases z))).trans h))
  · exact .inl (.inr ⟨u, (upd_ne (ne_of h hD (by intro z; cases z))).trans h⟩)
  · exact .inr h
end DW
/-! maximal_products: the code -/
namespace DW
open PySem PySem.Spec PyProof.Rows L2 TL
set_option autoImplicit false
open ND (Ent DO KOks NK NKs valN putN setN keyVs)
theorem u9 {k : Nat} {A : Around} (hr : Room k A) : A.units + 9 < cLine := by
  have := hr.units
  omega
section
variable {P : Program} {w : World} {K : PySem.W.Frag} {H0 H : Hp} {D0 : Addr} {kvs : List Ent} {Gs : List Gp}
theorem gd_old (G : GD P w K H0 H D0 kvs Gs) {j : Nat} {e : Ent} {g : Gp} {Dj b : Addr} {rows : List Ent} {r : List Fc} (he : kvs[j]? = some e) (hg : Gs[j]? = some g) (ev : e.2.2 = .ref Dj) (hD : H Dj = some (DO P w Dj rows)) (rw' : RW K H rows g.2) (hb : IsP K H (.ref b) r) :
    GD P w K H0 (upd H Dj (DO P w Dj (putN rows (prodKey r) b (.bl true)))) D0 kvs (Gs.set j (g.1, addR g.2 r)) := by
  have nj : Dj ≠ D0 := by
    obtain ⟨Di, e1, _, e3⟩ := G.nw e (List.mem_of_getElem? he)
    rw [ev] at e1
    cases e1
    exact e3
  have m := fun b xs h => upd_do (K := K) (o := DO P w Dj (putN rows (prodKey r) b (.bl true))) hD b xs h
  have jl := (List.getElem?_eq_some_iff.mp hg).1
  refine ⟨(upd_ne nj.symm).trans G.at0, G.new0, by rw [List.length_set]; exact G.len, fun i e' g' h1 h2 => ?_, G.dn, G.nw⟩
  by_cases q : j = i
  · subst q
    rw [he] at h1
    cases h1
    rw [List.getElem?_set_self jl] at h2
    cases h2
    have E := G.eg j e g he hg
    exact ⟨E.key, upd_do hD _ _ E.tup, Dj, _, ev, upd_same, (rw'.put hb).mono (fun b xs h => upd_do hD b xs h)⟩
  · rw [List.getElem?_set_ne q] at h2
    obtain ⟨k, t, Di, rows', e1, e2, e3⟩ := G.eg i e' g' h1 h2
    have ne : Di ≠ Dj := fun z => G.dn j i e e' he h1 q (by rw [ev, e1, z])
    exact ⟨k, upd_do hD _ _ t, Di, rows', e1, (upd_ne ne).trans e2, e3.mono (fun b xs h => upd_do hD b xs h)⟩
theorem gd_new (G : GD P w K H0 H D0 kvs Gs) {De ka b : Addr} {r : List Fc} {ns : List Int} (hDe : H De = some (DO P w De [])) (n0 : H0 De = none) (ne0 : De ≠ D0) (nei : ∀ e ∈ kvs, e.2.2 ≠ .ref De) (hka : SqT K H ka (ns.map V.int)) (hb : IsP K H (.ref b) r) :
    GD P w K H0 (upd (upd H D0 (DO P w D0 (kvs ++ [(numKey ns, ka, .ref De)]))) De (DO P w De (putN [] (prodKey r) b (.bl true)))) D0 (kvs ++ [(numKey ns, ka, .ref De)]) (Gs ++ [(ns, [r])]) := by
  have hDe1 : (upd H D0 (DO P w D0 (kvs ++ [(numKey ns, ka, .ref De)]))) De = some (DO P w De []) := (upd_ne ne0).trans hDe
  have m : ∀ c xs, SqT K H c xs → SqT K (upd (upd H D0 (DO P w D0 (kvs ++ [(numKey ns, ka, .ref De)]))) De (DO P w De (putN [] (prodKey r) b (.bl true)))) c xs := fun c xs h => upd_do hDe1 c xs (upd_do G.at0 c xs h)
  have hl := G.len
  refine ⟨(upd_ne ne0.symm).trans upd_same, G.new0, by rw [List.length_append, List.length_append, hl]; rfl, fun i e g h1 h2 => ?_, fun i j e e' h1 h2 ne => ?_, fun e he => ?_⟩
  · by_cases c : i < kvs.length
    · rw [List.getElem?_append_left c] at h1
      rw [List.getElem?_append_left (by omega)] at h2
      obtain ⟨k, t, Di, rows', e1, e2, e3⟩ := G.eg i e g h1 h2
      have nd : Di ≠ De := fun z => nei e (List.mem_of_getElem? h1) (by rw [e1, z])
      have n0' : Di ≠ D0 := by
        obtain ⟨Dx, x1, _, x3⟩ := G.nw e (List.mem_of_getElem? h1)
        rw [e1] at x1
        cases x1
        exact x3
      exact ⟨k, m _ _ t, Di, rows', e1, (upd_ne nd).trans ((upd_ne n0').trans e2), e3.mono m⟩
    · rw [List.getElem?_append_right (by omega)] at h1
      rw [List.getElem?_append_right (by omega), ← hl] at h2
      generalize i - kvs.length = n at h1 h2
      match n, h1, h2 with
      | 0, h1, h2 =>
        cases h1
        cases h2
        have r0 : RW K H [] [] := ⟨rfl, fun i e r h _ => by simp at h⟩
        exact ⟨rfl, m _ _ hka, De, _, rfl, upd_same, (r0.put hb).mono m⟩
      | n + 1, h1, _ => simp at h1
  · have last : ∀ (i : Nat) (e : Ent), (kvs ++ [(numKey ns, ka, V.ref De)])[i]? = some e → ¬ i < kvs.length → i = kvs.length ∧ e = (numKey ns, ka, .ref De) := by
      intro i e h c
      rw [List.getElem?_append_right (by omega)] at h
      generalize q : i - kvs.length = n at h
      match n, h with
      | 0, h => exact ⟨by omega, (Option.some.inj h).symm⟩
      | n + 1, h => simp at h
    by_cases c : i < kvs.length
    · by_cases d : j < kvs.length
      · rw [List.getElem?_append_left c] at h1
        rw [List.getElem?_append_left d] at h2
        exact G.dn i j e e' h1 h2 ne
      · obtain ⟨_, rfl⟩ := last j e' h2 d
        rw [List.getElem?_append_left c] at h1
        exact nei e (List.mem_of_getElem? h1)
    · obtain ⟨q1, rfl⟩ := last i e h1 c
      by_cases d : j < kvs.length
      · rw [List.getElem?_append_left d] at h2
        exact fun z => nei e' (List.mem_of_getElem? h2) z.symm
      · obtain ⟨q2, _⟩ := last j e' h2 d
        exact absurd (q1.trans q2.symm) ne
  · rcases List.mem_append.mp he with q | q
    · exact G.nw e q
    · rw [List.mem_singleton.mp q]
      exact ⟨De, rfl, n0, ne0⟩
theorem datas_nums : ∀ ns : List Int, NestedKey.datas (ns.map NestedKey.num) = ns.map PyData.int
  | [] => by simp [NestedKey.datas]
  | n :: ns => by
    rw [List.map_cons, List.map_cons, NestedKey.datas, datas_nums ns, NestedKey.data]
theorem data_num (ns : List Int) : (numKey ns).data = .tuple (ns.map PyData.int) := by
  unfold numKey
  rw [NestedKey.data, datas_nums]
theorem depth_ints : ∀ ns : List Int, PyData.depthAll (ns.map PyData.int) = 0
  | [] => by simp [PyData.depthAll]
  | n :: ns => by
    rw [List.map_cons, PyData.depthAll, depth_ints ns, PyData.depth]
    rfl
theorem upd_frz {K : PySem.W.Frag} {H : Hp} {D : Addr} {od : Obj} {u o : HO} (hD : H D = some (.frz od u)) (nt : ∀ xs, u ≠ .tup xs) (b : Addr) (xs : List V) (h : SqT K H b xs) : SqT K (upd H D o) b xs := by
  rcases h with (h | ⟨v, h⟩) | h
  · exact .inl (.inl ((upd_ne (ne_of h hD (by intro z; cases z))).trans h))
  · exact .inl (.inr ⟨v, (upd_ne (ne_of h hD (by intro z; injection z with _ z; exact nt _ z.symm))).trans h⟩)
  · exact .inr h
theorem gd_zip (G : GD P w K H0 H D0 kvs Gs) : ∃ Zs : List (Ent × Gp), kvs.mergeSort (PySem.W.dataLe true fun p : Ent => p.1.data) = Zs.map (·.1) ∧ Gs.mergeSort leK = Zs.map (·.2) ∧ Zs.length = kvs.length ∧ ∀ z ∈ Zs, ∃ i : Nat, kvs[i]? = some z.1 ∧ Gs[i]? = some z.2 := by
  have hl := G.len
  have mz : ∀ z ∈ kvs.zip Gs, ∃ i : Nat, kvs[i]? = some z.1 ∧ Gs[i]? = some z.2 := fun z hz => by
    obtain ⟨i, hi⟩ := List.getElem?_of_mem hz
    exact ⟨i, List.getElem?_zip_eq_some.mp hi⟩
  have kz : ∀ z ∈ kvs.zip Gs, z.1.1 = numKey z.2.1 := fun z hz => by
    obtain ⟨i, h1, h2⟩ := mz z hz
    exact (G.eg i _ _ h1 h2).key
  refine ⟨(kvs.zip Gs).mergeSort (fun a b => leK a.2 b.2), ?_, ?_, ?_, fun z hz => mz z (List.mem_mergeSort.mp hz)⟩
  · rw [List.map_mergeSort (s := PySem.W.dataLe true fun p : Ent => p.1.data) (f := fun z : Ent × Gp => z.1) fun a ha b hb => ?_]
    · rw [List.map_fst_zip (by omega)]
    · show PySem.W.dataLe true (fun g : Gp => (numKey g.1).data) a.2 b.2 = PySem.W.dataLe true (fun p : Ent => p.1.data) a.1 b.1
      rw [PySem.W.dataLe_eq, PySem.W.dataLe_eq]
      simp only [cond_true]
      rw [kz a ha, kz b hb]
  · rw [List.map_mergeSort (s := leK) (f := fun z : Ent × Gp => z.2) fun a ha b hb => rfl]
    rw [List.map_snd_zip (by omega)]
  · rw [List.length_mergeSort, List.length_zip]
    omega
theorem pick_sub : ∀ (l : List Gp) (M : List (List Fc)) (r : List Fc), r ∈ l.foldl keepG M → r ∈ M ∨ ∃ g ∈ l, r ∈ g.2
  | [], M, r, h => .inl h
  | g :: l, M, r, h => by
    rcases pick_sub l _ r h with q | ⟨g', h1, h2⟩
    · rcases List.mem_append.mp q with q | q
      · exact .inl q
      · exact .inr ⟨g, List.mem_cons_self, (List.mem_filter.mp q).1⟩
    · exact .inr ⟨g', List.mem_cons_of_mem _ h1, h2⟩
end
theorem few_of {α : Type} [DecidableEq α] : ∀ (l m : List α), l.Nodup → (∀ x ∈ l, x ∈ m) → l.length ≤ m.length
  | [], _, _, _ => Nat.zero_le _
  | x :: l, m, nd, h => by
    obtain ⟨hx, nd'⟩ := List.nodup_cons.mp nd
    have ih := few_of l (m.erase x) nd' fun y hy => (List.mem_erase_of_ne (fun (e : y = x) => hx (by rw [← e]; exact hy))).mpr (h y (List.mem_cons_of_mem _ hy))
    rw [List.length_erase_of_mem (h x List.mem_cons_self)] at ih
    have := List.length_pos_of_mem (h x List.mem_cons_self)
    rw [List.length_cons]
    omega
theorem grp_total {ps : List (List Fc)} {Gs : List Gp} (gr : Grp ps Gs) : (Gs.map fun g => g.2.length).sum ≤ ps.length := by
  have nd : (Gs.map (·.2)).flatten.Nodup := by
    refine List.pairwise_flatten.mpr ⟨fun l hl => ?_, List.pairwise_map.mpr ?_⟩
    · obtain ⟨g, hg, rfl⟩ := List.mem_map.mp hl
      exact gr.nd g hg
    · refine List.Pairwise.imp_of_mem (fun {a b} ha hb ne x hx y hy e => ne ?_) (List.pairwise_map.mp gr.kn)
      rw [← gr.key a ha x hx, ← gr.key b hb y hy, e]
  have h := few_of (Gs.map (·.2)).flatten (ps.map red) nd fun x hx => by
    obtain ⟨l, hl, hx⟩ := List.mem_flatten.mp hx
    obtain ⟨g, hg, rfl⟩ := List.mem_map.mp hl
    obtain ⟨p, hp, rfl⟩ := (gr.mem x).mp ⟨g, hg, hx⟩
    exact List.mem_map_of_mem hp
  rw [List.length_flatten, List.length_map, List.map_map] at h
  exact h
theorem take_total (l : List Nat) (i : Nat) : (l.take i).sum ≤ l.sum := by
  conv => rhs; rw [← List.take_append_drop i l, List.sum_append]
  exact Nat.le_add_right _ _
/-! ### what is promised -/
def MaxOf (ps zs : List (List Fc)) : Prop := ∃ Gs : List Gp, Grp ps Gs ∧ zs = (pickM (Gs.mergeSort leK)).mergeSort (fun x y => decide (tl (pform x) ≤ tl (pform y)))
def spMx (K : PySem.W.Frag) : Sp := fun vs H Q _ => ∃ (a : Addr) (xs : List V) (ps : List (List Fc)), vs = [.ref a] ∧ SqL K H a xs ∧ IsL K H xs ps ∧ ps.length ≤ 1000000 ∧ (∀ p ∈ ps, p.length ≤ 10000 ∧ ∀ f ∈ p, Low f) ∧
  ∀ H' q ys zs, Same H H' → H q = none → H' q = some (.lst ys) → IsL K H' ys zs → MaxOf ps zs → Q (.ref q) H'
theorem red_le (fs : List Fc) : (red fs).length ≤ fs.length := by
  have h : ∀ (fs st : List Fc), (fs.foldl stp st).length ≤ st.length + fs.length := by
    intro fs
    induction fs with
    | nil => intro st; exact Nat.le_refl _
    | cons f fs ih =>
      intro st
      have h1 := ih (stp st f)
      have h2 := stp_len st f
      rw [List.foldl_cons, List.length_cons]
      omega
  have q := h fs []
  unfold red
  rw [List.length_reverse]
  simpa using q
theorem addR_len (rs : List (List Fc)) (r : List Fc) : (addR rs r).length ≤ rs.length + 1 := by
  unfold addR
  split
  · omega
  · rw [List.length_append]
    exact Nat.le_refl _
section
variable {P : Program} {w : World} {K : PySem.W.Frag} {mg : Str → Option Value} {base : Heap}
theorem scMx : FnScope ["products", "groups", "product", "reduced", "group", "maximal", "size"] ["products"] (defScope sMaximalProducts) := ⟨rfl, rfl, rfl, by decide +kernel, rfl, by decide +kernel, by decide +kernel⟩
structure DfMx (K : PySem.W.Frag) (mg : Str → Option Value) where
  m : Df K mg "maximal_products" sMaximalProducts ["products"]
  r : Df K mg "reduce_product" sReduceProduct ["product"]
  z : Df K mg "size_of_product" sSizeOfProduct ["product"]
  i : Df K mg "is_inside" sIsInside ["product", "products"]
  incl : DfIncl K mg
  bw : DfBw K mg
  ma : mg "all" = none
  mt : mg "tuple" = none
  mr : mg "reversed" = none
  mg0 : mg "range" = none
  mm : ∃ t, mg "MOST_LETTERS" = some (.int 3 t)
theorem ok_mx (D : DfMx K mg) : FnOk P w K mg base CX0 6 D.m.f D.m.fd ["products"] (spMx K) := by
  have Gr : FnOk P w K mg base CX0 2 D.r.f D.r.fd ["product"] (spRd K) := ok_rd D.r D.incl.s D.ma D.mt
  have Gz : FnOk P w K mg base CX0 1 D.z.f D.z.fd ["product"] (spSz K) := ok_sz D.z D.bw.ml D.mt D.mr D.mg0 D.mm
  have Gi : FnOk P w K mg base CX0 5 D.i.f D.i.fd ["product", "products"] (spIn K) := ok_in D.i D.incl D.ma D.bw.ml
  have Gb : FnOk P w K mg base CX0 5 D.bw.b.f D.bw.b.fd ["products"] (spBw K) := ok_bw D.bw
  refine D.m.F.ok scMx (fun vs H Q E h => ?_) (fun cdv A outer s H vs Q E hr h => ?_)
  · obtain ⟨a, xs, ps, rfl, _⟩ := h
    rfl
  · obtain ⟨a, xs, ps, rfl, ha, iL, pl, pok, k⟩ := h
    have hr1 : Room 1 _ := hr.mono (by decide)
    have hr2 : Room 2 _ := hr.mono (by decide)
    have xl := iL.len
    refine ⟨_, PSs.nox (pss_cons (ps_set (i := 1) scMx.nd rfl (.inl rfl) ND.pe_dnewN) (pss_cons (ps_for PassesOwn.never rfl (pi_list (pv 0)) (pg_name (i := 2) scMx.nd rfl (.inl rfl)) (pss_cons (ps_set (i := 3) scMx.nd rfl (.inl rfl) (pe_call Gr hr2 (by rfl) D.r.g D.r.F.kp D.r.b .nil pass0 (pa_cons (pv 2) pa_nil))) (pss_cons (ps_set (i := 4) scMx.nd rfl (.inl rfl) (ND.pe_dsetdN (u9 hr) (pv 1) (pe_call Gz hr1 (by rfl) D.z.g D.z.F.kp D.z.b .nil pass0 (pa_cons (pv 3) pa_nil)) ND.pe_dnewN ⟨by rfl, by rfl, by rfl, by rfl⟩)) (pss_one (ND.ps_dputN (u9 hr) (pv 4) (pv 3) pe_bl rfl))))) (pss_cons (ps_set (i := 5) scMx.nd rfl (.inr rfl) (pe_lst pa_nil)) (pss_cons (ps_for PassesOwn.never rfl (pi_list (pe_callBK (ND.cr_sortedD (b := true) rfl hr.units) (by rfl) D.bw.ms (by decide +kernel) (pa_cons (pv 1) pa_nil) (pk_cons pe_bl pk_nil))) (pg_name (i := 6) scMx.nd rfl (.inl rfl)) (pss_one (ps_set (i := 5) scMx.nd rfl (.inr rfl) (pe_op op_cat (pv 5) (pe_lock (pe_lc (own := [("product", 2)]) (g := gName 2) rfl scMx.nd (ND.pi_keysN (ND.pe_dgetN (u9 hr) (pv 1) (pv 6) (fun _ _ => rfl))) (blkOk_by (N := ["products", "groups", "product", "reduced", "group", "maximal", "size"]) (sc := defScope sMaximalProducts) (by decide +kernel)) (fun _ _ _ _ _ => pg_name (i := 2) scMx.nd rfl (Or.inl rfl)) (fun _ _ _ _ _ => (pts_one (pt_not (pt_val (pe_call Gi hr (by rfl) D.i.g D.i.F.kp D.i.b .nil pass0 (pa_cons (pv 2) (pa_cons (pv 5) pa_nil))))))) (fun _ _ _ _ _ => (pv 2)))))))) (pss_one (ps_ret (pe_call Gb hr (by rfl) D.bw.b.g D.bw.b.F.kp D.bw.b.b .nil pass0 (pa_cons (pv 5) pa_nil)))))))), ?_⟩
    intro D0 hD0
    have s0 := same_upd (o := DO P w D0 []) hD0
    have GD0 : GD P w K H (upd H D0 (DO P w D0 [])) D0 [] [] := ⟨upd_same, hD0, rfl, fun i e g h _ => by simp at h, fun i j e e' h _ _ => by simp at h, fun e he => (nomatch he)⟩
    have Gr0 : Grp (ps.take 0) [] := ⟨fun r => ⟨fun ⟨g, hg, _⟩ => (nomatch hg), fun ⟨p, hp, _⟩ => (nomatch hp)⟩, fun g hg => (nomatch hg), fun g hg => (nomatch hg), List.nodup_nil⟩
    refine ⟨.ref a, rfl, a, rfl, ⟨xs, same_lst s0 ha⟩, for_it (walk_list (xs := xs)) (fun i σ G => ∃ (kvs : List Ent) (Gs : List Gp) (y2 y3 y4 : Option V), σ = [some (.ref a), some (.ref D0), y2, y3, y4, none, none] ∧ GD P w K H G D0 kvs Gs ∧ Grp (ps.take i) Gs ∧ kvs.length ≤ i ∧ (∀ g ∈ Gs, g.2.length ≤ i ∧ g.1 ≠ []) ∧ Same H G)
      ⟨[], [], _, _, _, rfl, GD0, Gr0, Nat.le_refl _, fun g hg => (nomatch hg), s0⟩ (fun _ _ _ _ ⟨_, _, _, _, _, _, _, _, _, _, sm⟩ => same_lst sm ha) ?_ ?_⟩
    · rintro i x σ G G' hi ⟨kvs, Gs, y2, y3, y4, rfl, gd, gr, kl, gl, sm⟩ ⟨rfl, hx⟩
      obtain ⟨p, hp, isp0⟩ := iL.get i x hx
      have pm : p ∈ ps := List.mem_of_getElem? hp
      have il : i < ps.length := (List.getElem?_eq_some_iff.mp hp).1
      obtain ⟨p1, p2⟩ := pok p pm
      have rlow : ∀ f ∈ red p, Low f := fun f hf => p2 f (red_mem hf)
      have tk : ps.take (i + 1) = ps.take i ++ [p] := by rw [List.take_add_one, hp]; rfl
      refine ⟨x, rfl, x, p, rfl, isp0.mono (same_tup sm), fun f hf => (p2 f hf).2, by omega, fun H2 u s2 isr => ?_⟩
      have gd2 := gd.same s2
      obtain ⟨b, xr, rfl, hb, iFr⟩ := id isr
      have rl := red_le p
      refine ⟨.ref D0, rfl, D0, kvs, rfl, gd2.at0, gd2.oks, .ref b, rfl, .ref b, red p, rfl, isr, fun f hf => (rlow f hf).2, by omega, fun H3 ka s3 nka hka => ?_⟩
      intro De hDe
      have gd3 := gd2.same s3
      have s4 := same_upd (o := DO P w De []) hDe
      have gd4 := gd3.same s4
      have sm4 := ((sm.trans s2).trans s3).trans s4
      have hka4 : SqT K (upd H3 De (DO P w De [])) ka ((sizeT (red p)).map V.int) := same_tup s4 _ _ (SqT.of hka)
      have isr4 : IsP K (upd H3 De (DO P w De [])) (.ref b) (red p) := isr.mono (same_tup (s3.trans s4))
      have hDe4 : (upd H3 De (DO P w De [])) De = some (DO P w De []) := upd_same
      refine ⟨ka, kvs, numKey (sizeT (red p)), rfl, gd4.at0, gd4.oks, .tup hka4 (nums_nk _), depth_num _, by rw [sizeLine_eq]; omega, fun v hv => ?_, fun hv => ?_⟩
      · obtain ⟨j, e, he, ek, rfl⟩ := valN_some hv
        obtain ⟨g, hg, E⟩ := gd4.gp he
        obtain ⟨Dj, rows, ev, hDj, rw1⟩ := E.dic
        have kg : sizeT (red p) = g.1 := (numKey_inj (E.key.symm.trans ek)).symm
        have gm : g ∈ Gs := List.mem_of_getElem? hg
        rw [ev]
        refine ⟨.ref Dj, rfl, .ref b, rfl, Dj, b, rows, prodKey (red p), rfl, rfl, hDj, rw1.oks, isP_nk isr4, depth_prod _, ?_, ?_⟩
        · rw [rw1.len, sizeLine_eq]
          have := (gl g gm).1
          omega
        refine ⟨kvs, _, _, _, _, rfl, gd_old gd4 he hg ev hDj rw1 isr4, ?_, by omega, fun g' hg' => ?_, ?_⟩
        · rw [tk]
          exact grp_old gr hg kg
        · rcases List.mem_or_eq_of_mem_set hg' with q | q
          · have := (gl g' q).1
            exact ⟨by omega, (gl g' q).2⟩
          · rw [q]
            have h1 := addR_len g.2 (red p)
            have h2 := (gl g gm).1
            refine ⟨?_, (gl g gm).2⟩
            show (addR g.2 (red p)).length ≤ i + 1
            omega
        · obtain ⟨Dx, x1, x2, _⟩ := gd4.nw e (List.mem_of_getElem? he)
          rw [ev] at x1
          cases x1
          exact fun c o q => (upd_ne (ne_of_none q x2)).trans (sm4 _ _ q)
      · have nk := valN_none hv
        have n0 : H De = none := ((sm.trans s2).trans s3).free hDe
        have ne0 : De ≠ D0 := (ne_of_none gd3.at0 hDe).symm
        have nei : ∀ e ∈ kvs, e.2.2 ≠ .ref De := fun e he z => by
          obtain ⟨n, hn⟩ := List.getElem?_of_mem he
          obtain ⟨g, _, E⟩ := gd3.gp hn
          obtain ⟨Dj, rows, ev, hDj, _⟩ := E.dic
          rw [ev] at z
          cases z
          rw [hDe] at hDj
          cases hDj
        have pn : putN kvs (numKey (sizeT (red p))) ka (.ref De) = kvs ++ [(numKey (sizeT (red p)), ka, .ref De)] := by
          unfold putN
          rw [hv]
          rfl
        rw [pn]
        have hDe5 : (upd (upd H3 De (DO P w De [])) D0 (DO P w D0 (kvs ++ [(numKey (sizeT (red p)), ka, V.ref De)]))) De = some (DO P w De []) := (upd_ne ne0).trans hDe4
        refine ⟨.ref De, rfl, .ref b, rfl, De, b, [], prodKey (red p), rfl, rfl, hDe5, fun e he => (nomatch he), isP_nk (isr4.mono (fun c xs h => upd_do gd4.at0 c xs h)), depth_prod _, by rw [sizeLine_eq]; decide, ?_⟩
        refine ⟨_, _, _, _, _, rfl, gd_new gd4 hDe4 n0 ne0 nei hka4 isr4, ?_, ?_, fun g' hg' => ?_, fun c o q => ?_⟩
        · rw [tk]
          refine grp_new gr fun g hg z => ?_
          obtain ⟨n, hn⟩ := List.getElem?_of_mem hg
          have nl := (List.getElem?_eq_some_iff.mp hn).1
          have hl := gd4.len
          have he : kvs[n]? = some (kvs[n]'(by omega)) := List.getElem?_eq_getElem (by omega)
          exact nk _ (List.mem_of_getElem? he) (by rw [(gd4.eg n _ g he hn).key, z])
        · rw [List.length_append]
          show _ + 1 ≤ _
          omega
        · rcases List.mem_append.mp hg' with q | q
          · have := (gl g' q).1
            exact ⟨by omega, (gl g' q).2⟩
          · rw [List.mem_singleton.mp q]
            refine ⟨?_, List.cons_ne_nil _ _⟩
            show 1 ≤ i + 1
            omega
        · exact (upd_ne (ne_of_none q n0)).trans ((upd_ne (ne_of_none q hD0)).trans (sm4 _ _ q))
    · rintro σ G ⟨kvs, Gs, y2, y3, y4, rfl, gd, gr, kl, gl, sm⟩
      rw [xl, List.take_length] at gr
      obtain ⟨Zs, z1, z2, zl, zm⟩ := gd_zip gd
      have tot : (Zs.map fun z => z.2.2.length).sum ≤ ps.length := by
        have e : (Zs.map fun z => z.2.2.length) = (Gs.mergeSort leK).map fun g => g.2.length := by
          rw [z2, List.map_map]
          rfl
        rw [e, (((List.mergeSort_perm Gs leK).map fun g => g.2.length)).sum_nat]
        exact grp_total gr
      have totx : ∀ {i : Nat} {z : Ent × Gp}, Zs[i]? = some z → ((Zs.take i).map fun z => z.2.2.length).sum + z.2.2.length ≤ ps.length ∧ ((Zs.take (i + 1)).map fun z => z.2.2.length).sum = ((Zs.take i).map fun z => z.2.2.length).sum + z.2.2.length := fun {i z} hz => by
        have e : ((Zs.take (i + 1)).map fun z => z.2.2.length).sum = ((Zs.take i).map fun z => z.2.2.length).sum + z.2.2.length := by
          rw [List.take_add_one, hz, List.map_append, List.sum_append]
          simp
        refine ⟨?_, e⟩
        rw [← e, List.map_take]
        exact Nat.le_trans (take_total _ _) tot
      have glow : ∀ g ∈ Gs, ∀ r ∈ g.2, (∀ f ∈ r, Low f) ∧ r.length ≤ 10000 := fun g hg r hr => by
        obtain ⟨p, hp, rfl⟩ := (gr.mem r).mp ⟨g, hg, hr⟩
        have h1 := red_le p
        have h2 := (pok p hp).1
        exact ⟨fun f hf => (pok p hp).2 f (red_mem hf), by omega⟩
      have plow : ∀ (i : Nat), ∀ r ∈ pickM ((Zs.take i).map (·.2)), (∀ f ∈ r, Low f) ∧ r.length ≤ 10000 := fun i r hr => by
        rcases pick_sub _ _ r hr with q | ⟨g, h1, h2⟩
        · exact (nomatch q)
        · obtain ⟨z, hz, rfl⟩ := List.mem_map.mp h1
          obtain ⟨n, _, hn⟩ := zm z (List.mem_of_mem_take hz)
          exact glow _ (List.mem_of_getElem? hn) r h2
      have dk : ∀ e ∈ kvs, ∃ ns : List Int, e.1.data = .tuple (ns.map PyData.int) ∧ ns ≠ [] := fun e he => by
        obtain ⟨n, hn⟩ := List.getElem?_of_mem he
        obtain ⟨g, hg, E⟩ := gd.gp hn
        exact ⟨g.1, by rw [E.key, data_num], (gl g (List.mem_of_getElem? hg)).2⟩
      refine ⟨by rw [sizeLine_eq]; decide, fun M hM => ?_⟩
      have sM := same_upd (o := .lst []) hM
      have gdM := gd.same sM
      refine ⟨.ref D0, rfl, D0, kvs, rfl, rfl, .inl gdM.at0, gdM.oks, ?_, ?_, fun e he => ?_, fun L hL => ?_⟩
      · intro d hd d' hd'
        obtain ⟨e, he, rfl⟩ := List.mem_map.mp hd
        obtain ⟨e', he', rfl⟩ := List.mem_map.mp hd'
        obtain ⟨ns, h1, _⟩ := dk e he
        obtain ⟨ns', h2, _⟩ := dk e' he'
        show PySem.W.alike e.1.data e'.1.data = true
        rw [h1, h2, PySem.W.alike]
        exact PySem.W.alike_ints ns ns'
      · refine .inl fun d hd => ?_
        obtain ⟨e, he, rfl⟩ := List.mem_map.mp hd
        obtain ⟨ns, h1, h2⟩ := dk e he
        match ns, h1, h2 with
        | n :: ns, h1, _ => exact ⟨_, _, h1⟩
      · obtain ⟨ns, h1, _⟩ := dk e he
        rw [h1, PyData.depth, depth_ints]
        decide
      rw [z1]
      have sL := same_upd (o := .lst (keyVs (Zs.map (·.1)))) hL
      have kzl : (keyVs (Zs.map (·.1))).length = Zs.length := by
        unfold keyVs
        rw [List.length_map, List.length_map]
      refine ⟨L, rfl, ⟨_, SqL.of upd_same⟩, for_it (walk_list (xs := keyVs (Zs.map (·.1)))) (fun i σ F => ∃ (N : Addr) (ms : List V) (y6 : Option V), σ = [some (.ref a), some (.ref D0), y2, y3, y4, some (.ref N), y6] ∧ F N = some (.lst ms) ∧ IsL K F ms (pickM ((Zs.take i).map (·.2))) ∧ ms.length ≤ ((Zs.take i).map fun z => z.2.2.length).sum ∧ Same (upd (upd G M (.lst [])) L (.lst (keyVs (Zs.map (·.1))))) F)
        ⟨M, [], _, rfl, sL _ _ upd_same, .nil, Nat.zero_le _, Same.refl _⟩ (fun _ _ _ _ ⟨_, _, _, _, _, _, _, sF⟩ => SqL.of (sF _ _ upd_same)) ?_ ?_⟩
      · rintro i x σ F0 F hi ⟨N, ms, y6, rfl, hN, iM, ml, sF⟩ ⟨rfl, hx⟩
        rw [kzl] at hi
        have gdF := (gdM.same sL).same sF
        have hz : Zs[i]? = some Zs[i] := List.getElem?_eq_getElem hi
        generalize Zs[i] = z at hz
        obtain ⟨tz1, tz2⟩ := totx hz
        obtain ⟨n, hn1, hn2⟩ := zm z (List.mem_of_getElem? hz)
        obtain ⟨ek, et, Di, rows, ev, hDi, rw1⟩ := gdF.eg n z.1 z.2 hn1 hn2
        have gm : z.2 ∈ Gs := List.mem_of_getElem? hn2
        have rl := rw1.len
        have rb := (gl z.2 gm).1
        have ex : x = .ref z.1.2.1 := by
          unfold keyVs at hx
          rw [List.getElem?_map, List.getElem?_map, hz] at hx
          exact (Option.some.inj hx).symm
        subst ex
        have n0 : Di ≠ D0 := by
          obtain ⟨Dx, x1, _, x3⟩ := gdF.nw z.1 (List.mem_of_getElem? hn1)
          rw [ev] at x1
          cases x1
          exact x3
        refine ⟨.ref N, rfl, Di, DO P w Di rows, hDi, trivial, fun od => ?_⟩
        have m1 : ∀ b xs, SqT K F b xs → SqT K (upd F Di (.frz od (DO P w Di rows))) b xs := fun b xs h => upd_do hDi b xs h
        have nd : (kvs.map (·.1)).Nodup := by
          rw [gdF.keys]
          have q := gr.kn
          have e : (Gs.map fun g => numKey g.1) = (Gs.map (·.1)).map numKey := by rw [List.map_map]; rfl
          rw [e]
          exact List.Pairwise.map numKey (fun a b h e => h (numKey_inj e)) q
        have vk : valN kvs (numKey z.2.1) = some (.ref Di) := by
          rw [← ek, ← ev]
          exact valN_get nd hn1
        refine ⟨.ref D0, rfl, .ref z.1.2.1, rfl, D0, z.1.2.1, kvs, numKey z.2.1, .ref Di, rfl, rfl, ⟨.inl ((upd_ne n0.symm).trans gdF.at0), gdF.oks.mono m1, .tup (m1 _ _ et) (nums_nk _), depth_num _⟩, vk, Di, od, rows, rfl, upd_same, fun B hB => ?_⟩
        have sB := same_upd (o := .lst []) hB
        have hNf : (upd F Di (.frz od (DO P w Di rows))) N = some (.lst ms) := (upd_ne (ne_of hN hDi (by intro z; cases z))).trans hN
        refine lc_it ND.walk_keysN (fun j F2 => ∃ acc, F2 B = some (.lst acc) ∧ IsL K F2 acc ((z.2.2.take j).filter fun r => !((pickM ((Zs.take i).map (·.2))).any fun m => inc m r)) ∧ acc.length ≤ j ∧ Same (upd F Di (.frz od (DO P w Di rows))) F2) ⟨[], upd_same, .nil, Nat.le_refl _, sB⟩ (fun _ _ _ ⟨_, _, _, _, s2⟩ => s2 _ _ upd_same) ?_ ?_
        · rintro j y F3 F2 hj ⟨acc, hB2, iA, al, s2⟩ ⟨rfl, e, he, rfl⟩
          obtain ⟨r, hr1, _⟩ := rw1.key he
          have isr := rw1.isp j e r he hr1
          have rm : r ∈ z.2.2 := List.mem_of_getElem? hr1
          have isr2 : IsP K F2 (.ref e.2.1) r := (isr.mono m1).mono (same_tup s2)
          have tk : z.2.2.take (j + 1) = z.2.2.take j ++ [r] := by rw [List.take_add_one, hr1]; rfl
          refine ⟨rfl, .ref e.2.1, rfl, .ref N, rfl, .ref e.2.1, N, r, ms, _, rfl, isr2, SqL.of (s2 _ _ hNf), (iM.mono m1).mono (same_tup s2), (glow _ gm r rm).1, fun q hq => (plow i q hq).1, fun F4 s4 => ⟨_, rfl, ?_⟩⟩
          have hB4 := s4 _ _ hB2
          have iA4 := iA.mono (same_tup s4)
          cases c : (pickM ((Zs.take i).map (·.2))).any fun m => inc m r with
          | true =>
            refine iteF ?_
            refine ⟨acc, hB4, ?_, by omega, s2.trans s4⟩
            rw [tk, List.filter_append, List.filter_cons, c]
            simpa using iA4
          | false =>
            refine iteT ⟨.ref e.2.1, rfl, acc, hB4, by rw [sizeLine_eq]; omega, acc ++ [.ref e.2.1], upd_same, ?_, by rw [List.length_append]; show _ + 1 ≤ _; omega, fun b o q => ?_⟩
            · rw [tk, List.filter_append, List.filter_cons, c]
              have st : ∀ b xs, SqT K F4 b xs → SqT K (upd F4 B (.lst (acc ++ [.ref e.2.1]))) b xs := fun b xs h => upd_tup hB4 b xs h
              exact (iA4.mono st).app (.cons ((isr2.mono (same_tup s4)).mono st) .nil)
            · exact (upd_ne (ne_of_none q hB)).trans (s4 _ _ (s2 _ _ q))
        · rintro F2 ⟨acc, hB2, iA, al, s2⟩
          have hfz := s2 _ _ (upd_same : (upd F Di (.frz od (DO P w Di rows))) Di = _)
          refine ⟨hfz, ?_⟩
          have s3 : Same F (upd F2 Di (DO P w Di rows)) := fun b o q => by
            by_cases c : b = Di
            · rw [c] at q ⊢
              rw [hDi] at q
              rw [upd_same, q]
            · exact (upd_ne c).trans (s2 _ _ ((upd_ne c).trans q))
          have m3 : ∀ b xs, SqT K F2 b xs → SqT K (upd F2 Di (DO P w Di rows)) b xs := fun b xs h => upd_frz hfz (by intro xs z; cases z) b xs h
          have hBd : (upd F2 Di (DO P w Di rows)) B = some (.lst acc) := (upd_ne (ne_of hB2 hfz (by intro z; cases z))).trans hB2
          refine ⟨N, B, ms, acc, rfl, rfl, s3 _ _ hN, hBd, by rw [sizeLine_eq]; omega, fun R hR => ?_⟩
          have sR := same_upd (o := .lst (ms ++ acc)) hR
          refine ⟨R, _, _, rfl, upd_same, ?_, ?_, (sF.trans s3).trans sR⟩
          · have e : pickM ((Zs.take (i + 1)).map (·.2)) = pickM ((Zs.take i).map (·.2)) ++ z.2.2.filter fun r => !((pickM ((Zs.take i).map (·.2))).any fun m => inc m r) := by
              rw [List.take_add_one, hz, List.map_append]
              unfold pickM
              rw [List.foldl_append]
              rfl
            rw [e]
            rw [rl, List.take_length] at iA
            exact (iM.mono (same_tup (s3.trans sR))).app ((iA.mono m3).mono (same_tup sR))
          · rw [List.length_append, tz2]
            omega
      · rintro σ F ⟨N, ms, y6, rfl, hN, iM, ml, sF⟩
        rw [kzl, List.take_length, ← z2] at iM
        have sA := ((sm.trans sM).trans sL).trans sF
        refine ⟨.ref N, rfl, N, ms, _, rfl, SqL.of hN, iM, fun q hq => ?_, fun F2 R ys zs s2 hR hR2 iZ ez => ?_⟩
        · rw [z2] at hq
          have q2 := plow Zs.length q (by rw [List.take_length]; exact hq)
          exact ⟨fun f hf => (q2.1 f hf).2, q2.2⟩
        · exact k F2 R ys zs (sA.trans s2) (sA.free hR) hR2 iZ ⟨Gs, gr, ez⟩
end
end DW
/-! is_ascending, is_alphabet, is_word -/
namespace DW
open PySem PySem.Spec PyProof.Rows L2 TL
set_option autoImplicit false
def ascB (l : List Nat) : Bool := (l.zip (l.drop 1)).all fun p => decide (p.1 < p.2)
def lowB (c : Nat) : Bool := decide (97 ≤ c) && decide (c ≤ 122)
def alphB (l : List Nat) : Bool := decide (1 ≤ l.length) && decide (l.length ≤ 3) && (l.all lowB && ascB l)
theorem lt1 (c d : Nat) : decide ([c] < [d]) = decide (c < d) := by
  rw [decide_eq_decide]
  constructor
  · intro h
    rcases List.cons_lt_cons_iff.mp h with q | q
    · exact q
    · exact absurd q.2 (List.not_lt_nil _)
  · intro h
    exact List.cons_lt_cons_iff.mpr (.inl h)
theorem low_eq (c : Nat) : (if (!decide (([c] : List Nat) < [97])) = true then !decide (([122] : List Nat) < [c]) else false) = lowB c := by
  rw [lt1, lt1]
  unfold lowB
  by_cases h : c < 97
  · rw [decide_eq_true h]
    simp
    omega
  · rw [decide_eq_false h]
    simp
    by_cases g : 122 < c
    · rw [decide_eq_true g, decide_eq_true (by omega : 97 ≤ c), decide_eq_false (by omega : ¬ c ≤ 122)]
      rfl
    · rw [decide_eq_false g, decide_eq_true (by omega : 97 ≤ c), decide_eq_true (by omega : c ≤ 122)]
      rfl
/-- not a text -/
def NoS (K : PySem.W.Frag) (H : Hp) (v : V) : Prop := ∃ t, TyX K H v t ∧ PySem.W.kitOne K t (.type "str") = some false
theorem isi_kit {K : PySem.W.Frag} : PySem.W.kitOne K (.type "str") (.type "str") = some true := kit_ty (by decide +kernel)
def spAsc : Sp := fun vs H Q _ => ∃ (x : Str), vs = [.str x] ∧ (tl x).length ≤ 100000 ∧ ∀ H', Same H H' → Q (.bl (ascB (tl x))) H'
def spAlp (K : PySem.W.Frag) : Sp := fun vs H Q _ => ∃ v : V, vs = [v] ∧ ((∃ x : Str, v = .str x ∧ (tl x).length ≤ 100000 ∧ ∀ H', Same H H' → Q (.bl (alphB (tl x))) H') ∨ (NoS K H v ∧ ∀ H', Same H H' → Q (.bl false) H'))
def spIw (K : PySem.W.Frag) : Sp := fun vs H Q _ => ∃ (z : Str) (v : V), vs = [.str z, v] ∧ ((∃ x : Str, v = .str x ∧ (tl x).length ≤ 100000 ∧ ∀ H', Same H H' → Q (.bl ((tl x).all fun c => decide (c ∈ tl z))) H') ∨ (NoS K H v ∧ ∀ H', Same H H' → Q (.bl false) H'))
theorem cut1 (x : Str) : tl (cutS x (some 1) none) = (tl x).drop 1 := by
  show (x.cps.toList.drop (HT.sIx x.length 0 (some 1))).take (HT.sIx x.length x.length none - HT.sIx x.length 0 (some 1)) = x.cps.toList.drop 1
  rw [show HT.sIx x.length 0 (some 1) = min 1 x.length from HT.sIx_nat x.length 0 1, HT.sIx_none]
  have e : x.length = x.cps.toList.length := (Array.length_toList).symm
  by_cases h : 1 ≤ x.length
  · rw [show min 1 x.length = 1 by omega]
    exact List.take_of_length_le (by rw [List.length_drop]; omega)
  · have h0 : x.cps.toList = [] := List.length_eq_zero_iff.mp (by omega)
    rw [h0]
    simp
section
variable {P : Program} {w : World} {K : PySem.W.Frag} {mg : Str → Option Value} {base : Heap}
theorem scAsc : FnScope ["letters", "one", "other"] ["letters"] (defScope sIsAscending) := ⟨rfl, rfl, rfl, by decide +kernel, rfl, by decide +kernel, by decide +kernel⟩
theorem ok_asc (D : Df K mg "is_ascending" sIsAscending ["letters"]) (ma : mg "all" = none) (mz : mg "zip" = none) : FnOk P w K mg base CX0 1 D.f D.fd ["letters"] spAsc := by
  refine D.F.ok scAsc (fun vs H Q E h => ?_) (fun cdv A outer s H vs Q E hr h => ?_)
  · obtain ⟨x, rfl, _⟩ := h
    rfl
  · obtain ⟨x, rfl, xl, k⟩ := h
    have sz : ∀ y : Str, y.length = (tl y).length := fun y => (Array.length_toList).symm
    refine ⟨_, (pss_one (ps_ret (pe_callB (cr_all rfl) (by rfl) ma (by decide +kernel) (pa_cons (pe_lc (own := [("one", 1), ("other", 2)]) (g := gTup K 2 (gCons (gName 1) (gCons (gName 2) gNil))) rfl scAsc.nd (ZX.pi_zipX (by rfl) mz (pa_cons (pv 0) (pa_cons (pe_slice sl_str (pv 0) (po_some pe_int) po_none) pa_nil))) (blkOk_by (N := ["letters", "one", "other"]) (sc := defScope sIsAscending) (by decide +kernel)) (fun _ _ _ _ _ => pg_tup rfl (pgs_cons (pg_name (i := 1) scAsc.nd rfl (.inl rfl)) (pgs_cons (pg_name (i := 2) scAsc.nd rfl (.inl rfl)) pgs_nil))) (fun _ _ _ _ _ => pts_nil) (fun _ _ _ _ _ => (pe_cmpR op_lt_str (pv 1) (pv 2) (nomark _)))) pa_nil)))), ?_⟩
    refine ⟨.str x, rfl, .str x, rfl, 1, rfl, ?_⟩
    unfold tNoPart
    refine ⟨x, rfl, by rw [sz, sizeLine_eq]; omega, x, _, rfl, fun L hL => ?_⟩
    have e1 := cut1 x
    generalize hy : cutS x (some 1) none = y at e1 ⊢
    have xs : x.cps.size = (tl x).length := (Array.length_toList).symm
    have ys : y.cps.size = (tl y).length := (Array.length_toList).symm
    have sL := same_upd (o := .lst []) hL
    refine lc_it ZX.walk_zipX (fun i H' => ∃ bs : List Bool, H' L = some (.lst (bs.map V.bl)) ∧ bs = (((tl x).zip (tl y)).take i).map (fun p => decide (p.1 < p.2)) ∧ Same H H') ⟨[], upd_same, rfl, sL⟩ (fun _ _ _ _ => trivial) ?_ ?_
    · rintro i v G G' hi ⟨bs, gL, be, sm⟩ ⟨T, c, d, rfl, hT, rfl, hc, hd⟩
      have sT := same_upd (o := .tup [.str ⟨#[c]⟩, .str ⟨#[d]⟩]) hT
      have hc' : (tl x)[i]? = some c := by rw [Array.getElem?_toList]; exact hc
      have hd' : (tl y)[i]? = some d := by rw [Array.getElem?_toList]; exact hd
      have hz : ((tl x).zip (tl y))[i]? = some (c, d) := List.getElem?_zip_eq_some.mpr ⟨hc', hd'⟩
      refine ⟨T, _, rfl, SqT.of upd_same, rfl, _, _, rfl, _, _, rfl, rfl, rfl, yes ?_⟩
      refine ⟨_, rfl, _, rfl, _, _, rfl, rfl, _, sT _ _ gL, ?_, bs ++ [decide (c < d)], ?_, ?_, fun b o e => (upd_ne (ne_of_none e hL)).trans ((sm.trans sT) _ _ e)⟩
      · rw [List.length_map, be, List.length_map, List.length_take, sizeLine_eq]
        omega
      · rw [upd_same, List.map_append]
        show some (HO.lst (_ ++ [V.bl (decide ([c] < [d]))])) = _
        rw [lt1]
        rfl
      · rw [be, List.take_add_one, hz, List.map_append]
        rfl
    · rintro G ⟨bs, gL, be, sm⟩
      refine ⟨L, bs, rfl, SqL.of gL, ?_⟩
      have e2 : bs.all id = ascB (tl x) := by
        rw [be, xs, ys, List.take_of_length_le (by rw [List.length_zip]; omega), List.all_map, e1]
        rfl
      rw [e2]
      exact k _ sm
theorem scAlp : FnScope ["thing", "letter"] ["thing"] (defScope sIsAlphabet) := ⟨rfl, rfl, rfl, by decide +kernel, rfl, by decide +kernel, by decide +kernel⟩
theorem ok_alp (D : Df K mg "is_alphabet" sIsAlphabet ["thing"]) (Da0 : Df K mg "is_ascending" sIsAscending ["letters"]) (ma : mg "all" = none) (mz : mg "zip" = none) (mi : mg "isinstance" = none) (ms : mg "str" = none) (ml : mg "len" = none) (mm0 : ∃ t, mg "MOST_LETTERS" = some (.int 3 t)) : FnOk P w K mg base CX0 2 D.f D.fd ["thing"] (spAlp K) := by
  have Ga : FnOk P w K mg base CX0 1 Da0.f Da0.fd ["letters"] spAsc := ok_asc Da0 ma mz
  have mm : ∃ u, mg "MOST_LETTERS" = some u ∧ RelV (.int 3) u := by
    obtain ⟨t, e⟩ := mm0
    exact ⟨_, e, t, rfl⟩
  refine D.F.ok scAlp (fun vs H Q E h => ?_) (fun cdv A outer s H vs Q E hr h => ?_)
  · obtain ⟨x, rfl, _⟩ := h
    rfl
  · obtain ⟨v, rfl, h⟩ := h
    have sz : ∀ y : Str, y.length = (tl y).length := fun y => (Array.length_toList).symm
    refine ⟨_, (pss_cons (ps_if (pw_or (pt_not (pt_val (pe_callB call_isi (by rfl) mi (by decide +kernel) (pa_cons (pv 0) (pa_cons (pe_bltn (v := V.ty "str") (by rfl) ms (by decide +kernel : bootBuiltins "str" = some (.type "str")) rfl) pa_nil))))) (pw_or1 (pt_not (pt_chain op_le op_le pe_int (pe_callB call_len_str (by rfl) ml PySem.boot_len (pa_cons (pv 0) pa_nil)) (C8.pe_gc (by rfl) mm))))).pt (pss_one (ps_ret pe_bl)) pss_nil) (pss_one (ps_ret (pe_and (pe_callB (cr_all rfl) (by rfl) ma (by decide +kernel) (pa_cons (pe_lc (own := [("letter", 1)]) (g := gName 1) rfl scAlp.nd (pi_str (pv 0)) (blkOk_by (N := ["thing", "letter"]) (sc := defScope sIsAlphabet) (by decide +kernel)) (fun _ _ _ _ _ => pg_name (i := 1) scAlp.nd rfl (Or.inl rfl)) (fun _ _ _ _ _ => pts_nil) (fun _ _ _ _ _ => (pe_chain op_le_str op_le_str pe_str (pv 1) pe_str))) pa_nil)) (pe_one (pe_call Ga hr (by rfl) Da0.g Da0.F.kp Da0.b .nil pass0 (pa_cons (pv 0) pa_nil))))))), ?_⟩
    rcases h with ⟨x, rfl, xl, k⟩ | ⟨⟨t, ty, kt⟩, k⟩
    · have xs : x.cps.size = (tl x).length := (Array.length_toList).symm
      refine ⟨.str x, rfl, _, _, _, _, true, rfl, .ty "str", .base (.str x), isi_kit, true, rfl, ?_⟩
      refine iteF ?_
      refine ⟨.str x, rfl, x, rfl, by rw [sz, sizeLine_eq]; omega, 1, _, rfl, rfl, _, rfl, ?_⟩
      refine ite2 (fun e1 => ?_) (fun e1 => ?_)
      · have e1' : 1 ≤ (tl x).length := by
          have := of_decide_eq_true e1
          rw [sz] at this
          omega
        refine ⟨_, 3, rfl, rfl, _, rfl, ?_⟩
        refine ite2 (fun e2 => ?_) (fun e2 => ?_)
        · have e2' : ¬ (tl x).length ≤ 3 := by
            rw [sz] at e2
            simp at e2
            omega
          have q := k _ (Same.refl H)
          rw [show alphB (tl x) = false by unfold alphB; rw [decide_eq_false e2']; simp] at q
          exact q
        · have e2' : (tl x).length ≤ 3 := by
            rw [sz] at e2
            simp at e2
            omega
          have ea : alphB (tl x) = ((tl x).all lowB && ascB (tl x)) := by
            unfold alphB
            rw [decide_eq_true e1', decide_eq_true e2']
            rfl
          rw [ea] at k
          refine ⟨.str x, rfl, x, rfl, fun L hL => ?_⟩
          have sL := same_upd (o := .lst []) hL
          refine lc_it walk_str (fun i H' => ∃ bs : List Bool, H' L = some (.lst (bs.map V.bl)) ∧ bs = ((tl x).take i).map lowB ∧ Same H H') ⟨[], upd_same, rfl, sL⟩ (fun _ _ _ _ => trivial) ?_ ?_
          · rintro i v G G' hi ⟨bs, gL, be, sm⟩ ⟨rfl, c, hc, rfl⟩
            have hc' : (tl x)[i]? = some c := by rw [Array.getElem?_toList]; exact hc
            refine ⟨rfl, yes ?_⟩
            have fin : ∀ G2 : Hp, G2 = G' → ∃ acc, G2 L = some (.lst acc) ∧ acc.length < sizeLine ∧ ∃ bs : List Bool, (upd G2 L (.lst (acc ++ [V.bl (lowB c)]))) L = some (.lst (bs.map V.bl)) ∧ bs = ((tl x).take (i + 1)).map lowB ∧ Same H (upd G2 L (.lst (acc ++ [V.bl (lowB c)]))) := by
              rintro G2 rfl
              refine ⟨_, gL, ?_, bs ++ [lowB c], ?_, ?_, fun b o e => (upd_ne (ne_of_none e hL)).trans (sm _ _ e)⟩
              · rw [List.length_map, be, List.length_map, List.length_take, sizeLine_eq]
                omega
              · rw [upd_same, List.map_append]
                rfl
              · rw [be, List.take_add_one, hc', List.map_append]
                rfl
            have le := low_eq c
            refine ⟨_, rfl, _, _, rfl, rfl, _, rfl, ?_⟩
            refine ite2 (fun e3 => ?_) (fun e3 => ?_)
            · rw [show (!decide (([c] : List Nat) < [97])) = true from e3, if_pos rfl] at le
              refine ⟨_, _, rfl, rfl, ?_⟩
              have q := fin _ rfl
              rw [← le] at q
              exact q
            · rw [if_neg (show ¬ (!decide (([c] : List Nat) < [97])) = true from e3)] at le
              have q := fin _ rfl
              rw [← le] at q
              exact q
          · rintro G ⟨bs, gL, be, sm⟩
            refine ⟨L, bs, rfl, SqL.of gL, _, rfl, ?_⟩
            have e2 : bs.all id = (tl x).all lowB := by
              rw [be, xs, List.take_length, List.all_map]
              rfl
            rw [e2]
            refine ite2 (fun e3 => ?_) (fun e3 => ?_)
            · refine ⟨.str x, rfl, x, rfl, xl, fun H' s' => ?_⟩
              have q := k _ (sm.trans s')
              rw [e3] at q
              exact q
            · have q := k _ sm
              have e3' : (tl x).all lowB = false := by simpa using e3
              rw [e3'] at q
              exact q
      · have e1' : ¬ 1 ≤ (tl x).length := by
          intro h
          exact e1 (decide_eq_true (by rw [sz]; omega))
        have q := k _ (Same.refl H)
        rw [show alphB (tl x) = false by unfold alphB; rw [decide_eq_false e1']; rfl] at q
        exact ⟨_, rfl, q⟩
    · refine ⟨v, rfl, _, _, _, _, false, rfl, .ty "str", ty, kt, false, rfl, ?_⟩
      exact k _ (Same.refl H)
theorem scIw : FnScope ["alphabet", "thing", "letter"] ["alphabet", "thing"] (defScope sIsWord) := ⟨rfl, rfl, rfl, by decide +kernel, rfl, by decide +kernel, by decide +kernel⟩
theorem ok_iw (D : Df K mg "is_word" sIsWord ["alphabet", "thing"]) (ma : mg "all" = none) (mi : mg "isinstance" = none) (ms : mg "str" = none) : FnOk P w K mg base CX0 1 D.f D.fd ["alphabet", "thing"] (spIw K) := by
  refine D.F.ok scIw (fun vs H Q E h => ?_) (fun cdv A outer s H vs Q E hr h => ?_)
  · obtain ⟨z, x, rfl, _⟩ := h
    rfl
  · obtain ⟨z, v, rfl, h⟩ := h
    refine ⟨_, (pss_one (ps_ret (pe_and (pe_callB call_isi (by rfl) mi (by decide +kernel) (pa_cons (pv 1) (pa_cons (pe_bltn (v := V.ty "str") (by rfl) ms (by decide +kernel : bootBuiltins "str" = some (.type "str")) rfl) pa_nil))) (pe_one (pe_callB (cr_all rfl) (by rfl) ma (by decide +kernel) (pa_cons (pe_lc (own := [("letter", 2)]) (g := gName 2) rfl scIw.nd (pi_str (pv 1)) (blkOk_by (N := ["alphabet", "thing", "letter"]) (sc := defScope sIsWord) (by decide +kernel)) (fun _ _ _ _ _ => pg_name (i := 2) scIw.nd rfl (Or.inl rfl)) (fun _ _ _ _ _ => pts_nil) (fun _ _ _ _ _ => (pe_cmpR op_in_sign (pv 2) (pv 0) rfl))) pa_nil)))))), ?_⟩
    rcases h with ⟨x, rfl, xl, k⟩ | ⟨⟨t, ty, kt⟩, k⟩
    · have xs : x.cps.size = (tl x).length := (Array.length_toList).symm
      refine ⟨.str x, rfl, _, _, _, _, true, rfl, .ty "str", .base (.str x), isi_kit, true, rfl, ?_⟩
      refine iteT ?_
      refine ⟨.str x, rfl, x, rfl, fun L hL => ?_⟩
      have sL := same_upd (o := .lst []) hL
      refine lc_it walk_str (fun i H' => ∃ bs : List Bool, H' L = some (.lst (bs.map V.bl)) ∧ bs = ((tl x).take i).map (fun c => decide (c ∈ tl z)) ∧ Same H H') ⟨[], upd_same, rfl, sL⟩ (fun _ _ _ _ => trivial) ?_ ?_
      · rintro i v G G' hi ⟨bs, gL, be, sm⟩ ⟨rfl, c, hc, rfl⟩
        have hc' : (tl x)[i]? = some c := by rw [Array.getElem?_toList]; exact hc
        refine ⟨rfl, yes ?_⟩
        refine ⟨_, rfl, .str z, rfl, c, z, rfl, rfl, _, gL, ?_, bs ++ [decide (c ∈ tl z)], ?_, ?_, fun b o e => (upd_ne (ne_of_none e hL)).trans (sm _ _ e)⟩
        · rw [List.length_map, be, List.length_map, List.length_take, sizeLine_eq]
          omega
        · rw [upd_same, List.map_append]
          rfl
        · rw [be, List.take_add_one, hc', List.map_append]
          rfl
      · rintro G ⟨bs, gL, be, sm⟩
        refine ⟨L, bs, rfl, SqL.of gL, ?_⟩
        have e2 : bs.all id = (tl x).all fun c => decide (c ∈ tl z) := by
          rw [be, xs, List.take_length, List.all_map]
          rfl
        rw [e2]
        exact k _ sm
    · refine ⟨v, rfl, _, _, _, _, false, rfl, .ty "str", ty, kt, false, rfl, ?_⟩
      exact k _ (Same.refl H)
end
end DW
/-! is_factor and is_product of any object -/
namespace DW
open PySem PySem.Spec PyProof.Rows L2 TL
set_option autoImplicit false
theorem sqT_ty {K : PySem.W.Frag} {H : Hp} {a : Addr} {xs : List V} (h : SqT K H a xs) : TyX K H (.ref a) (.type "tuple") := by
  rcases h with (h | ⟨o, h⟩) | ⟨o, its, n, h, c, _⟩
  · exact .base (.tup h)
  · exact .fTuple h
  · exact .kTuple h c
theorem tup_kit {K : PySem.W.Frag} : PySem.W.kitOne K (.type "tuple") (.type "tuple") = some true := kit_ty (by decide +kernel)
theorem kdo (b : Bool) : decide (V.str (kd b) = V.str "opt") = !b := by
  cases b
  · exact decide_eq_true rfl
  · exact decide_eq_false (by unfold kd; decide +kernel)
theorem kds (b : Bool) : decide (V.str (kd b) = V.str "star") = b := by
  cases b
  · exact decide_eq_false (by unfold kd; decide +kernel)
  · exact decide_eq_true rfl
/-- not a tuple -/
def NoT (K : PySem.W.Frag) (H : Hp) (v : V) : Prop := ∃ t, TyX K H v t ∧ PySem.W.kitOne K t (.type "tuple") = some false
/-- is it a factor: its kind, its letters -/
def facB (z : Str) (k : V) (x : Str) : Bool := (tl x).all (fun c => decide (c ∈ tl z)) && (if decide (k = .str "opt") = true then decide ((tl x).length = 1) else (decide (k = .str "star") && (decide (0 < (tl x).length) && ascB (tl x))))
inductive ObB (K : PySem.W.Frag) (H : Hp) (z : Str) : V → Bool → Prop where
  | no {v : V} (h : NoT K H v) : ObB K H z v false
  | len {a : Addr} {xs : List V} (h : SqT K H a xs) (n : xs.length ≠ 2) : ObB K H z (.ref a) false
  | nos {a : Addr} {k l : V} (h : SqT K H a [k, l]) (n : NoS K H l) : ObB K H z (.ref a) false
  | fac {a : Addr} {k : V} {x : Str} (h : SqT K H a [k, .str x]) (s : ∀ y, scal k (.str y) = true) (xl : (tl x).length ≤ 100000) : ObB K H z (.ref a) (facB z k x)
inductive ObBs (K : PySem.W.Frag) (H : Hp) (z : Str) : List V → List Bool → Prop where
  | nil : ObBs K H z [] []
  | cons {v : V} {b : Bool} {vs : List V} {bs : List Bool} (h : ObB K H z v b) (r : ObBs K H z vs bs) : ObBs K H z (v :: vs) (b :: bs)
theorem ObBs.len {K : PySem.W.Frag} {H : Hp} {z : Str} : ∀ {vs : List V} {bs : List Bool}, ObBs K H z vs bs → vs.length = bs.length
  | _, _, .nil => rfl
  | _, _, .cons _ r => by rw [List.length_cons, List.length_cons, r.len]
theorem ObBs.get {K : PySem.W.Frag} {H : Hp} {z : Str} : ∀ {vs : List V} {bs : List Bool}, ObBs K H z vs bs → ∀ (i : Nat) (v : V), vs[i]? = some v → ∃ b, bs[i]? = some b ∧ ObB K H z v b
  | _, _, .nil, i, v, h => by simp at h
  | _, _, .cons a r, 0, v, h => by
    have e := Option.some.inj h
    subst e
    exact ⟨_, rfl, a⟩
  | _, _, .cons a r, i + 1, v, h => r.get i v h
theorem tyX_same {K : PySem.W.Frag} {H H' : Hp} {v : V} {t : Value} (s : Same H H') (h : TyX K H v t) : TyX K H' v t := by
  cases h with
  | base b =>
    refine .base ?_
    cases b with
    | non => exact .non
    | bl y => exact .bl y
    | int i => exact .int i
    | str y => exact .str y
    | flt y => exact .flt y
    | lst e => exact .lst (s _ _ e)
    | frz e => exact .frz (s _ _ e)
    | tup e => exact .tup (s _ _ e)
    | dK e => exact .dK (s _ _ e)
    | dT e => exact .dT (s _ _ e)
    | ins e a b c d f => exact .ins (s _ _ e) a b c d f
  | byt b => exact .byt b
  | set e => exact .set (s _ _ e)
  | kList e c => exact .kList e c
  | kTuple e c => exact .kTuple e c
  | kDict e c => exact .kDict e c
  | fTuple e => exact .fTuple (s _ _ e)
  | fDict e => exact .fDict (s _ _ e)
theorem ObB.same {K : PySem.W.Frag} {H H' : Hp} {z : Str} {v : V} {b : Bool} (s : Same H H') (h : ObB K H z v b) : ObB K H' z v b := by
  cases h with
  | no h =>
    obtain ⟨t, ty, kt⟩ := h
    exact .no ⟨t, tyX_same s ty, kt⟩
  | len h n => exact .len (same_tup s _ _ h) n
  | nos h n =>
    obtain ⟨t, ty, kt⟩ := n
    exact .nos (same_tup s _ _ h) ⟨t, tyX_same s ty, kt⟩
  | fac h sc xl => exact .fac (same_tup s _ _ h) sc xl
/-- what is told of an object that may be a product -/
inductive PrB (K : PySem.W.Frag) (H : Hp) (z : Str) : V → Bool → Prop where
  | no {v : V} (h : NoT K H v) : PrB K H z v false
  | tup {a : Addr} {xs : List V} {bs : List Bool} (h : SqT K H a xs) (o : ObBs K H z xs bs) (l : bs.length ≤ 100000) : PrB K H z (.ref a) (bs.all id)
def spIf (K : PySem.W.Frag) : Sp := fun vs H Q _ => ∃ (z : Str) (v : V) (b : Bool), vs = [.str z, v] ∧ ObB K H z v b ∧ ∀ H', Same H H' → Q (.bl b) H'
def spIp (K : PySem.W.Frag) : Sp := fun vs H Q _ => ∃ (z : Str) (v : V) (b : Bool), vs = [.str z, v] ∧ PrB K H z v b ∧ ∀ H', Same H H' → Q (.bl b) H'
theorem ascB_of {l : List Nat} (h : l.Pairwise (· < ·)) : ascB l = true := by
  induction l with
  | nil => rfl
  | cons a l ih =>
    cases l with
    | nil => rfl
    | cons b r =>
      obtain ⟨h1, h2⟩ := List.pairwise_cons.mp h
      show (decide (a < b) && ascB (b :: r)) = true
      rw [ih h2, decide_eq_true (h1 b List.mem_cons_self)]
      rfl
/-- a factor that was drawn is one -/
theorem IsF.ob {K : PySem.W.Frag} {H : Hp} {z : Str} {v : V} {f : Fc} (h : IsF K H v f) (fo : FOk z f) (al : Alph z) : ObB K H z v true := by
  obtain ⟨a, rfl, hq⟩ := h
  have fl : (tl f.2).length ≤ 3 := Nat.le_trans fo.2.1.length_le al.2.2.1
  have e : facB z (.str (kd f.1)) f.2 = true := by
    unfold facB
    rw [Bool.and_eq_true]
    refine ⟨List.all_eq_true.mpr fun c hc => decide_eq_true (fo.2.1.subset hc), ?_⟩
    rw [kdo, kds]
    cases q : f.1 with
    | false => exact decide_eq_true (fo.2.2 q)
    | true =>
      rw [ascB_of (al.1.sublist fo.2.1), decide_eq_true (List.length_pos_iff.mpr fo.1)]
      rfl
  have o := ObB.fac (z := z) hq (fun _ => rfl) (Nat.le_trans fl (by decide))
  rw [e] at o
  exact o
theorem IsFs.obs {K : PySem.W.Frag} {H : Hp} {z : Str} (al : Alph z) : ∀ {vs : List V} {fs : List Fc}, IsFs K H vs fs → (∀ f ∈ fs, FOk z f) → ∃ bs, ObBs K H z vs bs ∧ bs.all id = true ∧ bs.length = fs.length
  | _, _, .nil, _ => ⟨[], .nil, rfl, rfl⟩
  | _, _, .cons a r, h => by
    obtain ⟨bs, o, e, l⟩ := r.obs al fun f hf => h f (List.mem_cons_of_mem _ hf)
    refine ⟨true :: bs, .cons (a.ob (h _ List.mem_cons_self) al) o, ?_, by rw [List.length_cons, List.length_cons, l]⟩
    rw [List.all_cons, e]
    rfl
theorem IsP.pr {K : PySem.W.Frag} {H : Hp} {z : Str} {v : V} {fs : List Fc} (al : Alph z) (h : IsP K H v fs) (fo : ∀ f ∈ fs, FOk z f) (l : fs.length ≤ 100000) : PrB K H z v true := by
  obtain ⟨a, xs, rfl, hq, iF⟩ := h
  obtain ⟨bs, o, e, bl⟩ := iF.obs al fo
  rw [← e]
  exact .tup hq o (by rw [bl]; exact l)
section
variable {P : Program} {w : World} {K : PySem.W.Frag} {mg : Str → Option Value} {base : Heap}
structure DfPr (K : PySem.W.Frag) (mg : Str → Option Value) where
  p : Df K mg "is_product" sIsProduct ["alphabet", "thing"]
  f : Df K mg "is_factor" sIsFactor ["alphabet", "thing"]
  w : Df K mg "is_word" sIsWord ["alphabet", "thing"]
  a : Df K mg "is_ascending" sIsAscending ["letters"]
  ma : mg "all" = none
  mz : mg "zip" = none
  mi : mg "isinstance" = none
  ms : mg "str" = none
  mt : mg "tuple" = none
  ml : mg "len" = none
theorem scIf : FnScope ["alphabet", "thing", "kind", "letters"] ["alphabet", "thing"] (defScope sIsFactor) := ⟨rfl, rfl, rfl, by decide +kernel, rfl, by decide +kernel, by decide +kernel⟩
theorem ok_if (D : DfPr K mg) : FnOk P w K mg base CX0 2 D.f.f D.f.fd ["alphabet", "thing"] (spIf K) := by
  have Gw : FnOk P w K mg base CX0 1 D.w.f D.w.fd ["alphabet", "thing"] (spIw K) := ok_iw D.w D.ma D.mi D.ms
  have Ga : FnOk P w K mg base CX0 1 D.a.f D.a.fd ["letters"] spAsc := ok_asc D.a D.ma D.mz
  refine D.f.F.ok scIf (fun vs H Q E h => ?_) (fun cdv A outer s H vs Q E hr h => ?_)
  · obtain ⟨z, v, f, rfl, _⟩ := h
    rfl
  · obtain ⟨z, v, b, rfl, ob, k⟩ := h
    have sz : ∀ y : Str, y.length = (tl y).length := fun y => (Array.length_toList).symm
    have mt := D.mt
    have mi := D.mi
    have ml := D.ml
    refine ⟨_, (pss_cons (ps_if (pw_or (pt_not (pt_val (pe_callB call_isi (by rfl) mi (by decide +kernel) (pa_cons (pv 1) (pa_cons (pe_bltn (v := V.ty "tuple") (by rfl) mt (by decide +kernel : bootBuiltins "tuple" = some (.type "tuple")) rfl) pa_nil))))) (pw_or1 (pt_cmpR op_ne (pe_callB call_len_seq (by rfl) ml PySem.boot_len (pa_cons (pv 1) pa_nil)) pe_int (nomark _)))).pt (pss_one (ps_ret pe_bl)) pss_nil) (pss_cons (ps_asg (pv 1) (pg_tup rfl (pgs_cons (pg_name (i := 2) scIf.nd rfl (.inl rfl)) (pgs_cons (pg_name (i := 3) scIf.nd rfl (.inl rfl)) pgs_nil)))) (pss_cons (ps_if (pt_not (pt_val (pe_call Gw hr (by rfl) D.w.g D.w.F.kp D.w.b .nil pass0 (pa_cons (pv 0) (pa_cons (pv 3) pa_nil))))) (pss_one (ps_ret pe_bl)) pss_nil) (pss_cons (ps_if (pt_cmpR op_eq (pv 2) pe_str (nomark _)) (pss_one (ps_ret (pe_cmpR op_eq (pe_callB call_len_str (by rfl) ml PySem.boot_len (pa_cons (pv 3) pa_nil)) pe_int (nomark _)))) pss_nil) (pss_one (ps_ret (pe_and (pe_cmpR op_eq (pv 2) pe_str (nomark _)) (pe_and (pe_cmpR op_gt (pe_callB call_len_str (by rfl) ml PySem.boot_len (pa_cons (pv 3) pa_nil)) pe_int (nomark _)) (pe_one (pe_call Ga hr (by rfl) D.a.g D.a.F.kp D.a.b .nil pass0 (pa_cons (pv 3) pa_nil))))))))))), ?_⟩
    cases ob with
    | no h =>
      obtain ⟨t, ty, kt⟩ := h
      exact ⟨v, rfl, _, _, _, _, false, rfl, .ty "tuple", ty, kt, false, rfl, iteT (k _ (Same.refl _))⟩
    | @len a xs h n =>
      refine ⟨.ref a, rfl, _, _, _, _, true, rfl, .ty "tuple", sqT_ty h, tup_kit, true, rfl, iteF ?_⟩
      refine ⟨.ref a, rfl, a, _, rfl, .inr h, rfl, _, rfl, ?_⟩
      rw [show (!decide (V.int (xs.length : Int) = V.int 2)) = true by
        rw [decide_eq_false fun e => by
          have := V.int.inj e
          omega]
        rfl]
      exact iteT (k _ (Same.refl _))
    | @nos a kk l h n =>
      refine ⟨.ref a, rfl, _, _, _, _, true, rfl, .ty "tuple", sqT_ty h, tup_kit, true, rfl, iteF ?_⟩
      refine ⟨.ref a, rfl, a, _, rfl, .inr h, rfl, _, rfl, iteF ?_⟩
      refine ⟨.ref a, rfl, a, _, rfl, h, rfl, _, _, rfl, _, _, rfl, rfl, ?_⟩
      refine ⟨.str z, rfl, l, rfl, z, l, rfl, .inr ⟨n, fun H1 s1 => ?_⟩⟩
      exact ⟨_, rfl, iteT (k _ s1)⟩
    | @fac a kk x h sc xl =>
      refine ⟨.ref a, rfl, _, _, _, _, true, rfl, .ty "tuple", sqT_ty h, tup_kit, true, rfl, iteF ?_⟩
      refine ⟨.ref a, rfl, a, _, rfl, .inr h, rfl, _, rfl, iteF ?_⟩
      refine ⟨.ref a, rfl, a, _, rfl, h, rfl, _, _, rfl, _, _, rfl, rfl, ?_⟩
      refine ⟨.str z, rfl, .str x, rfl, z, .str x, rfl, .inl ⟨x, rfl, xl, fun H1 s1 => ?_⟩⟩
      unfold facB at k
      cases q1 : (tl x).all (fun c => decide (c ∈ tl z)) with
      | false =>
        rw [q1] at k
        exact ⟨_, rfl, iteT (k _ s1)⟩
      | true =>
        rw [q1, Bool.true_and] at k
        refine ⟨_, rfl, iteF ?_⟩
        refine ⟨_, rfl, sc _, _, rfl, ?_⟩
        have xsz : x.length ≤ sizeLine := by
          rw [sz, sizeLine_eq]
          omega
        by_cases q2 : decide (kk = V.str "opt") = true
        · rw [if_pos q2] at k
          rw [q2]
          refine iteT ?_
          refine ⟨.str x, rfl, x, rfl, xsz, rfl, ?_⟩
          have e : decide (V.int (x.length : Int) = V.int 1) = decide ((tl x).length = 1) := by
            rw [decide_eq_decide, sz]
            constructor
            · intro e
              have := V.int.inj e
              omega
            · intro e
              rw [e]
              rfl
          rw [e]
          exact k _ s1
        · rw [if_neg q2] at k
          rw [show decide (kk = V.str "opt") = false by simpa using q2]
          refine iteF ?_
          refine ⟨_, rfl, sc _, _, rfl, ?_⟩
          by_cases q3 : decide (kk = V.str "star") = true
          · rw [q3, Bool.true_and] at k
            rw [q3]
            refine iteT ?_
            refine ⟨.str x, rfl, x, rfl, xsz, _, _, rfl, rfl, _, rfl, ?_⟩
            have e : decide ((x.length : Int) > 0) = decide (0 < (tl x).length) := by
              rw [decide_eq_decide, sz]
              omega
            rw [e]
            by_cases q4 : decide (0 < (tl x).length) = true
            · rw [q4, Bool.true_and] at k
              rw [q4]
              refine iteT ?_
              exact ⟨.str x, rfl, x, rfl, xl, fun H2 s2 => k _ (s1.trans s2)⟩
            · rw [show decide (0 < (tl x).length) = false by simpa using q4] at k
              rw [show decide (0 < (tl x).length) = false by simpa using q4]
              exact iteF (k _ s1)
          · rw [show decide (kk = V.str "star") = false by simpa using q3] at k
            rw [show decide (kk = V.str "star") = false by simpa using q3]
            exact iteF (k _ s1)
theorem scIp : FnScope ["alphabet", "thing", "factor"] ["alphabet", "thing"] (defScope sIsProduct) := ⟨rfl, rfl, rfl, by decide +kernel, rfl, by decide +kernel, by decide +kernel⟩
theorem ok_ip (D : DfPr K mg) : FnOk P w K mg base CX0 3 D.p.f D.p.fd ["alphabet", "thing"] (spIp K) := by
  have Gf : FnOk P w K mg base CX0 2 D.f.f D.f.fd ["alphabet", "thing"] (spIf K) := ok_if D
  refine D.p.F.ok scIp (fun vs H Q E h => ?_) (fun cdv A outer s H vs Q E hr h => ?_)
  · obtain ⟨z, v, f, rfl, _⟩ := h
    rfl
  · obtain ⟨z, v, b, rfl, pr, k⟩ := h
    have mt := D.mt
    have mi := D.mi
    have ma := D.ma
    refine ⟨_, (pss_one (ps_ret (pe_and (pe_callB call_isi (by rfl) mi (by decide +kernel) (pa_cons (pv 1) (pa_cons (pe_bltn (v := V.ty "tuple") (by rfl) mt (by decide +kernel : bootBuiltins "tuple" = some (.type "tuple")) rfl) pa_nil))) (pe_one (pe_callB (cr_all rfl) (by rfl) ma (by decide +kernel) (pa_cons (pe_lc (own := [("factor", 2)]) (g := gName 2) rfl scIp.nd (pi_tup (pv 1)) (blkOk_by (N := ["alphabet", "thing", "factor"]) (sc := defScope sIsProduct) (by decide +kernel)) (fun _ _ _ _ _ => pg_name (i := 2) scIp.nd rfl (Or.inl rfl)) (fun _ _ _ _ _ => pts_nil) (fun _ _ _ _ _ => (pe_call Gf hr (by rfl) D.f.g D.f.F.kp D.f.b .nil pass0 (pa_cons (pv 0) (pa_cons (pv 2) pa_nil))))) pa_nil)))))), ?_⟩
    cases pr with
    | no h =>
      obtain ⟨t, ty, kt⟩ := h
      exact ⟨v, rfl, _, _, _, _, false, rfl, .ty "tuple", ty, kt, false, rfl, iteF (k _ (Same.refl _))⟩
    | @tup a xs bs hq o bl =>
      refine ⟨.ref a, rfl, _, _, _, _, true, rfl, .ty "tuple", sqT_ty hq, tup_kit, true, rfl, iteT ?_⟩
      refine ⟨.ref a, rfl, a, rfl, ⟨_, hq⟩, fun L hL => ?_⟩
      have sL := same_upd (o := .lst []) hL
      have xl := o.len
      refine lc_it (walk_tup (xs := xs)) (fun i H' => H' L = some (.lst ((bs.take i).map V.bl)) ∧ Same H H') ⟨upd_same, sL⟩ (fun _ _ _ ⟨_, sm⟩ => same_tup sm _ _ hq) ?_ ?_
      · rintro i v G G' hi ⟨gL, sm⟩ ⟨rfl, hv⟩
        obtain ⟨b, hb, ob⟩ := o.get i v hv
        refine ⟨rfl, yes ?_⟩
        refine ⟨.str z, rfl, v, rfl, z, v, b, rfl, ob.same sm, fun H2 s2 => ?_⟩
        refine ⟨_, s2 _ _ gL, ?_, ?_, fun b o e => (upd_ne (ne_of_none e hL)).trans ((sm.trans s2) _ _ e)⟩
        · rw [List.length_map, List.length_take, sizeLine_eq]
          omega
        · rw [upd_same, List.take_add_one, hb, List.map_append]
          rfl
      · rintro G ⟨gL, sm⟩
        refine ⟨L, _, rfl, SqL.of gL, ?_⟩
        rw [xl, List.take_length]
        exact k _ sm
end
end DW
/-! class Language: made, contains -/
namespace DW
open PySem PySem.Spec PyProof.Rows L2 TL
set_option autoImplicit false
def clsBody (s : Stmt) : List Stmt := match s with
  | .ClassDef _ _ _ b _ _ _ _ _ _ _ => b
  | _ => []
def clsS (i j : Nat) : Stmt := (clsBody (topS i)).getD j (.Pass ⟨0, 0, 0, 0⟩)
abbrev sLangInit : Stmt := clsS 31 0
abbrev sLangContains : Stmt := clsS 31 3
/-- a method as the top has made it -/
structure DfM (K : PySem.W.Frag) (C : Addr) (x q : Str) (st : Stmt) (ps : List Str) where
  f : Addr
  fd : FuncData
  F : FunD K x q (defArgs st) (defBody st) (defScope st) [] [] f fd
  b : Binds K fd ps []
/-- the class -/
structure DfC (K : PySem.W.Frag) (mg : Str → Option Value) where
  C : Addr
  g : mg "Language" = some (.ref C)
  cl : Cls K C
  nB : NoAttr K C "base"
  nM : NoAttr K C "maximal"
  i : DfM K C "__init__" "Language.__init__" sLangInit ["self", "alphabet", "products"]
  mkr : Mk K C i.f
  c : DfM K C "contains" "Language.contains" sLangContains ["self", "word"]
  mc : Meth K C "contains" c.f
structure DfLa (K : PySem.W.Frag) (mg : Str → Option Value) extends DfC K mg where
  al : Df K mg "is_alphabet" sIsAlphabet ["thing"]
  pr : DfPr K mg
  mx : DfMx K mg
  sp : Df K mg "subwords_product" sSubwordsProduct ["word"]
  me : mg "enumerate" = none
  mli : mg "list" = none
def flL (z : Str) (q : Addr) : List (Str × V) := putF "maximal" (.ref q) (putF "base" (.str z) [])
theorem flL_base (z : Str) (q : Addr) : (flL z q).lookup ("base" : Str) = some (V.str z) := by
  unfold flL
  rw [lookup_putF, if_neg (by decide), lookup_putF, if_pos rfl]
theorem flL_max (z : Str) (q : Addr) : (flL z q).lookup ("maximal" : Str) = some (V.ref q) := by
  unfold flL
  rw [lookup_putF, if_pos rfl]
theorem flL_no {m : Str} (z : Str) (q : Addr) (h1 : m ≠ "maximal") (h2 : m ≠ "base") : (flL z q).lookup m = none := by
  unfold flL
  rw [lookup_putF, if_neg h1, lookup_putF, if_neg h2]
  rfl
/-- a Language stands at p -/
structure LaAt (K : PySem.W.Frag) (C : Addr) (H : Hp) (p : Addr) (z : Str) (zs : List (List Fc)) : Prop where
  ob : ∃ dx q ys, H p = some (.ins C dx (flL z q)) ∧ H q = some (.lst ys) ∧ IsL K H ys zs
def spLi (K : PySem.W.Frag) (C : Addr) : Sp := fun vs H Q _ => ∃ (p dx a : Addr) (z : Str) (xs : List V) (ps : List (List Fc)), vs = [.ref p, .str z, .ref a] ∧ H p = some (.ins C dx []) ∧ H a = some (.lst xs) ∧ IsL K H xs ps ∧ Alph z ∧ ps.length ≤ 1000000 ∧ (∀ p ∈ ps, p.length ≤ 10000 ∧ ∀ f ∈ p, FOk z f) ∧
  ∀ H' zs, (∀ b o, H b = some o → b ≠ p → H' b = some o) → LaAt K C H' p z zs → MaxOf ps zs → (∃ dx q ys, H' p = some (.ins C dx (flL z q)) ∧ H' q = some (.lst ys) ∧ IsL K H' ys zs ∧ H q = none) → Q .non H'
section
variable {P : Program} {w : World} {K : PySem.W.Frag} {mg : Str → Option Value} {base : Heap}
theorem alphB_of {z : Str} (h : Alph z) : alphB (tl z) = true := by
  obtain ⟨h1, h2, h3, h4⟩ := h
  unfold alphB
  rw [decide_eq_true h2, decide_eq_true h3, ascB_of h1]
  simp only [Bool.true_and, Bool.and_true]
  refine List.all_eq_true.mpr fun c hc => ?_
  unfold lowB
  rw [decide_eq_true (h4 c hc).1, decide_eq_true (h4 c hc).2]
  rfl
theorem upd_ins {K : PySem.W.Frag} {H : Hp} {p C dx : Addr} {fs : List (Str × V)} {o : HO} (hp : H p = some (.ins C dx fs)) (b : Addr) (xs : List V) (h : SqT K H b xs) : SqT K (upd H p o) b xs := by
  rcases h with (h | ⟨v, h⟩) | h
  · exact .inl (.inl ((upd_ne (ne_of h hp (by intro z; cases z))).trans h))
  · exact .inl (.inr ⟨v, (upd_ne (ne_of h hp (by intro z; cases z))).trans h⟩)
  · exact .inr h
theorem lst_kit {K : PySem.W.Frag} : PySem.W.kitOne K (.type "list") (.type "list") = some true := kit_ty (by decide +kernel)
theorem scLi : FnScope ["self", "alphabet", "products", "index", "product"] ["self", "alphabet", "products"] (defScope sLangInit) := ⟨rfl, rfl, rfl, by decide +kernel, rfl, by decide +kernel, by decide +kernel⟩
theorem ok_li (D : DfLa K mg) : FnOk P w K mg base CX0 7 D.i.f D.i.fd ["self", "alphabet", "products"] (spLi K D.C) := by
  have Ga : FnOk P w K mg base CX0 2 D.al.f D.al.fd ["thing"] (spAlp K) := ok_alp D.al D.pr.a D.pr.ma D.pr.mz D.pr.mi D.pr.ms D.pr.ml D.mx.mm
  have Gp : FnOk P w K mg base CX0 3 D.pr.p.f D.pr.p.fd ["alphabet", "thing"] (spIp K) := ok_ip D.pr
  have Gm : FnOk P w K mg base CX0 6 D.mx.m.f D.mx.m.fd ["products"] (spMx K) := ok_mx D.mx
  refine D.i.F.ok scLi (fun vs H Q E h => ?_) (fun cdv A outer s H vs Q E hr h => ?_)
  · obtain ⟨p, dx, a, z, xs, ps, rfl, _⟩ := h
    rfl
  · obtain ⟨p, dx, a, z, xs, ps, rfl, hp, ha, iL, al, pl, pok, k⟩ := h
    have hr2 : Room 2 _ := hr.mono (by decide)
    have hr3 : Room 3 _ := hr.mono (by decide)
    have xl := iL.len
    refine ⟨_, PSs.nox (pss_cons (ps_if (pt_not (pt_val (pe_call Ga hr2 (by rfl) D.al.g D.al.F.kp D.al.b .nil pass0 (pa_cons (pv 1) pa_nil)))) (pss_one ps_never) pss_nil) (pss_cons (ps_if (pt_not (pt_val (pe_callB call_isiT (by rfl) D.pr.mi (by decide +kernel) (pa_cons (pv 2) (pa_cons (pe_tup (pa_cons (pe_bltn (v := V.ty "list") (by rfl) D.mli (by decide +kernel : bootBuiltins "list" = some (.type "list")) rfl) (pa_cons (pe_bltn (v := V.ty "tuple") (by rfl) D.pr.mt (by decide +kernel : bootBuiltins "tuple" = some (.type "tuple")) rfl) pa_nil))) pa_nil))))) (pss_one ps_never) pss_nil) (pss_cons (ps_for PassesOwn.never rfl (pi_enum (by rfl) D.me (pa_cons (pv 2) pa_nil)) (pg_tup rfl (pgs_cons (pg_name (i := 3) scLi.nd rfl (.inl rfl)) (pgs_cons (pg_name (i := 4) scLi.nd rfl (.inl rfl)) pgs_nil))) (pss_one (ps_if (pt_not (pt_val (pe_call Gp hr3 (by rfl) D.pr.p.g D.pr.p.F.kp D.pr.p.b .nil pass0 (pa_cons (pv 1) (pa_cons (pv 4) pa_nil))))) (pss_one ps_never) pss_nil))) (pss_cons (ps_fld (pv 0) (pv 1) rfl) (pss_one (ps_fld (pv 0) (pe_call Gm hr (by rfl) D.mx.m.g D.mx.m.F.kp D.mx.m.b .nil pass0 (pa_cons (pv 2) pa_nil)) rfl)))))), ?_⟩
    have zl : (tl z).length ≤ 100000 := by
      have := al.2.2.1
      omega
    refine ⟨.str z, rfl, .str z, rfl, .inl ⟨z, rfl, zl, fun H1 s1 => ⟨_, rfl, ?_⟩⟩⟩
    rw [alphB_of al]
    refine iteF ?_
    refine ⟨.ref a, rfl, by rw [sizeLine_eq]; decide, fun T0 hT0 => ?_⟩
    have sT := same_upd (o := .tup [V.ty "list", V.ty "tuple"]) hT0
    have sH := s1.trans sT
    refine ⟨.ref a, T0, _, .type "list", [.type "list", .type "tuple"], true, rfl, upd_same, .cons (.ty _) (.cons (.ty _) .nil), .base (.lst (sH _ _ ha)), ?_, true, rfl, iteF ?_⟩
    · unfold PySem.W.kitAny
      rw [lst_kit]
    refine ⟨.ref a, rfl, a, xs, rfl, SqL.of (sH _ _ ha), for_it (walk_enum (xs := xs)) (fun i σ G => ∃ y3 y4, σ = [some (.ref p), some (.str z), some (.ref a), y3, y4] ∧ Same H G) ⟨_, _, rfl, sH⟩ (fun _ _ _ _ ⟨_, _, _, sm⟩ => SqL.of (sm _ _ ha)) ?_ ?_⟩
    · rintro i x σ G G' hi ⟨y3, y4, rfl, sm⟩ ⟨T, c, y, rfl, hT, rfl, hc, hy⟩
      have s2 := sm.trans (same_upd (o := .tup [c, y]) hT)
      obtain ⟨q, hq, isq⟩ := iL.get i y hy
      have qm : q ∈ ps := List.mem_of_getElem? hq
      obtain ⟨q1, q2⟩ := pok q qm
      refine ⟨T, [c, y], rfl, SqT.of upd_same, rfl, _, _, rfl, _, _, rfl, rfl, ?_⟩
      exact ⟨.str z, rfl, y, rfl, z, y, true, rfl, IsP.pr al (isq.mono (same_tup s2)) q2 (by omega), fun H2 s3 => ⟨_, rfl, iteF ⟨_, _, rfl, s2.trans s3⟩⟩⟩
    · rintro σ G ⟨y3, y4, rfl, sm⟩
      have hpG := sm _ _ hp
      have npa : a ≠ p := ne_of ha hp (by intro z; cases z)
      refine ⟨.str z, rfl, .ref p, rfl, p, D.C, dx, [], rfl, hpG, D.cl, D.nB, by decide, ?_⟩
      refine ⟨.ref a, rfl, a, xs, ps, rfl, SqL.of ((upd_ne npa).trans (sm _ _ ha)), (iL.mono (same_tup sm)).mono (fun b xs h => upd_ins hpG b xs h), pl, fun q hq => ⟨(pok q hq).1, fun f hf => fok_low al ((pok q hq).2 f hf)⟩, fun H' q ys zs s2 nq hq iZ mo => ?_⟩
      have hp2 := s2 _ _ (upd_same : (upd G p (.ins D.C dx (putF "base" (V.str z) []))) p = _)
      have nqp : q ≠ p := fun e => by
        rw [e, upd_same] at nq
        cases nq
      refine ⟨.ref p, rfl, p, D.C, dx, _, rfl, hp2, D.cl, D.nM, (by show 1 < 1000; decide), ?_⟩
      have fq : H q = none := by
        rw [upd_ne nqp] at nq
        exact sm.free nq
      refine k _ zs (fun b o hb nb => ?_) ⟨dx, q, ys, upd_same, (upd_ne nqp).trans hq, iZ.mono (fun b xs h => upd_ins hp2 b xs h)⟩ mo ⟨dx, q, ys, upd_same, (upd_ne nqp).trans hq, iZ.mono (fun b xs h => upd_ins hp2 b xs h), fq⟩
      exact (upd_ne nb).trans (s2 _ _ ((upd_ne nb).trans (sm _ _ hb)))
end
end DW
/-! class Language: contains, and what it says -/
namespace DW
open PySem PySem.Spec PyProof.Rows L2 TL
set_option autoImplicit false
def hasW (zs : List (List Fc)) (u : List Nat) : Bool := zs.any fun q => inc q (ones u)
def spLc (K : PySem.W.Frag) (C : Addr) : Sp := fun vs H Q _ => ∃ (p : Addr) (x z : Str) (zs : List (List Fc)), vs = [.ref p, .str x] ∧ LaAt K C H p z zs ∧ (∀ q ∈ zs, ∀ f ∈ q, Low f) ∧ (∀ c ∈ tl x, c < 128) ∧ (tl x).length ≤ 100000 ∧ ∀ H', Same H H' → Q (.bl (hasW zs (tl x))) H'
section
variable {P : Program} {w : World} {K : PySem.W.Frag} {mg : Str → Option Value} {base : Heap}
theorem LaAt.same {C : Addr} {H H' : Hp} {p : Addr} {z : Str} {zs : List (List Fc)} (L : LaAt K C H p z zs) (s : Same H H') : LaAt K C H' p z zs := by
  obtain ⟨dx, q, ys, h1, h2, h3⟩ := L
  exact ⟨dx, q, ys, s _ _ h1, s _ _ h2, h3.mono (same_tup s)⟩
theorem LaAt.kp {C : Addr} {H H' : Hp} {t p : Addr} {z : Str} {zs : List (List Fc)} (L : LaAt K C H p z zs) (s : Kp t H H') : LaAt K C H' p z zs := by
  obtain ⟨dx, q, ys, h1, h2, h3⟩ := L
  exact ⟨dx, q, ys, s.at h1 (fun _ z => by cases z), s.at h2 (fun _ z => by cases z), h3.mono (kp_tup s)⟩
theorem LaAt.put {C : Addr} {H : Hp} {p b : Addr} {o u : HO} {z : Str} {zs : List (List Fc)} (L : LaAt K C H p z zs) (hb : H b = some u) (n1 : ∀ C dx fs, u ≠ .ins C dx fs) (n2 : ∀ dx q ys, H p = some (.ins C dx (flL z q)) → H q = some (.lst ys) → b ≠ q) (m : ∀ c xs, SqT K H c xs → SqT K (upd H b o) c xs) : LaAt K C (upd H b o) p z zs := by
  obtain ⟨dx, q, ys, h1, h2, h3⟩ := L
  exact ⟨dx, q, ys, (upd_ne (ne_of h1 hb (fun z => n1 _ _ _ z.symm))).trans h1, (upd_ne (n2 dx q ys h1 h2).symm).trans h2, h3.mono m⟩
theorem scLc : FnScope ["self", "word"] ["self", "word"] (defScope sLangContains) := ⟨rfl, rfl, rfl, by decide +kernel, rfl, by decide +kernel, by decide +kernel⟩
theorem ok_lc (D : DfLa K mg) : FnOk P w K mg base CX0 6 D.c.f D.c.fd ["self", "word"] (spLc K D.C) := by
  have Gs : FnOk P w K mg base CX0 1 D.sp.f D.sp.fd ["word"] (spSubw K) := ok_subw D.sp D.pr.mt
  have Gi : FnOk P w K mg base CX0 5 D.mx.i.f D.mx.i.fd ["product", "products"] (spIn K) := ok_in D.mx.i D.mx.incl D.pr.ma D.pr.ml
  refine D.c.F.ok scLc (fun vs H Q E h => ?_) (fun cdv A outer s H vs Q E hr h => ?_)
  · obtain ⟨p, x, z, zs, rfl, _⟩ := h
    rfl
  · obtain ⟨p, x, z, zs, rfl, ⟨dx, q, ys, h1, h2, h3⟩, zlow, xlow, xl, k⟩ := h
    have hr1 : Room 1 _ := hr.mono (by decide)
    refine ⟨_, (pss_one (ps_ret (pe_call Gi hr (by rfl) D.mx.i.g D.mx.i.F.kp D.mx.i.b .nil pass0 (pa_cons (pe_call Gs hr1 (by rfl) D.sp.g D.sp.F.kp D.sp.b .nil pass0 (pa_cons (pv 1) pa_nil)) (pa_cons (pe_fld (pv 0) rfl) pa_nil))))), ?_⟩
    refine ⟨.str x, rfl, x, rfl, xl, fun H1 v s1 isv => ?_⟩
    exact ⟨.ref p, rfl, p, D.C, dx, _, _, rfl, s1 _ _ h1, D.cl, D.nM, flL_max _ _, v, q, ones (tl x), ys, zs, rfl, isv, SqL.of (s1 _ _ h2), h3.mono (same_tup s1), low_ones xlow, zlow, fun H2 s2 => k _ (s1.trans s2)⟩
/-! ### what contains says -/
theorem pick_sup : ∀ (l : List Gp) (M : List (List Fc)) (r : List Fc), (r ∈ M ∨ (∃ m ∈ M, inc m r = true) ∨ ∃ g ∈ l, r ∈ g.2) → r ∈ l.foldl keepG M ∨ ∃ m ∈ l.foldl keepG M, inc m r = true
  | [], M, r, h => by
    rcases h with q | q | ⟨g, hg, _⟩
    · exact .inl q
    · exact .inr q
    · exact (nomatch hg)
  | g :: l, M, r, h => by
    refine pick_sup l _ r ?_
    rcases h with q | ⟨m, hm, hi⟩ | ⟨g', hg, hr⟩
    · exact .inl (List.mem_append_left _ q)
    · exact .inr (.inl ⟨m, List.mem_append_left _ hm, hi⟩)
    · rcases List.mem_cons.mp hg with e | e
      · subst e
        cases c : M.any fun m => inc m r with
        | false => exact .inl (List.mem_append_right _ (List.mem_filter.mpr ⟨hr, by rw [c]; rfl⟩))
        | true =>
          obtain ⟨m, hm, hi⟩ := List.any_eq_true.mp c
          exact .inr (.inl ⟨m, List.mem_append_left _ hm, hi⟩)
      · exact .inr (.inr ⟨g', e, hr⟩)
theorem MaxOf.sub {ps zs : List (List Fc)} (M : MaxOf ps zs) : ∀ q ∈ zs, ∃ p ∈ ps, q = red p := fun q hq => by
  obtain ⟨Gs, gr, rfl⟩ := M
  rcases pick_sub _ _ q (List.mem_mergeSort.mp hq) with e | ⟨g, h1, h2⟩
  · exact (nomatch e)
  · exact (gr.mem q).mp ⟨g, List.mem_mergeSort.mp h1, h2⟩
theorem MaxOf.sup {ps zs : List (List Fc)} (M : MaxOf ps zs) : ∀ p ∈ ps, red p ∈ zs ∨ ∃ m ∈ zs, inc m (red p) = true := fun p hp => by
  obtain ⟨Gs, gr, rfl⟩ := M
  obtain ⟨g, h1, h2⟩ := (gr.mem (red p)).mpr ⟨p, hp, rfl⟩
  rcases pick_sup (Gs.mergeSort leK) [] (red p) (.inr (.inr ⟨g, List.mem_mergeSort.mpr h1, h2⟩)) with q | ⟨m, hm, hi⟩
  · exact .inl (List.mem_mergeSort.mpr q)
  · exact .inr ⟨m, List.mem_mergeSort.mpr hm, hi⟩
theorem red_w1 {p : List Fc} (h : W1 p) : W1 (red p) := fun f hf => h f (red_mem hf)
theorem MaxOf.has {ps zs : List (List Fc)} (M : MaxOf ps zs) (wp : ∀ p ∈ ps, W1 p) (u : List Nat) : hasW zs u = true ↔ ∃ p ∈ ps, Lg p u := by
  unfold hasW
  rw [List.any_eq_true]
  constructor
  · rintro ⟨q, hq, hi⟩
    obtain ⟨p, hp, rfl⟩ := M.sub q hq
    exact ⟨p, hp, (red_lg p u).mpr ((acc_iff (red_w1 (wp p hp)) u).mp hi)⟩
  · rintro ⟨p, hp, hl⟩
    have l1 : Lg (red p) u := (red_lg p u).mp hl
    rcases M.sup p hp with q | ⟨m, hm, hi⟩
    · exact ⟨_, q, (acc_iff (red_w1 (wp p hp)) u).mpr l1⟩
    · obtain ⟨p', hp', rfl⟩ := M.sub m hm
      exact ⟨_, hm, (acc_iff (red_w1 (wp p' hp')) u).mpr (inc_sound _ _ hi u l1)⟩
theorem MaxOf.low {ps zs : List (List Fc)} (M : MaxOf ps zs) (h : ∀ p ∈ ps, ∀ f ∈ p, Low f) : ∀ q ∈ zs, ∀ f ∈ q, Low f := fun q hq f hf => by
  obtain ⟨p, hp, rfl⟩ := M.sub q hq
  exact h p hp f (red_mem hf)
/-- fewer letters: still there -/
theorem MaxOf.less {ps zs : List (List Fc)} (M : MaxOf ps zs) (wp : ∀ p ∈ ps, W1 p) {u v : List Nat} (s : v.Sublist u) (h : hasW zs u = true) : hasW zs v = true := by
  obtain ⟨p, hp, hl⟩ := (M.has wp u).mp h
  exact (M.has wp v).mpr ⟨p, hp, hl.sub s⟩
end
end DW
/-! towards one list for each language: the product of all words -/
namespace DW
open PySem PySem.Spec PyProof.Rows L2 TL
set_option autoImplicit false
theorem Apart.lone {s : Fc} : ∀ {l : List Fc}, Apart l → s ∈ l → (∀ f ∈ l, sw s f = true) → l = [s]
  | [], _, h, _ => (nomatch h)
  | [x], _, h, _ => by rw [List.mem_singleton.mp h]
  | x :: y :: r, ha, h, hs => by
    rcases List.mem_cons.mp h with e | e
    · subst e
      have h1 := hs y (by simp)
      rw [ha.1] at h1
      cases h1
    · have ih := Apart.lone (l := y :: r) ha.2.2 e fun f hf => hs f (List.mem_cons_of_mem _ hf)
      have ey : y = s := (List.cons.inj ih).1
      have h1 := hs x (by simp)
      rw [← ey, ha.2.1] at h1
      cases h1
theorem sw_all {z : Str} {f : Fc} (h : FOk z f) : sw (true, z) f = true := sw_of rfl fun c hc => h.2.1.subset hc
theorem red_lone {z : Str} {fs : List Fc} (ok : ∀ f ∈ fs, FOk z f) (h : (true, z) ∈ red fs) : red fs = [(true, z)] := by
  have hm : (true, z) ∈ fs.foldl stp [] := List.mem_reverse.mp h
  have e := Apart.lone (fold_apart fs [] trivial) hm fun f hf => sw_all (ok f (red_mem (List.mem_reverse.mpr hf)))
  unfold red
  rw [e]
  rfl
theorem star_of {z : Str} {f : Fc} (h : FOk z f) (k : f.1 = true) (l : (ls f).length = (tl z).length) : f = (true, z) := by
  have e : tl f.2 = tl z := h.2.1.eq_of_length l
  obtain ⟨a, b⟩ := f
  simp only at k e
  rw [k, tl_inj e]
/-- a product that takes in the star of the alphabet has it as a factor -/
theorem inc_star {z : Str} : ∀ {q : List Fc}, inc q [(true, z)] = true → ∃ f ∈ q, cov f (true, z) = true
  | [], h => by simp [inc] at h
  | g :: q, h => by
    by_cases c : cov g (true, z) = true
    · exact ⟨g, List.mem_cons_self, c⟩
    · rw [inc, if_neg c] at h
      obtain ⟨f, hf, hc⟩ := inc_star (q := q) h
      exact ⟨f, List.mem_cons_of_mem _ hf, hc⟩
theorem cov_star {z : Str} {f : Fc} (ok : FOk z f) (al : Alph z) (h : cov f (true, z) = true) : f = (true, z) := by
  unfold cov at h
  rcases Bool.or_eq_true_iff.mp h with e | e
  · exact of_decide_eq_true e
  · have nd : (tl z).Nodup := al.1.imp fun h => by omega
    refine star_of ok (sw_star e) (Nat.le_antisymm ok.2.1.length_le ?_)
    exact nd.length_le_of_subset fun c hc => sw_sub e c hc
/-- a product that has all words over the alphabet is reduced to its star -/
theorem red_full {z : Str} {p : List Fc} (ok : ∀ f ∈ p, FOk z f) (al : Alph z) (h : inc (red p) [(true, z)] = true) : red p = [(true, z)] := by
  obtain ⟨f, hf, hc⟩ := inc_star (z := z) h
  have e := cov_star (ok f (red_mem hf)) al hc
  rw [e] at hf
  exact red_lone ok hf
/-! ### sizes grow with inclusion -/
def cz (k : Int) (r : List Fc) : Nat := (szs r).count k
theorem cz_app (k : Int) (a b : List Fc) : cz k (a ++ b) = cz k a + cz k b := by
  unfold cz szs
  rw [List.map_append, List.count_append]
theorem cz_nil (k : Int) : cz k [] = 0 := rfl
def sz1 (f : Fc) : Int := if f.1 = true then ((ls f).length : Int) else 0
theorem cz_one (k : Int) (f : Fc) : cz k [f] = if sz1 f = k then 1 else 0 := by
  show List.count k [sz1 f] = _
  rw [List.count_singleton]
  by_cases e : sz1 f = k
  · rw [if_pos e, e]; simp
  · rw [if_neg e]; simp [e]
def Lx (r q : List Fc) : Prop := cz 3 r < cz 3 q ∨ (cz 3 r = cz 3 q ∧ (cz 2 r < cz 2 q ∨ (cz 2 r = cz 2 q ∧ (cz 1 r < cz 1 q ∨ (cz 1 r = cz 1 q ∧ cz 0 r < cz 0 q)))))
theorem Lx.app {a b c d : List Fc} (h : Lx a b) (k : c = d ∨ Lx c d) : Lx (a ++ c) (b ++ d) := by
  unfold Lx at *
  simp only [cz_app]
  rcases k with e | k
  · subst e
    omega
  · omega
theorem Lx.app2 {a c d : List Fc} (k : Lx c d) : Lx (a ++ c) (a ++ d) := by
  unfold Lx at *
  simp only [cz_app]
  omega
theorem Apart.tw (p : Fc → Bool) : ∀ {st : List Fc}, Apart st → Apart (st.takeWhile p)
  | [], _ => trivial
  | [g], _ => by
    rw [List.takeWhile_cons]
    split <;> trivial
  | g :: h :: st, ha => by
    have ih := Apart.tw p ha.tail
    rw [List.takeWhile_cons]
    split
    · rw [List.takeWhile_cons] at ih ⊢
      split at ih
      · rename_i q
        rw [if_pos q]
        exact ⟨ha.1, ha.2.1, ih⟩
      · rename_i q
        rw [if_neg q]
        trivial
    · trivial
theorem inc_run {g : Fc} {q : List Fc} (k : g.1 = true) : ∀ r : List Fc, inc (g :: q) r = inc q (r.dropWhile (cov g)) 
  | [] => by
    rw [List.dropWhile_nil]
    simp [inc]
  | f :: r => by
    rw [List.dropWhile_cons]
    by_cases c : cov g f = true
    · rw [inc, if_pos c, if_pos k, if_pos c]
      exact inc_run k r
    · rw [inc, if_neg c, if_neg c]
theorem sz1_le {z : Str} {f : Fc} (al : Alph z) (h : FOk z f) : 0 ≤ sz1 f ∧ sz1 f ≤ 3 := by
  have := fok_len al h
  unfold sz1
  split
  · omega
  · omega
theorem cz_zero {k : Int} : ∀ {r : List Fc}, (∀ f ∈ r, sz1 f ≠ k) → cz k r = 0
  | [], _ => rfl
  | f :: r, h => by
    have e := cz_app k [f] r
    rw [cz_one, if_neg (h f List.mem_cons_self), cz_zero fun g hg => h g (List.mem_cons_of_mem _ hg)] at e
    exact e
theorem Lx.nil {z : Str} (al : Alph z) {g : Fc} {q : List Fc} (h : FOk z g) : Lx [] (g :: q) := by
  have e : ∀ k, cz k (g :: q) = (if sz1 g = k then 1 else 0) + cz k q := fun k => by
    rw [← cz_one]
    exact cz_app k [g] q
  have s := sz1_le al h
  unfold Lx
  rw [e, e, e, e, cz_nil, cz_nil, cz_nil, cz_nil]
  have : sz1 g = 0 ∨ sz1 g = 1 ∨ sz1 g = 2 ∨ sz1 g = 3 := by omega
  rcases this with w | w | w | w <;> rw [w] <;> simp <;> omega
theorem asc_sub : ∀ (m l : List Nat), l.Pairwise (· < ·) → m.Pairwise (· < ·) → (∀ c ∈ l, c ∈ m) → l.Sublist m
  | [], [], _, _, _ => .slnil
  | [], a :: l, _, _, h => (nomatch h a List.mem_cons_self)
  | b :: m, [], _, _, _ => List.nil_sublist _
  | b :: m, a :: l, pl, pm, h => by
    have pl' := List.pairwise_cons.mp pl
    have pm' := List.pairwise_cons.mp pm
    by_cases e : a = b
    · subst e
      refine (asc_sub m l pl'.2 pm'.2 fun c hc => ?_).cons_cons a
      rcases List.mem_cons.mp (h c (List.mem_cons_of_mem _ hc)) with q | q
      · have := pl'.1 c hc
        omega
      · exact q
    · refine (asc_sub m (a :: l) pl pm'.2 fun c hc => ?_).cons b
      have am : a ∈ m := (List.mem_cons.mp (h a List.mem_cons_self)).resolve_left e
      have ab := pm'.1 a am
      rcases List.mem_cons.mp (h c hc) with q | q
      · rcases List.mem_cons.mp hc with w | w
        · exact absurd (w.symm.trans q) e
        · have := pl'.1 c w
          omega
      · exact q
theorem Lx.run {z : Str} (al : Alph z) {g : Fc} {run : List Fc} (hg : FOk z g) (k : g.1 = true) (ok : ∀ f ∈ run, FOk z f) (h : ∀ f ∈ run, sw g f = true) (n : g ∉ run) : Lx run [g] := by
  have less : ∀ f ∈ run, sz1 f < sz1 g := fun f hf => by
    have kg : sz1 g = ((ls g).length : Int) := by unfold sz1; rw [if_pos k]
    have g1 : 1 ≤ (ls g).length := by
      have := hg.1
      rcases e : tl g.2 with _ | ⟨x, y⟩
      · exact absurd e this
      · show 1 ≤ (tl g.2).length
        rw [e]
        simp
    rw [kg]
    unfold sz1
    split
    · rename_i kf
      have pf : (tl f.2).Pairwise (· < ·) := List.Pairwise.sublist (ok f hf).2.1 al.1
      have pg : (tl g.2).Pairwise (· < ·) := List.Pairwise.sublist hg.2.1 al.1
      have sub : (tl f.2).Sublist (tl g.2) := asc_sub _ _ pf pg (sw_sub (h f hf))
      have le : (ls f).length ≤ (ls g).length := sub.length_le
      rcases Nat.lt_or_eq_of_le le with q | q
      · omega
      · have e2 : f.2 = g.2 := tl_inj (sub.eq_of_length q)
        have e1 : f = g := by
          obtain ⟨a, b⟩ := f
          obtain ⟨c, d⟩ := g
          simp only at e2 kf k
          rw [e2, kf, k]
        rw [e1] at hf
        exact absurd hf n
    · omega
  have s := sz1_le al hg
  have e : ∀ j, cz j [g] = if sz1 g = j then 1 else 0 := fun j => cz_one j g
  have z0 : ∀ j, sz1 g ≤ j → cz j run = 0 := fun j hj => cz_zero fun f hf w => by have := less f hf; omega
  have : sz1 g = 0 ∨ sz1 g = 1 ∨ sz1 g = 2 ∨ sz1 g = 3 := by omega
  unfold Lx
  rw [e, e, e, e]
  rcases this with w | w | w | w
  · rw [z0 3 (by omega), z0 2 (by omega), z0 1 (by omega), z0 0 (by omega), w]; simp
  · rw [z0 3 (by omega), z0 2 (by omega), z0 1 (by omega), w]; simp
  · rw [z0 3 (by omega), z0 2 (by omega), w]; simp
  · rw [z0 3 (by omega), w]; simp
theorem mem_tw {p : Fc → Bool} {f : Fc} : ∀ {l : List Fc}, f ∈ l.takeWhile p → p f = true
  | [], h => (nomatch h)
  | x :: l, h => by
    rw [List.takeWhile_cons] at h
    split at h
    · rename_i q
      rcases List.mem_cons.mp h with e | e
      · rw [e]; exact q
      · exact mem_tw e
    · exact (nomatch h)
theorem inc_size {z : Str} (al : Alph z) : ∀ (q r : List Fc), (∀ f ∈ q, FOk z f) → (∀ f ∈ r, FOk z f) → Apart r → inc q r = true → r = q ∨ Lx r q
  | [], [], _, _, _, _ => .inl rfl
  | [], f :: r, _, _, _, h => by simp [inc] at h
  | g :: q, r, oq, or, ap, h => by
    have oq' : ∀ f ∈ q, FOk z f := fun f hf => oq f (List.mem_cons_of_mem _ hf)
    have og := oq g List.mem_cons_self
    by_cases k : g.1 = true
    · rw [inc_run k] at h
      have hr : r.takeWhile (cov g) ++ r.dropWhile (cov g) = r := List.takeWhile_append_dropWhile
      have mt : ∀ f ∈ r.takeWhile (cov g), f ∈ r := fun f hf => by rw [← hr]; exact List.mem_append_left _ hf
      have md : ∀ f ∈ r.dropWhile (cov g), f ∈ r := fun f hf => by rw [← hr]; exact List.mem_append_right _ hf
      have swt : ∀ f ∈ r.takeWhile (cov g), sw g f = true := fun f hf => by
        have c : cov g f = true := mem_tw hf
        rcases Bool.or_eq_true_iff.mp c with e | e
        · rw [← of_decide_eq_true e]
          exact sw_of k fun c hc => hc
        · exact e
      have ih := inc_size al q _ oq' (fun f hf => or f (md f hf)) (ap.dw _) h
      by_cases m : g ∈ r.takeWhile (cov g)
      · have e := Apart.lone (ap.tw (cov g)) m swt
        rw [e] at hr
        rcases ih with i | i
        · rw [i] at hr
          exact .inl hr.symm
        · rw [← hr]
          exact .inr (Lx.app2 (a := [g]) i)
      · have l := Lx.run al og k (fun f hf => or f (mt f hf)) swt m
        rw [← hr]
        exact .inr (l.app (b := [g]) ih)
    · have lg : Lx [] [g] := Lx.nil al og
      match r, or, ap, h with
      | [], _, _, _ => exact .inr (Lx.nil al og)
      | f :: p, or, ap, h =>
        by_cases c : cov g f = true
        · have e : g = f := by
            rcases Bool.or_eq_true_iff.mp c with e | e
            · exact of_decide_eq_true e
            · exact absurd (sw_star e) k
          subst e
          rw [inc, if_pos c, if_neg k] at h
          rcases inc_size al q p oq' (fun f hf => or f (List.mem_cons_of_mem _ hf)) ap.tail h with i | i
          · exact .inl (by rw [i])
          · exact .inr (Lx.app2 (a := [g]) i)
        · rw [inc, if_neg c] at h
          exact .inr (lg.app (inc_size al q (f :: p) oq' or ap h))
/-! ### one list: no product of it is inside another one -/
theorem apart_snoc {x : Fc} : ∀ {l : List Fc}, Apart l → (∀ y, l.getLast? = some y → sw y x = false ∧ sw x y = false) → Apart (l ++ [x])
  | [], _, _ => trivial
  | [f], _, h => ⟨(h f rfl).1, (h f rfl).2, trivial⟩
  | f :: g :: r, ha, h => ⟨ha.1, ha.2.1, apart_snoc (l := g :: r) ha.2.2 fun y hy => h y (by rw [List.getLast?_cons_cons]; exact hy)⟩
theorem Apart.rev : ∀ {l : List Fc}, Apart l → Apart l.reverse
  | [], _ => trivial
  | f :: r, ha => by
    rw [List.reverse_cons]
    refine apart_snoc ha.tail.rev fun y hy => ?_
    rw [List.getLast?_reverse] at hy
    cases r with
    | nil => cases hy
    | cons g r =>
      cases hy
      exact ⟨ha.2.1, ha.1⟩
theorem red_apart (fs : List Fc) : Apart (red fs) := (fold_apart fs [] trivial).rev
theorem Lx.lt {r q : List Fc} (h : Lx r q) : sizeT r < sizeT q := by
  unfold Lx cz at h
  unfold sizeT
  rw [List.cons_lt_cons_iff, List.cons_lt_cons_iff, List.cons_lt_cons_iff, List.cons_lt_cons_iff]
  omega
theorem leK_eq (a b : Gp) : leK a b = !decide (a.1 < b.1) := by
  show PySem.W.dataLe true (fun g : Gp => (numKey g.1).data) a b = _
  rw [PySem.W.dataLe_eq]
  simp only [cond_true]
  rw [data_num, data_num]
  exact congrArg _ (PySem.W.dataLt_ints a.1 b.1)
theorem leK_sorted (Gs : List Gp) : (Gs.mergeSort leK).Pairwise fun a b => ¬ a.1 < b.1 := by
  have T : PySem.W.TotalLe leK := PySem.W.sortLe_total _ true _
  have p := List.pairwise_mergeSort (le := leK) (fun a b c h1 h2 => T.trans a b c h1 h2) (fun a b => Bool.or_eq_true_iff.mpr (T.total a b)) Gs
  refine p.imp fun h => ?_
  rw [leK_eq] at h
  simpa using h
structure Rz (z : Str) (r : List Fc) : Prop where
  ok : ∀ f ∈ r, FOk z f
  ap : Apart r
def Anti (M : List (List Fc)) : Prop := ∀ a ∈ M, ∀ b ∈ M, inc a b = true → b = a
theorem Rz.self {z : Str} {r : List Fc} (h : Rz z r) : inc r r = true := (inc_iff (fok_w1 h.ok) (fok_w1 h.ok)).mpr (Lg.unf _ r fun f hf => (fok_w1 h.ok f hf).2)
theorem pick_anti {z : Str} (al : Alph z) : ∀ (l : List Gp) (M : List (List Fc)), (∀ g ∈ l, ∀ r ∈ g.2, Rz z r ∧ sizeT r = g.1) → (∀ g ∈ l, g.2.Nodup) → (l.Pairwise fun a b => ¬ a.1 < b.1) → (∀ m ∈ M, Rz z m) → Anti M → M.Nodup → (∀ m ∈ M, ∀ g ∈ l, ¬ sizeT m < g.1) → Anti (l.foldl keepG M) ∧ (l.foldl keepG M).Nodup
  | [], M, _, _, _, _, hA, hN, _ => ⟨hA, hN⟩
  | g :: l, M, hr, hn, hp, hm, hA, hN, hb => by
    have hp' := List.pairwise_cons.mp hp
    have fl : ∀ r ∈ g.2.filter (fun r => !(M.any fun m => inc m r)), Rz z r ∧ sizeT r = g.1 ∧ ∀ m ∈ M, inc m r = false := fun r h => by
      obtain ⟨h1, h2⟩ := List.mem_filter.mp h
      obtain ⟨h3, h4⟩ := hr g List.mem_cons_self r h1
      refine ⟨h3, h4, fun m hm => ?_⟩
      cases c : inc m r with
      | false => rfl
      | true =>
        have : (M.any fun m => inc m r) = true := List.any_eq_true.mpr ⟨m, hm, c⟩
        rw [this] at h2
        cases h2
    have irr : ∀ x : List Int, ¬ x < x := fun x => List.lt_irrefl x
    refine pick_anti al l (keepG M g) (fun g' hg' => hr g' (List.mem_cons_of_mem _ hg')) (fun g' hg' => hn g' (List.mem_cons_of_mem _ hg')) hp'.2 ?_ ?_ ?_ ?_
    · intro m h
      rcases List.mem_append.mp h with q | q
      · exact hm m q
      · exact (fl m q).1
    · intro a ha b hb' hi
      rcases List.mem_append.mp ha with q | q
      · rcases List.mem_append.mp hb' with w | w
        · exact hA a q b w hi
        · have := (fl b w).2.2 a q
          rw [hi] at this
          cases this
      · obtain ⟨ra, sa, _⟩ := fl a q
        rcases List.mem_append.mp hb' with w | w
        · rcases inc_size al a b ra.ok (hm b w).ok (hm b w).ap hi with e | e
          · exact e
          · have := e.lt
            rw [sa] at this
            exact absurd this (hb b w g List.mem_cons_self)
        · obtain ⟨rb, sb, _⟩ := fl b w
          rcases inc_size al a b ra.ok rb.ok rb.ap hi with e | e
          · exact e
          · have := e.lt
            rw [sa, sb] at this
            exact absurd this (irr _)
    · refine List.nodup_append.mpr ⟨hN, (hn g List.mem_cons_self).filter _, fun a ha b hb' e => ?_⟩
      have := (fl b hb').2.2 a ha
      rw [e, (fl b hb').1.self] at this
      cases this
    · intro m h g' hg'
      rcases List.mem_append.mp h with q | q
      · exact hb m q g' (List.mem_cons_of_mem _ hg')
      · rw [(fl m q).2.1]
        exact hp'.1 g' hg'
theorem MaxOf.anti {z : Str} (al : Alph z) {ps zs : List (List Fc)} (M : MaxOf ps zs) (ok : ∀ p ∈ ps, ∀ f ∈ p, FOk z f) : Anti zs ∧ zs.Nodup := by
  obtain ⟨Gs, gr, rfl⟩ := M
  have h := pick_anti al (Gs.mergeSort leK) [] (fun g hg r hr => ?_) (fun g hg => gr.nd g (List.mem_mergeSort.mp hg)) (leK_sorted Gs) (fun m h => (nomatch h)) (fun a ha => (nomatch ha)) List.nodup_nil (fun m h => (nomatch h))
  · refine ⟨fun a ha b hb => h.1 a (List.mem_mergeSort.mp ha) b (List.mem_mergeSort.mp hb), ?_⟩
    exact (List.mergeSort_perm _ _).nodup_iff.mpr h.2
  · have hg' := List.mem_mergeSort.mp hg
    obtain ⟨p, hp, rfl⟩ := (gr.mem r).mp ⟨g, hg', hr⟩
    exact ⟨⟨fun f hf => ok p hp f (red_mem hf), red_apart p⟩, gr.key g hg' _ hr⟩
/-- all words: the star of the alphabet alone -/
theorem MaxOf.full {z : Str} (al : Alph z) {ps zs : List (List Fc)} (M : MaxOf ps zs) (ok : ∀ p ∈ ps, ∀ f ∈ p, FOk z f) {p : List Fc} (hp : p ∈ ps) (h : inc (red p) [(true, z)] = true) : zs = [[(true, z)]] := by
  have e := red_full (ok p hp) al h
  have an := M.anti al ok
  have oz : ∀ q ∈ zs, ∀ f ∈ q, FOk z f := fun q hq f hf => by
    obtain ⟨p', hp', rfl⟩ := M.sub q hq
    exact ok p' hp' f (red_mem hf)
  have all : ∀ q ∈ zs, inc [(true, z)] q = true := fun q hq => by
    have gen : ∀ l : List Fc, (∀ f ∈ l, FOk z f) → inc [(true, z)] l = true := fun l => by
      induction l with
      | nil => intro _; simp [inc]
      | cons f l ih =>
        intro h
        have c : cov (true, z) f = true := Bool.or_eq_true_iff.mpr (.inr (sw_all (h f List.mem_cons_self)))
        rw [inc, if_pos c, if_pos rfl]
        exact ih fun g hg => h g (List.mem_cons_of_mem _ hg)
    exact gen q (oz q hq)
  have mem : [(true, z)] ∈ zs := by
    rcases M.sup p hp with q | ⟨m, hm, hi⟩
    · rw [e] at q; exact q
    · rw [e] at hi
      obtain ⟨p', hp', rfl⟩ := M.sub m hm
      rw [red_full (ok p' hp') al hi] at hm
      exact hm
  have eqs : ∀ q ∈ zs, q = [(true, z)] := fun q hq => an.1 _ mem q hq (all q hq)
  match zs, mem, eqs, an.2 with
  | [q], _, eqs, _ => rw [eqs q List.mem_cons_self]
  | q :: q' :: r, _, eqs, nd =>
    have h1 := eqs q List.mem_cons_self
    have h2 := eqs q' (by simp)
    rw [h1, h2] at nd
    have := (List.nodup_cons.mp nd).1
    simp at this
end DW
/-! one set of products for each language; written forms tell products apart -/
namespace DW
open PySem PySem.Spec PyProof.Rows L2 TL
set_option autoImplicit false
theorem len_sum : ∀ (zs : List (List Fc)) (q : List Fc), q ∈ zs → q.length ≤ (zs.map List.length).sum
  | [], _, h => (nomatch h)
  | x :: zs, q, h => by
    rw [List.map_cons, List.sum_cons]
    rcases List.mem_cons.mp h with e | e
    · rw [e]; omega
    · have := len_sum zs q e
      omega
theorem inc_trans {a b c : List Fc} (wa : W1 a) (wc : W1 c) (h1 : inc a b = true) (h2 : inc b c = true) : inc a c = true :=
  (inc_iff wc wa).mpr (inc_sound a b h1 _ (inc_sound b c h2 _ (Lg.unf _ c fun f hf => (wc f hf).2)))
theorem inc_anti {z : Str} (al : Alph z) {a b : List Fc} (ra : Rz z a) (rb : Rz z b) (h1 : inc a b = true) (h2 : inc b a = true) : a = b := by
  rcases inc_size al a b ra.ok rb.ok rb.ap h1 with e | e
  · exact e.symm
  · rcases inc_size al b a rb.ok ra.ok ra.ap h2 with e' | e'
    · exact e'
    · exact absurd (List.lt_trans e.lt e'.lt) (List.lt_irrefl _)
theorem MaxOf.rz {z : Str} {ps zs : List (List Fc)} (M : MaxOf ps zs) (ok : ∀ p ∈ ps, ∀ f ∈ p, FOk z f) : ∀ q ∈ zs, Rz z q := fun q hq => by
  obtain ⟨p, hp, rfl⟩ := M.sub q hq
  exact ⟨fun f hf => ok p hp f (red_mem hf), red_apart p⟩
/-- a product whose words are all in a list of products is inside one of them -/
theorem into_one {z : Str} {q : List Fc} {zs : List (List Fc)} (rq : Rz z q) (rz : ∀ q ∈ zs, Rz z q) (h : ∀ u, Lg q u → hasW zs u = true) : ∃ q' ∈ zs, inc q' q = true := by
  have wq := fok_w1 rq.ok
  have h1 := h _ (Lg.unf ((zs.map List.length).sum + 1) q fun f hf => (wq f hf).2)
  unfold hasW at h1
  obtain ⟨q', hq', hi⟩ := List.any_eq_true.mp h1
  have w' := fok_w1 (rz q' hq').ok
  have l := (acc_iff w' _).mp hi
  exact ⟨q', hq', inc_complete _ q q' wq w' (by have := len_sum zs q' hq'; omega) l⟩
theorem has_of {z : Str} {q : List Fc} {zs : List (List Fc)} (rz : ∀ q ∈ zs, Rz z q) (hq : q ∈ zs) {u : List Nat} (h : Lg q u) : hasW zs u = true := by
  unfold hasW
  exact List.any_eq_true.mpr ⟨q, hq, (acc_iff (fok_w1 (rz q hq).ok) u).mpr h⟩
theorem MaxOf.uniq {z : Str} (al : Alph z) {ps zs ps' zs' : List (List Fc)} (M : MaxOf ps zs) (M' : MaxOf ps' zs') (ok : ∀ p ∈ ps, ∀ f ∈ p, FOk z f) (ok' : ∀ p ∈ ps', ∀ f ∈ p, FOk z f) (h : ∀ u, hasW zs u = hasW zs' u) : ∀ q ∈ zs, q ∈ zs' := fun q hq => by
  have rz := M.rz ok
  have rz' := M'.rz ok'
  obtain ⟨q', hq', i1⟩ := into_one (rz q hq) rz' fun u hu => by rw [← h]; exact has_of rz hq hu
  obtain ⟨q'', hq'', i2⟩ := into_one (rz' q' hq') rz fun u hu => by rw [h]; exact has_of rz' hq' hu
  have i3 := inc_trans (fok_w1 (rz q'' hq'').ok) (fok_w1 (rz q hq).ok) i2 i1
  have e := (M.anti al ok).1 q'' hq'' q hq i3
  rw [← e] at i2
  rw [inc_anti al (rz q hq) (rz' q' hq') i2 i1]
  exact hq'
/-! ### written forms -/
theorem fform_tl (f : Fc) : tl (fform f) = if f.1 = true then 123 :: (tl f.2 ++ [125, 42]) else tl f.2 ++ [63] := by
  unfold fform
  split
  · rw [tl_app2, tl_app2]
    have e1 : tl "{" = [123] := by decide +kernel
    have e2 : tl "}*" = [125, 42] := by decide +kernel
    rw [e1, e2]
    simp
  · rw [tl_app2]
    have e2 : tl "?" = [63] := by decide +kernel
    rw [e2]
theorem app_split : ∀ {a b : List Nat} {x y : List Nat} {c d : Nat}, (∀ k ∈ a, k ≠ c) → (∀ k ∈ b, k ≠ c) → c = d → a ++ c :: x = b ++ d :: y → a = b ∧ x = y
  | [], [], _, _, _, _, _, _, e, h => by
    subst e
    exact ⟨rfl, (List.cons.inj h).2⟩
  | [], k :: b, x, y, c, d, _, hb, e, h => absurd (List.cons.inj h).1.symm (hb k List.mem_cons_self)
  | k :: a, [], x, y, c, d, ha, _, e, h => absurd ((List.cons.inj h).1.trans e.symm) (ha k List.mem_cons_self)
  | k :: a, j :: b, x, y, c, d, ha, hb, e, h => by
    obtain ⟨h1, h2⟩ := List.cons.inj h
    obtain ⟨i1, i2⟩ := app_split (fun k hk => ha k (List.mem_cons_of_mem _ hk)) (fun k hk => hb k (List.mem_cons_of_mem _ hk)) e h2
    exact ⟨by rw [h1, i1], i2⟩
theorem fform_split {z : Str} (al : Alph z) {f g : Fc} (hf : FOk z f) (hg : FOk z g) {x y : List Nat} (h : tl (fform f) ++ x = tl (fform g) ++ y) : f = g ∧ x = y := by
  have low : ∀ {f : Fc}, FOk z f → ∀ c ∈ tl f.2, 97 ≤ c ∧ c ≤ 122 := fun h c hc => al.2.2.2 c (h.2.1.subset hc)
  have lf := low hf
  have lg := low hg
  rw [fform_tl, fform_tl] at h
  obtain ⟨a, s⟩ := f
  obtain ⟨b, t⟩ := g
  simp only at h lf lg
  cases a <;> cases b
  · simp only [Bool.false_eq_true, if_false, List.append_assoc, List.cons_append, List.nil_append] at h
    obtain ⟨e1, e2⟩ := app_split (fun k hk => by have := lf k hk; omega) (fun k hk => by have := lg k hk; omega) rfl h
    exact ⟨by rw [tl_inj e1], e2⟩
  · simp only [Bool.false_eq_true, if_false, if_true, List.append_assoc, List.cons_append, List.nil_append] at h
    cases e : tl s with
    | nil => exact absurd e hf.1
    | cons c r =>
      rw [e] at h
      have h1 := (List.cons.inj h).1
      have := lf c (by rw [e]; exact List.mem_cons_self)
      omega
  · simp only [Bool.false_eq_true, if_false, if_true, List.append_assoc, List.cons_append, List.nil_append] at h
    cases e : tl t with
    | nil => exact absurd e hg.1
    | cons c r =>
      rw [e] at h
      have h1 := (List.cons.inj h).1
      have := lg c (by rw [e]; exact List.mem_cons_self)
      omega
  · simp only [if_true, List.append_assoc, List.cons_append, List.nil_append] at h
    have h1 := (List.cons.inj h).2
    obtain ⟨e1, e2⟩ := app_split (fun k hk => by have := lf k hk; omega) (fun k hk => by have := lg k hk; omega) rfl h1
    exact ⟨by rw [tl_inj e1], (List.cons.inj e2).2⟩
theorem flat_inj {z : Str} (al : Alph z) : ∀ (fs gs : List Fc), (∀ f ∈ fs, FOk z f) → (∀ f ∈ gs, FOk z f) → (fs.map fun f => tl (fform f)).flatten = (gs.map fun f => tl (fform f)).flatten → fs = gs
  | [], [], _, _, _ => rfl
  | [], g :: gs, _, _, h => by
    rw [List.map_cons, List.flatten_cons, List.map_nil, List.flatten_nil, fform_tl] at h
    split at h <;> simp at h
  | f :: fs, [], _, _, h => by
    rw [List.map_cons, List.flatten_cons, List.map_nil, List.flatten_nil, fform_tl] at h
    split at h <;> simp at h
  | f :: fs, g :: gs, hf, hg, h => by
    rw [List.map_cons, List.map_cons, List.flatten_cons, List.flatten_cons] at h
    obtain ⟨e1, e2⟩ := fform_split al (hf f List.mem_cons_self) (hg g List.mem_cons_self) h
    rw [e1, flat_inj al fs gs (fun f h => hf f (List.mem_cons_of_mem _ h)) (fun f h => hg f (List.mem_cons_of_mem _ h)) e2]
theorem pform_tl {fs : List Fc} (h : fs ≠ []) : tl (pform fs) = (fs.map fun f => tl (fform f)).flatten := by
  unfold pform
  rw [if_neg h, tl_cat, List.map_map]
  rfl
theorem pform_nil {z : Str} (al : Alph z) {g : Fc} {gs : List Fc} (hg : FOk z g) : tl (pform []) ≠ tl (pform (g :: gs)) := by
  rw [pform_tl (List.cons_ne_nil _ _), List.map_cons, List.flatten_cons, fform_tl]
  have e : tl (pform []) = [45] := by
    unfold pform
    rw [if_pos rfl]
    decide +kernel
  rw [e]
  split
  · intro h
    have := (List.cons.inj h).1
    omega
  · cases q : tl g.2 with
    | nil => exact absurd q hg.1
    | cons c r =>
      intro h
      have h1 := (List.cons.inj h).1
      have := al.2.2.2 c (hg.2.1.subset (by rw [q]; exact List.mem_cons_self))
      omega
theorem pform_inj {z : Str} (al : Alph z) {fs gs : List Fc} (hf : ∀ f ∈ fs, FOk z f) (hg : ∀ f ∈ gs, FOk z f) (h : tl (pform fs) = tl (pform gs)) : fs = gs := by
  match fs, gs, hf, hg, h with
  | [], [], _, _, _ => rfl
  | [], g :: gs, _, hg, h => exact absurd h (pform_nil al (hg g List.mem_cons_self))
  | f :: fs, [], hf, _, h => exact absurd h.symm (pform_nil al (hf f List.mem_cons_self))
  | f :: fs, g :: gs, hf, hg, h =>
    rw [pform_tl (List.cons_ne_nil _ _), pform_tl (List.cons_ne_nil _ _)] at h
    exact flat_inj al _ _ hf hg h
theorem sorted_uniq {le : List Fc → List Fc → Prop} : ∀ (l m : List (List Fc)), (∀ a ∈ l, ∀ b ∈ l, le a b → le b a → a = b) → l.Pairwise le → m.Pairwise le → l.Nodup → m.Nodup → (∀ x, x ∈ l ↔ x ∈ m) → l = m
  | [], [], _, _, _, _, _, _ => rfl
  | [], b :: m, _, _, _, _, _, h => (nomatch (h b).mpr List.mem_cons_self)
  | a :: l, [], _, _, _, _, _, h => (nomatch (h a).mp List.mem_cons_self)
  | a :: l, b :: m, an, pl, pm, nl, nm, h => by
    have pl' := List.pairwise_cons.mp pl
    have pm' := List.pairwise_cons.mp pm
    have nl' := List.nodup_cons.mp nl
    have nm' := List.nodup_cons.mp nm
    have e : a = b := by
      rcases List.mem_cons.mp ((h a).mp List.mem_cons_self) with q | q
      · exact q
      · rcases List.mem_cons.mp ((h b).mpr List.mem_cons_self) with w | w
        · exact w.symm
        · exact an a List.mem_cons_self b (List.mem_cons_of_mem _ w) (pl'.1 b w) (pm'.1 a q)
    subst e
    rw [sorted_uniq l m (fun x hx y hy => an x (List.mem_cons_of_mem _ hx) y (List.mem_cons_of_mem _ hy)) pl'.2 pm'.2 nl'.2 nm'.2 fun x => ?_]
    constructor
    · intro hx
      rcases List.mem_cons.mp ((h x).mp (List.mem_cons_of_mem _ hx)) with q | q
      · rw [q] at hx; exact absurd hx nl'.1
      · exact q
    · intro hx
      rcases List.mem_cons.mp ((h x).mpr (List.mem_cons_of_mem _ hx)) with q | q
      · rw [q] at hx; exact absurd hx nm'.1
      · exact q
theorem MaxOf.sorted {ps zs : List (List Fc)} (M : MaxOf ps zs) : zs.Pairwise fun x y => tl (pform x) ≤ tl (pform y) := by
  obtain ⟨Gs, gr, rfl⟩ := M
  have p := List.pairwise_mergeSort (le := fun x y : List Fc => decide (tl (pform x) ≤ tl (pform y))) (fun a b c h1 h2 => decide_eq_true (List.le_trans (of_decide_eq_true h1) (of_decide_eq_true h2))) (fun a b => by
    rcases List.le_total (tl (pform a)) (tl (pform b)) with h | h
    · rw [decide_eq_true h]; rfl
    · rw [decide_eq_true h, Bool.or_true]) (pickM (Gs.mergeSort leK))
  exact p.imp fun h => of_decide_eq_true h
/-- one list for each language -/
theorem MaxOf.one {z : Str} (al : Alph z) {ps zs ps' zs' : List (List Fc)} (M : MaxOf ps zs) (M' : MaxOf ps' zs') (ok : ∀ p ∈ ps, ∀ f ∈ p, FOk z f) (ok' : ∀ p ∈ ps', ∀ f ∈ p, FOk z f) (h : ∀ u, hasW zs u = hasW zs' u) : zs = zs' :=
  sorted_uniq zs zs' (fun a ha b hb h1 h2 => pform_inj al (M.rz ok a ha).ok (M.rz ok b hb).ok (List.le_antisymm h1 h2)) M.sorted M'.sorted (M.anti al ok).2 (M'.anti al ok').2 fun q => ⟨M.uniq al M' ok ok' h q, M'.uniq al M ok' ok (fun u => (h u).symm) q⟩
end DW
namespace DW
open PySem PySem.Spec PyProof.Rows L2 TL
set_option autoImplicit false
abbrev sLangAlphabet : Stmt := clsS 31 1
abbrev sLangProducts : Stmt := clsS 31 2
abbrev sLangEmpty : Stmt := clsS 31 4
abbrev sLangFull : Stmt := clsS 31 5
abbrev sLangLetters : Stmt := clsS 31 6
abbrev sLangEq : Stmt := clsS 31 7
abbrev sLangStr : Stmt := clsS 31 8
/-- the class with all its methods -/
structure DfC2 (K : PySem.W.Frag) (mg : Str → Option Value) extends DfC K mg where
  a : DfM K C "alphabet" "Language.alphabet" sLangAlphabet ["self"]
  mta : Meth K C "alphabet" a.f
  p : DfM K C "products" "Language.products" sLangProducts ["self"]
  mtp : Meth K C "products" p.f
  e : DfM K C "is_empty" "Language.is_empty" sLangEmpty ["self"]
  mte : Meth K C "is_empty" e.f
  fu : DfM K C "is_full" "Language.is_full" sLangFull ["self"]
  mtf : Meth K C "is_full" fu.f
  l : DfM K C "letters" "Language.letters" sLangLetters ["self"]
  mtl : Meth K C "letters" l.f
  q : DfM K C "__eq__" "Language.__eq__" sLangEq ["self", "other"]
  mtq : Meth K C "__eq__" q.f
  s : DfM K C "__str__" "Language.__str__" sLangStr ["self"]
  mts : Meth K C "__str__" s.f
def starF (z : Str) : List Fc := if tl z = [] then [] else [(true, z)]
def spStp (K : PySem.W.Frag) : Sp := fun vs H Q _ => ∃ z : Str, vs = [.str z] ∧ ∀ H' v, Same H H' → IsP K H' v (starF z) → Q v H'
def spLaA (K : PySem.W.Frag) (C : Addr) : Sp := fun vs H Q _ => ∃ (p : Addr) (z : Str) (zs : List (List Fc)), vs = [.ref p] ∧ LaAt K C H p z zs ∧ Q (.str z) H
def spLaP (K : PySem.W.Frag) (C : Addr) : Sp := fun vs H Q _ => ∃ (p : Addr) (z : Str) (zs : List (List Fc)), vs = [.ref p] ∧ LaAt K C H p z zs ∧ ∀ H' q ys, Same H H' → H q = none → H' q = some (.lst ys) → IsL K H' ys zs → Q (.ref q) H'
def spLaE (K : PySem.W.Frag) (C : Addr) : Sp := fun vs H Q _ => ∃ (p : Addr) (z : Str) (zs : List (List Fc)), vs = [.ref p] ∧ LaAt K C H p z zs ∧ Q (.bl (decide (zs = []))) H
def spLaF (K : PySem.W.Frag) (C : Addr) : Sp := fun vs H Q _ => ∃ (p : Addr) (z : Str) (zs : List (List Fc)), vs = [.ref p] ∧ LaAt K C H p z zs ∧ Alph z ∧ (∀ q ∈ zs, ∀ f ∈ q, FOk z f) ∧ ∀ H', Same H H' → Q (.bl (decide (zs = [[(true, z)]]))) H'
/-- the letters of factors, ascending -/
def LtOf (fs : List Fc) (r : Str) : Prop := (tl r).Pairwise (· < ·) ∧ ∀ c, c ∈ tl r ↔ ∃ f ∈ fs, c ∈ ls f
def spLof (K : PySem.W.Frag) : Sp := fun vs H Q _ => ∃ (a : Addr) (z : Str) (xs : List V) (fs : List Fc), vs = [.ref a] ∧ SqL K H a xs ∧ IsFs K H xs fs ∧ Alph z ∧ (∀ f ∈ fs, FOk z f) ∧ fs.length ≤ 1000 ∧ ∀ H' r, Same H H' → LtOf fs r → Q (.str r) H'
def spLaL (K : PySem.W.Frag) (C : Addr) : Sp := fun vs H Q _ => ∃ (p : Addr) (z : Str) (zs : List (List Fc)), vs = [.ref p] ∧ LaAt K C H p z zs ∧ Alph z ∧ (∀ q ∈ zs, ∀ f ∈ q, FOk z f) ∧ zs.flatten.length ≤ 1000 ∧ ∀ H' r, Same H H' → LtOf zs.flatten r → Q (.str r) H'
theorem nodup_len {α : Type} [DecidableEq α] : ∀ (l m : List α), l.Nodup → (∀ x ∈ l, x ∈ m) → l.length ≤ m.length
  | [], _, _, _ => Nat.zero_le _
  | a :: l, m, nd, h => by
    obtain ⟨na, nd⟩ := List.nodup_cons.mp nd
    have hm := h a List.mem_cons_self
    have q := nodup_len l (m.erase a) nd fun x hx => (List.mem_erase_of_ne (by intro e; subst e; exact na hx)).mpr (h x (List.mem_cons_of_mem _ hx))
    rw [List.length_erase_of_mem hm] at q
    have := List.length_pos_of_mem hm
    rw [List.length_cons]
    omega
theorem signs_mem {x k : Str} : k ∈ TX.signs x ↔ ∃ c ∈ tl x, k = one c := by
  unfold TX.signs
  rw [List.mem_map]
  exact ⟨fun ⟨c, h, e⟩ => ⟨c, h, e.symm⟩, fun ⟨c, h, e⟩ => ⟨c, h, e.symm⟩⟩
/-- sorted(set(x)) joined -/
theorem set_lets {x : Str} {ls ys : List Str} (nd : ls.Nodup) (mem : ∀ k, k ∈ ls ↔ k ∈ TX.signs x) (pm : ys.Perm ls) (so : sortedS ys = true) :
    (tl (Txt.join "" ys)).Pairwise (· < ·) ∧ (∀ c, c ∈ tl (Txt.join "" ys) ↔ c ∈ tl x) ∧ ∀ y ∈ ys, ∃ c, y = one c := by
  have my : ∀ k, k ∈ ys ↔ k ∈ TX.signs x := fun k => (pm.mem_iff).trans (mem k)
  have h1 : ∀ y ∈ ys, ∃ c, y = one c := fun y hy => by
    obtain ⟨c, _, e⟩ := signs_mem.mp ((my y).mp hy)
    exact ⟨c, e⟩
  obtain ⟨cs, rfl, pw⟩ := sorted_ones ys h1 (pm.nodup_iff.mpr nd) so
  have ej : tl (Txt.join "" (cs.map one)) = cs := by rw [tl_cat, flat_ones]
  refine ⟨by rw [ej]; exact pw, fun c => ?_, h1⟩
  rw [ej]
  constructor
  · intro h
    obtain ⟨d, hd, e⟩ := signs_mem.mp ((my (one c)).mp (List.mem_map.mpr ⟨c, h, rfl⟩))
    have e' : tl (one c) = tl (one d) := congrArg tl e
    rw [tl_one, tl_one] at e'
    rw [(List.cons.inj e').1]
    exact hd
  · intro h
    obtain ⟨d, hd, e⟩ := List.mem_map.mp ((my (one c)).mpr (signs_mem.mpr ⟨c, h, rfl⟩))
    have e' : tl (one d) = tl (one c) := congrArg tl e
    rw [tl_one, tl_one] at e'
    rw [← (List.cons.inj e').1]
    exact hd
section
variable {P : Program} {w : World} {K : PySem.W.Frag} {mg : Str → Option Value} {base : Heap}
theorem IsL.dp {H : Hp} : ∀ {vs : List V} {fs : List (List Fc)}, IsL K H vs fs → DpAll K H vs (fs.map pD)
  | _, _, .nil => .nil
  | _, _, .cons h r => .cons h.dp r.dp
theorem ps_eqv : ∀ fs gs : List (List Fc), PyData.eqvAll (fs.map pD) (gs.map pD) = decide (fs = gs)
  | [], [] => by simp [PyData.eqvAll]
  | [], g :: gs => by simp [PyData.eqvAll]
  | f :: fs, [] => by simp [PyData.eqvAll]
  | f :: fs, g :: gs => by
    simp only [List.map_cons, PyData.eqvAll, pD_eqv, ps_eqv fs gs]
    rw [Bool.eq_iff_iff]
    simp
theorem pl_eqv (fs gs : List (List Fc)) : PyData.eqv (.list (fs.map pD)) (.list (gs.map pD)) = decide (fs = gs) := by
  unfold PyData.eqv
  exact ps_eqv fs gs
theorem IsL.lens {H : Hp} : ∀ {vs : List V} {zs : List (List Fc)}, IsL K H vs zs → ∀ (i : Nat) (v : V), vs[i]? = some v → ∃ q a xs, zs[i]? = some q ∧ v = .ref a ∧ SqT K H a xs ∧ IsFs K H xs q := fun iL i v hv => by
  obtain ⟨q, hq, a, xs, e, h1, h2⟩ := iL.get i v hv
  exact ⟨q, a, xs, hq, e, h1, h2⟩
theorem flat_take (zs : List (List Fc)) {i : Nat} {q : List Fc} (h : zs[i]? = some q) : (zs.take (i + 1)).flatten = (zs.take i).flatten ++ q := by
  rw [List.take_add_one, h, List.flatten_append]
  simp
theorem flat_len (zs : List (List Fc)) (i : Nat) : (zs.take i).flatten.length ≤ zs.flatten.length := by
  have e : zs.flatten = (zs.take i).flatten ++ (zs.drop i).flatten := by rw [← List.flatten_append, List.take_append_drop]
  rw [e, List.length_append]
  omega
theorem upd_lst {H : Hp} {l : Addr} {vs : List V} {o : HO} (hl : H l = some (.lst vs)) (b : Addr) (xs : List V) (h : SqT K H b xs) : SqT K (upd H l o) b xs := by
  rcases h with (h | ⟨v, h⟩) | h
  · exact .inl (.inl ((upd_ne (ne_of h hl (by intro z; cases z))).trans h))
  · exact .inl (.inr ⟨v, (upd_ne (ne_of h hl (by intro z; cases z))).trans h⟩)
  · exact .inr h
end
end DW
set_option maxHeartbeats 0
namespace DW
open PySem PySem.Spec PyProof.Rows L2
def mkD (x : Str) (st : Stmt) : He.DefD := ⟨(x, none), x, x, defArgs st, defBody st, defScope st, [], []⟩
def fn : List He.DefD := [mkD "law" sLaw, mkD "_wall" sWall, mkD "is_ascending" sIsAscending, mkD "is_alphabet" sIsAlphabet, mkD "is_word" sIsWord, mkD "is_factor" sIsFactor, mkD "is_product" sIsProduct, mkD "format_factor" sFormatFactor, mkD "format_product" sFormatProduct, mkD "letters_of" sLettersOf, mkD "swallows" sSwallows, mkD "covers" sCovers, mkD "reduce_product" sReduceProduct, mkD "behind" sBehind, mkD "place_behind" sPlaceBehind, mkD "is_included" sIsIncluded, mkD "subwords_product" sSubwordsProduct, mkD "is_inside" sIsInside, mkD "size_of_product" sSizeOfProduct, mkD "by_written_form" sByWrittenForm, mkD "maximal_products" sMaximalProducts, mkD "format_products" sFormatProducts, mkD "_law_begin" sBegin, mkD "_law_draw" sDraw, mkD "_law_pick" sPick, mkD "_law_alphabet" sAlpha, mkD "_law_factor" sFactor, mkD "_law_product" sProduct, mkD "_law_made" sLMade, ⟨("Language", some "__init__"), "__init__", "Language.__init__", defArgs sLangInit, defBody sLangInit, defScope sLangInit, [], []⟩, ⟨("Language", some "contains"), "contains", "Language.contains", defArgs sLangContains, defBody sLangContains, defScope sLangContains, [], []⟩, ⟨("Language", some "alphabet"), "alphabet", "Language.alphabet", defArgs sLangAlphabet, defBody sLangAlphabet, defScope sLangAlphabet, [], []⟩, ⟨("Language", some "products"), "products", "Language.products", defArgs sLangProducts, defBody sLangProducts, defScope sLangProducts, [], []⟩, ⟨("Language", some "is_empty"), "is_empty", "Language.is_empty", defArgs sLangEmpty, defBody sLangEmpty, defScope sLangEmpty, [], []⟩, ⟨("Language", some "is_full"), "is_full", "Language.is_full", defArgs sLangFull, defBody sLangFull, defScope sLangFull, [], []⟩, ⟨("Language", some "letters"), "letters", "Language.letters", defArgs sLangLetters, defBody sLangLetters, defScope sLangLetters, [], []⟩, ⟨("Language", some "__eq__"), "__eq__", "Language.__eq__", defArgs sLangEq, defBody sLangEq, defScope sLangEq, [], []⟩, ⟨("Language", some "__str__"), "__str__", "Language.__str__", defArgs sLangStr, defBody sLangStr, defScope sLangStr, [], []⟩]
def fa : List He.Fa := [.glo "law", .glo "_wall", .glo "is_ascending", .glo "is_alphabet", .glo "is_word", .glo "is_factor", .glo "is_product", .glo "format_factor", .glo "format_product", .glo "letters_of", .glo "swallows", .glo "covers", .glo "reduce_product", .glo "behind", .glo "place_behind", .glo "is_included", .glo "subwords_product", .glo "is_inside", .glo "size_of_product", .glo "by_written_form", .glo "maximal_products", .glo "format_products", .glo "_law_begin", .glo "_law_draw", .glo "_law_pick", .glo "_law_alphabet", .glo "_law_factor", .glo "_law_product", .glo "_law_made", .free "all", .free "zip", .free "isinstance", .free "str", .free "len", .free "tuple", .free "sorted", .free "set", .free "reversed", .free "range", .free "list", .free "repr", .free "enumerate", .int "MOST_LETTERS" 3, .str "EMPTY_FORM" "-", .str "NO_WORDS" "none", .glo "Language", .cls "Language", .noat "Language" "base", .noat "Language" "maximal", .mkr "Language", .meth "Language" "contains", .meth "Language" "alphabet", .meth "Language" "products", .meth "Language" "is_empty", .meth "Language" "is_full", .meth "Language" "letters", .meth "Language" "__eq__", .meth "Language" "__str__", .free "super"]
abbrev R : PySem.W.OpenRow := PySem.W.OpenLaw.row PySem.Challenge.rw_downwords_k14_languages_made
def xs : EX.Xs := { ini := [⟨"InvalidProduct", "InvalidProduct.__init__", "index", defArgs (clsS 4 0), defBody (clsS 4 0), defScope (clsS 4 0)⟩, ⟨"InvalidText", "InvalidText.__init__", "line", defArgs (clsS 5 0), defBody (clsS 5 0), defScope (clsS 5 0)⟩], ex := ["InvalidAlphabet", "DownwordsError"], kit := [("InvalidAlphabet", "DownwordsError", true), ("InvalidAlphabet", "InvalidProduct", false), ("InvalidAlphabet", "InvalidText", false), ("InvalidProduct", "DownwordsError", true), ("InvalidProduct", "InvalidText", false)], exm := [("InvalidAlphabet", "InvalidAlphabet", true), ("InvalidProduct", "InvalidAlphabet", false), ("InvalidProduct", "InvalidProduct", true)], own := ["Language"], kty := [("list", "Language"), ("str", "Language"), ("int", "Language"), ("NoneType", "Language"), ("tuple", "Language")] }
abbrev hk : PySem.W.Hook := EX.hookX R.prog 4 fa fn xs
def ob (s : PySem.W.SharedT) : EX.AlX := EX.obsXG R.prog 4 fa fn xs (HandSHeadRun.getT s)
theorem ob_eq (s : PySem.W.SharedT) : ob s = hk.obs s.abs := EX.obsXG_eq (HandSHeadRun.getT_eq s)
abbrev names : List Str := "__name__" :: "DownwordsError" :: "InvalidAlphabet" :: "InvalidProduct" :: "InvalidText" :: "Language" :: "MOST_LETTERS" :: "EMPTY_FORM" :: "NO_WORDS" :: "_wall" :: "is_ascending" :: "is_alphabet" :: "is_word" :: "is_factor" :: "is_product" :: "format_factor" :: "format_product" :: "letters_of" :: "swallows" :: "covers" :: "reduce_product" :: "behind" :: "place_behind" :: "is_included" :: "subwords_product" :: "is_inside" :: "size_of_product" :: "by_written_form" :: "maximal_products" :: "format_products" :: "_law_begin" :: "_law_draw" :: "_law_pick" :: "_law_alphabet" :: "_law_factor" :: "_law_product" :: "_law_made" :: []
theorem run (w : World) : HandSHeadRun.RunEq R (PySem.W.view R.prog [41]) hk ob 4000 names w := by
  intro os
  kernel_rfl
end DW
set_option maxHeartbeats 4000000
namespace DW
open PySem PySem.Spec PyProof.Rows L2 TL
set_option autoImplicit false
section
variable {P : Program} {w : World} {K : PySem.W.Frag} {mg : Str → Option Value} {base : Heap}
theorem scLaA : FnScope ["self"] ["self"] (defScope sLangAlphabet) := ⟨rfl, rfl, rfl, by decide +kernel, rfl, by decide +kernel, by decide +kernel⟩
theorem ok_laA (D : DfC2 K mg) : FnOk P w K mg base CX0 1 D.a.f D.a.fd ["self"] (spLaA K D.C) := by
  refine D.a.F.ok scLaA (fun vs H Q E h => ?_) (fun cdv A outer s H vs Q E hr h => ?_)
  · obtain ⟨p, z, zs, rfl, _⟩ := h
    rfl
  · obtain ⟨p, z, zs, rfl, ⟨dx, q, ys, h1, h2, h3⟩, k⟩ := h
    refine ⟨_, (pss_one (ps_ret (pe_fld (pv 0) rfl))), ?_⟩
    exact ⟨.ref p, rfl, p, D.C, dx, _, _, rfl, h1, D.cl, D.nB, flL_base _ _, k⟩
end
end DW
namespace DW
open PySem PySem.Spec PyProof.Rows L2 TL
set_option autoImplicit false
section
variable {P : Program} {w : World} {K : PySem.W.Frag} {mg : Str → Option Value} {base : Heap}
theorem scLaP : FnScope ["self"] ["self"] (defScope sLangProducts) := ⟨rfl, rfl, rfl, by decide +kernel, rfl, by decide +kernel, by decide +kernel⟩
theorem ok_laP (D : DfC2 K mg) (ml : mg "list" = none) : FnOk P w K mg base CX0 1 D.p.f D.p.fd ["self"] (spLaP K D.C) := by
  refine D.p.F.ok scLaP (fun vs H Q E h => ?_) (fun cdv A outer s H vs Q E hr h => ?_)
  · obtain ⟨p, z, zs, rfl, _⟩ := h
    rfl
  · obtain ⟨p, z, zs, rfl, ⟨dx, q, ys, h1, h2, h3⟩, k⟩ := h
    refine ⟨_, (pss_one (ps_ret (pe_callTy call_list_of (by rfl) ml (by decide +kernel) (pa_cons (pe_fld (pv 0) rfl) pa_nil)))), ?_⟩
    exact ⟨.ref p, rfl, p, D.C, dx, _, _, rfl, h1, D.cl, D.nM, flL_max _ _, q, ys, rfl, .inl (SqL.of h2), fun l hl => k _ l ys (same_upd hl) hl upd_same (h3.mono (same_tup (same_upd hl)))⟩
end
end DW
namespace DW
open PySem PySem.Spec PyProof.Rows L2 TL
set_option autoImplicit false
/-- the class, asked by isinstance, == and != -/
structure DfC3 (K : PySem.W.Frag) (mg : Str → Option Value) extends DfC2 K mg where
  ow : EX.OwnC K C
  kLi : EX.KtyF K "list" C
  kSt : EX.KtyF K "str" C
  kIn : EX.KtyF K "int" C
  kNo : EX.KtyF K "NoneType" C
def lform (zs : List (List Fc)) : Str := if zs = [] then "none" else Txt.join " + " (zs.map pform)
def lstr (z : Str) (zs : List (List Fc)) : Str := Str.empty ++ z ++ (": " : Str) ++ lform zs
def spFps (K : PySem.W.Frag) : Sp := fun vs H Q _ => ∃ (a : Addr) (z : Str) (xs : List V) (zs : List (List Fc)), vs = [.ref a] ∧ SqL K H a xs ∧ IsL K H xs zs ∧ Alph z ∧ (∀ q ∈ zs, ∀ f ∈ q, FOk z f) ∧ zs.flatten.length ≤ 100000 ∧ zs.length ≤ 10000 ∧ (∀ q ∈ zs, q.length ≤ 10000) ∧ ∀ H', Same H H' → Q (.str (lform zs)) H'
def spLaS (K : PySem.W.Frag) (C : Addr) : Sp := fun vs H Q _ => ∃ (p : Addr) (z : Str) (zs : List (List Fc)), vs = [.ref p] ∧ LaAt K C H p z zs ∧ Alph z ∧ (∀ q ∈ zs, ∀ f ∈ q, FOk z f) ∧ zs.flatten.length ≤ 100000 ∧ zs.length ≤ 10000 ∧ (∀ q ∈ zs, q.length ≤ 10000) ∧ ∀ H', Same H H' → Q (.str (lstr z zs)) H'
def spLaQ (K : PySem.W.Frag) (C : Addr) : Sp := fun vs H Q _ => ∃ (p : Addr) (y : V) (z : Str) (zs : List (List Fc)), vs = [.ref p, y] ∧ LaAt K C H p z zs ∧ Alph z ∧ (∀ q ∈ zs, ∀ f ∈ q, FOk z f) ∧
  ((∃ (p' : Addr) (z' : Str) (zs' : List (List Fc)), y = .ref p' ∧ LaAt K C H p' z' zs' ∧ Alph z' ∧ (∀ q ∈ zs', ∀ f ∈ q, FOk z' f) ∧ Q (.bl (decide (z = z') && decide (zs = zs'))) H) ∨
   (∃ t, TyX K H y t ∧ PySem.W.kitOne K t (.ref C) = some false ∧ Q (.bl false) H))
theorem fform_len6 {z : Str} (al : Alph z) {f : Fc} (h : FOk z f) : (fform f).length ≤ 6 := by
  have e : ∀ y : Str, y.length = (tl y).length := fun y => (Array.length_toList).symm
  have h3 : (tl f.2).length ≤ 3 := fok_len al h
  unfold fform
  split
  · rw [e, tl_app2, tl_app2, List.length_append, List.length_append]
    have e1 : (tl "{").length = 1 := by decide +kernel
    have e2 : (tl "}*").length = 2 := by decide +kernel
    omega
  · rw [e, tl_app2, List.length_append]
    have e2 : (tl "?").length = 1 := by decide +kernel
    omega
theorem pform_len {z : Str} (al : Alph z) {q : List Fc} (h : ∀ f ∈ q, FOk z f) : (pform q).length ≤ 6 * q.length + 1 := by
  have e : ∀ y : Str, y.length = (tl y).length := fun y => (Array.length_toList).symm
  unfold pform
  split
  · have : ("-" : Str).length = 1 := by decide +kernel
    omega
  · rw [e, tl_cat, List.map_map]
    have b : ∀ gs : List Fc, (∀ f ∈ gs, FOk z f) → ((gs.map (tl ∘ fform)).flatten).length ≤ 6 * gs.length := by
      intro gs
      induction gs with
      | nil => intro _; exact Nat.le_refl _
      | cons g gs ih =>
        intro hg
        have h1 := fform_len6 al (hg g List.mem_cons_self)
        have h2 := ih fun f hf => hg f (List.mem_cons_of_mem _ hf)
        rw [e] at h1
        rw [List.map_cons, List.flatten_cons, List.length_append, List.length_cons]
        have h3 : ((tl ∘ fform) g).length ≤ 6 := h1
        omega
    have := b q h
    omega
theorem pforms_len {z : Str} (al : Alph z) : ∀ zs : List (List Fc), (∀ q ∈ zs, ∀ f ∈ q, FOk z f) → ((zs.map pform).map (·.length)).sum ≤ 6 * zs.flatten.length + zs.length
  | [], _ => Nat.le_refl _
  | q :: zs, h => by
    have h1 := pform_len al (h q List.mem_cons_self)
    have h2 := pforms_len al zs fun r hr => h r (List.mem_cons_of_mem _ hr)
    rw [List.map_cons, List.map_cons, List.sum_cons, List.flatten_cons, List.length_append, List.length_cons]
    omega
theorem joinL_len (S : List Nat) : ∀ xs : List (List Nat), (joinL S xs).length ≤ (xs.map List.length).sum + xs.length * S.length
  | [] => Nat.zero_le _
  | [p] => by
    show p.length ≤ p.length + 0 + 1 * S.length
    omega
  | p :: q :: r => by
    have ih := joinL_len S (q :: r)
    rw [joinL, List.length_append, List.length_append, List.map_cons, List.sum_cons, List.length_cons, Nat.succ_mul]
    omega
theorem tl_joinS (sep : Str) (xs : List Str) : tl (Txt.join sep xs) = joinL (tl sep) (xs.map tl) := by
  have e : tl (Str.join sep xs) = joinL (tl sep) (xs.map tl) := tl_join sep xs
  rw [join_eq, e]
theorem lform_len {z : Str} (al : Alph z) {zs : List (List Fc)} (ok : ∀ q ∈ zs, ∀ f ∈ q, FOk z f) : (lform zs).length ≤ 6 * zs.flatten.length + 4 * zs.length + 4 := by
  have e : ∀ y : Str, y.length = (tl y).length := fun y => (Array.length_toList).symm
  unfold lform
  split
  · have : ("none" : Str).length = 4 := by decide +kernel
    omega
  · rw [e, tl_joinS]
    have h1 := joinL_len (tl " + ") ((zs.map pform).map tl)
    have h2 := pforms_len al zs ok
    have e3 : (tl " + ").length = 3 := by decide +kernel
    have e4 : (((zs.map pform).map tl).map List.length) = (zs.map pform).map (·.length) := by
      rw [List.map_map]
      exact List.map_congr_left fun y _ => (e y).symm
    rw [e4, e3, List.length_map, List.length_map] at h1
    omega
section
variable {P : Program} {w : World} {K : PySem.W.Frag} {mg : Str → Option Value} {base : Heap}
/-- what format_products needs -/
structure DfFps (K : PySem.W.Frag) (mg : Str → Option Value) where
  s : Df K mg "format_products" sFormatProducts ["products"]
  p : Df K mg "format_product" sFormatProduct ["product"]
  f : Df K mg "format_factor" sFormatFactor ["factor"]
  ml : mg "len" = none
  me : ∃ t, mg "EMPTY_FORM" = some (.str "-" t)
  mn : ∃ t, mg "NO_WORDS" = some (.str "none" t)
end
end DW
/-! class Language made of anything -/
namespace DW
open PySem PySem.Spec PyProof.Rows L2 TL
set_option autoImplicit false
theorem ps_noxS' {X : Cx} {st : Stmt} {t : TS} (h : PS X.nox st t) : PS X st t := ⟨fun pins s σ H D I hw =>
  wpAny_mono (h.run pins s σ H D (I.wish _) hw) (fun _ _ q => q.unwish) fun _ _ z => False.elim z⟩
/-- a value that is no alphabet -/
inductive BadA (K : PySem.W.Frag) (H : Hp) : V → Prop where
  | str {x : Str} (l : (tl x).length ≤ 100000) (h : alphB (tl x) = false) : BadA K H (.str x)
  | no {v : V} (h : NoS K H v) : BadA K H v
/-- a value that is neither a list nor a tuple -/
def NoLT (K : PySem.W.Frag) (H : Hp) (v : V) : Prop := ∃ t, TyX K H v t ∧ PySem.W.kitAny K t [.type "list", .type "tuple"] = some false
/-- the first one that is no product -/
def BadAt (K : PySem.W.Frag) (H : Hp) (z : Str) (xs : List V) (k : Nat) : Prop := (∃ v, xs[k]? = some v ∧ PrB K H z v false) ∧ ∀ i v, i < k → xs[i]? = some v → PrB K H z v true
def spLr (K : PySem.W.Frag) (CA CP : Addr) : Sp := fun vs H Q E => ∃ (p C dx : Addr) (va vb : V), vs = [.ref p, va, vb] ∧ H p = some (.ins C dx []) ∧
  ((BadA K H va ∧ ∀ H', Same H H' → E (.ref CA) none H') ∨
   ∃ z : Str, va = .str z ∧ Alph z ∧
    ((NoLT K H vb ∧ ∀ H' d, Same H H' → H' d = none → E (.ref CP) (some d) (upd H' d (.xd [(("index" : Str), .non)]))) ∨
     ∃ (a : Addr) (xs : List V) (k : Nat), vb = .ref a ∧ H a = some (.lst xs) ∧ k < 1000 ∧ BadAt K H z xs k ∧ ∀ H' d, Same H H' → H' d = none → E (.ref CP) (some d) (upd H' d (.xd [(("index" : Str), .int (k : Int))]))))
def spLrT (K : PySem.W.Frag) (CA CP : Addr) : Sp := fun vs H Q E => ∃ (p C dx : Addr) (va vb : V), vs = [.ref p, va, vb] ∧ H p = some (.ins C dx []) ∧
  ((BadA K H va ∧ ∀ H', Same H H' → E (.ref CA) none H') ∨
   ∃ z : Str, va = .str z ∧ Alph z ∧
    ((NoLT K H vb ∧ ∀ H' d, Same H H' → H' d = none → E (.ref CP) (some d) (upd H' d (.xd [(("index" : Str), .non)]))) ∨
     ∃ (a : Addr) (xs : List V) (k : Nat), vb = .ref a ∧ H a = some (.tup xs) ∧ k < 1000 ∧ BadAt K H z xs k ∧ ∀ H' d, Same H H' → H' d = none → E (.ref CP) (some d) (upd H' d (.xd [(("index" : Str), .int (k : Int))]))))
section
variable {P : Program} {w : World} {K : PySem.W.Frag} {mg : Str → Option Value} {base : Heap}
theorem ObBs.same {H H' : Hp} {z : Str} (s : Same H H') : ∀ {vs : List V} {bs : List Bool}, ObBs K H z vs bs → ObBs K H' z vs bs
  | _, _, .nil => .nil
  | _, _, .cons h r => .cons (h.same s) (r.same s)
theorem PrB.same {H H' : Hp} {z : Str} {v : V} {b : Bool} (s : Same H H') (h : PrB K H z v b) : PrB K H' z v b := by
  cases h with
  | no h =>
    obtain ⟨t, ty, kt⟩ := h
    exact .no ⟨t, tyX_same s ty, kt⟩
  | tup h o l => exact .tup (same_tup s _ _ h) (o.same s) l
theorem ok_lr (D : DfLa K mg) (A : EX.DfE0 K mg "InvalidAlphabet") (M : EX.DfE P K mg "InvalidProduct" "index" EX.MsgOk) : FnOk P w K mg base (L2.CX P w) 7 D.i.f D.i.fd ["self", "alphabet", "products"] (spLr K A.C M.C) := by
  have Ga : FnOk P w K mg base CX0 2 D.al.f D.al.fd ["thing"] (spAlp K) := ok_alp D.al D.pr.a D.pr.ma D.pr.mz D.pr.mi D.pr.ms D.pr.ml D.mx.mm
  have Gp : FnOk P w K mg base CX0 3 D.pr.p.f D.pr.p.fd ["alphabet", "thing"] (spIp K) := ok_ip D.pr
  have Gm : FnOk P w K mg base CX0 6 D.mx.m.f D.mx.m.fd ["products"] (spMx K) := ok_mx D.mx
  refine D.i.F.ok scLi (fun vs H Q E h => ?_) (fun cdv A0 outer s H vs Q E hr h => ?_)
  · obtain ⟨p, C, dx, va, vb, rfl, _⟩ := h
    rfl
  · obtain ⟨p, C, dx, va, vb, rfl, hp, h⟩ := h
    have hr2 : Room 2 _ := hr.mono (by decide)
    have hr3 : Room 3 _ := hr.mono (by decide)
    have hr6 : Room 6 _ := hr.mono (by decide)
    refine ⟨_, (pss_cons (ps_if (pt_not (pt_val (pe_call Ga hr2 (by rfl) D.al.g D.al.F.kp D.al.b .nil pass0 (pa_cons (pv 1) pa_nil)))) (pss_one (ps_raise rfl (takes_of rfl rfl rfl rfl) (EX.pmk_err0 A.q A.T (by rfl) A.g))) pss_nil) (pss_cons (ps_if (pt_not (pt_val (pe_callB call_isiT (by rfl) D.pr.mi (by decide +kernel) (pa_cons (pv 2) (pa_cons (pe_tup (pa_cons (pe_bltn (v := V.ty "list") (by rfl) D.mli (by decide +kernel : bootBuiltins "list" = some (.type "list")) rfl) (pa_cons (pe_bltn (v := V.ty "tuple") (by rfl) D.pr.mt (by decide +kernel : bootBuiltins "tuple" = some (.type "tuple")) rfl) pa_nil))) pa_nil))))) (pss_one (ps_raise rfl (takes_of rfl rfl rfl rfl) (EX.pmk_err M.T M.iC M.tI (M.F w base) hr2 M.b (by rfl) M.g pe_non))) pss_nil) (pss_cons (ps_for (passes_of rfl) rfl (pi_enum (by rfl) D.me (pa_cons (pv 2) pa_nil)) (pg_tup rfl (pgs_cons (pg_name (i := 3) scLi.nd rfl (.inl rfl)) (pgs_cons (pg_name (i := 4) scLi.nd rfl (.inl rfl)) pgs_nil))) (pss_one (ps_if (pt_not (pt_val (pe_call Gp hr3 (by rfl) D.pr.p.g D.pr.p.F.kp D.pr.p.b .nil pass0 (pa_cons (pv 1) (pa_cons (pv 4) pa_nil))))) (pss_one (ps_raise rfl (takes_of rfl rfl rfl rfl) (EX.pmk_err M.T M.iC M.tI (M.F w base) hr2 M.b (by rfl) M.g (pv 3)))) pss_nil))) (pss_cons (ps_noxS' (ps_fld (pv 0) (pv 1) rfl)) (pss_one (ps_noxS' (ps_fld (pv 0) (pe_call Gm hr6 (by rfl) D.mx.m.g D.mx.m.F.kp D.mx.m.b .nil pass0 (pa_cons (pv 2) pa_nil)) rfl))))))), ?_⟩
    rcases h with ⟨ba, k⟩ | ⟨z, rfl, al, h⟩
    · refine ⟨va, rfl, va, rfl, ?_⟩
      cases ba with
      | str l h => exact .inl ⟨_, rfl, l, fun H1 s1 => ⟨_, rfl, by rw [h]; exact iteT (k _ s1)⟩⟩
      | no h => exact .inr ⟨h, fun H1 s1 => ⟨_, rfl, iteT (k _ s1)⟩⟩
    have zl : (tl z).length ≤ 100000 := by
      have := al.2.2.1
      omega
    refine ⟨.str z, rfl, .str z, rfl, .inl ⟨z, rfl, zl, fun H1 s1 => ⟨_, rfl, ?_⟩⟩⟩
    rw [alphB_of al]
    refine iteF ?_
    rcases h with ⟨nl, k⟩ | ⟨a, xs, j, rfl, ha, j1, ⟨⟨y, hy, by_⟩, good⟩, k⟩
    · refine ⟨vb, rfl, by rw [sizeLine_eq]; decide, fun T0 hT0 => ?_⟩
      have sT := same_upd (o := .tup [V.ty "list", V.ty "tuple"]) hT0
      have sH := s1.trans sT
      obtain ⟨t, ty, kt⟩ := nl
      refine ⟨vb, T0, _, t, [.type "list", .type "tuple"], false, rfl, upd_same, .cons (.ty _) (.cons (.ty _) .nil), tyX_same sH ty, kt, false, rfl, iteT ?_⟩
      exact ⟨.inr (.inr rfl), fun d nd => k _ d sH nd⟩
    · refine ⟨.ref a, rfl, by rw [sizeLine_eq]; decide, fun T0 hT0 => ?_⟩
      have sT := same_upd (o := .tup [V.ty "list", V.ty "tuple"]) hT0
      have sH := s1.trans sT
      refine ⟨.ref a, T0, _, .type "list", [.type "list", .type "tuple"], true, rfl, upd_same, .cons (.ty _) (.cons (.ty _) .nil), .base (.lst (sH _ _ ha)), ?_, true, rfl, iteF ?_⟩
      · unfold PySem.W.kitAny
        rw [lst_kit]
      refine ⟨.ref a, rfl, a, xs, rfl, SqL.of (sH _ _ ha), for_it (walk_enum (xs := xs)) (fun i σ G => ∃ y3 y4, σ = [some (.ref p), some (.str z), some (.ref a), y3, y4] ∧ Same H G ∧ i ≤ j) ⟨_, _, rfl, sH, Nat.zero_le _⟩ (fun _ _ _ _ ⟨_, _, _, sm, _⟩ => SqL.of (sm _ _ ha)) ?_ ?_⟩
      · rintro i x σ G G' hi ⟨y3, y4, rfl, sm, ij⟩ ⟨T, c, y', rfl, hT, rfl, hc, hy'⟩
        have s2 := sm.trans (same_upd (o := .tup [c, y']) hT)
        refine ⟨T, [c, y'], rfl, SqT.of upd_same, rfl, _, _, rfl, _, _, rfl, rfl, ?_⟩
        by_cases e : i = j
        · subst e
          have hy2 : xs[i]? = some y' := hy'
          rw [hy] at hy2
          cases hy2
          have hc : c = .int (i : Int) := (Option.some.inj hc).symm
          subst hc
          refine ⟨.str z, rfl, y, rfl, z, y, false, rfl, by_.same s2, fun H2 s3 => ⟨_, rfl, iteT ?_⟩⟩
          exact ⟨.int (i : Int), rfl, .inr (.inl ⟨_, rfl, by rw [Int.natAbs_natCast]; exact Nat.lt_of_le_of_lt (Nat.log2_le_self _) (by omega)⟩), fun d nd => k _ d (s2.trans s3) nd⟩
        · refine ⟨.str z, rfl, y', rfl, z, y', true, rfl, (good i y' (by omega) hy').same s2, fun H2 s3 => ⟨_, rfl, iteF ⟨_, _, rfl, s2.trans s3, by omega⟩⟩⟩
      · rintro σ G ⟨y3, y4, rfl, sm, ij⟩
        exact absurd (List.getElem?_eq_some_iff.mp hy).1 (by omega)
theorem ok_lrT (D : DfLa K mg) (A : EX.DfE0 K mg "InvalidAlphabet") (M : EX.DfE P K mg "InvalidProduct" "index" EX.MsgOk) : FnOk P w K mg base (L2.CX P w) 7 D.i.f D.i.fd ["self", "alphabet", "products"] (spLrT K A.C M.C) := by
  have Ga : FnOk P w K mg base CX0 2 D.al.f D.al.fd ["thing"] (spAlp K) := ok_alp D.al D.pr.a D.pr.ma D.pr.mz D.pr.mi D.pr.ms D.pr.ml D.mx.mm
  have Gp : FnOk P w K mg base CX0 3 D.pr.p.f D.pr.p.fd ["alphabet", "thing"] (spIp K) := ok_ip D.pr
  have Gm : FnOk P w K mg base CX0 6 D.mx.m.f D.mx.m.fd ["products"] (spMx K) := ok_mx D.mx
  refine D.i.F.ok scLi (fun vs H Q E h => ?_) (fun cdv A0 outer s H vs Q E hr h => ?_)
  · obtain ⟨p, C, dx, va, vb, rfl, _⟩ := h
    rfl
  · obtain ⟨p, C, dx, va, vb, rfl, hp, h⟩ := h
    have hr2 : Room 2 _ := hr.mono (by decide)
    have hr3 : Room 3 _ := hr.mono (by decide)
    have hr6 : Room 6 _ := hr.mono (by decide)
    refine ⟨_, (pss_cons (ps_if (pt_not (pt_val (pe_call Ga hr2 (by rfl) D.al.g D.al.F.kp D.al.b .nil pass0 (pa_cons (pv 1) pa_nil)))) (pss_one (ps_raise rfl (takes_of rfl rfl rfl rfl) (EX.pmk_err0 A.q A.T (by rfl) A.g))) pss_nil) (pss_cons (ps_if (pt_not (pt_val (pe_callB call_isiT (by rfl) D.pr.mi (by decide +kernel) (pa_cons (pv 2) (pa_cons (pe_tup (pa_cons (pe_bltn (v := V.ty "list") (by rfl) D.mli (by decide +kernel : bootBuiltins "list" = some (.type "list")) rfl) (pa_cons (pe_bltn (v := V.ty "tuple") (by rfl) D.pr.mt (by decide +kernel : bootBuiltins "tuple" = some (.type "tuple")) rfl) pa_nil))) pa_nil))))) (pss_one (ps_raise rfl (takes_of rfl rfl rfl rfl) (EX.pmk_err M.T M.iC M.tI (M.F w base) hr2 M.b (by rfl) M.g pe_non))) pss_nil) (pss_cons (ps_for (passes_of rfl) rfl (EN.pi_enT (by rfl) D.me (pa_cons (pv 2) pa_nil)) (pg_tup rfl (pgs_cons (pg_name (i := 3) scLi.nd rfl (.inl rfl)) (pgs_cons (pg_name (i := 4) scLi.nd rfl (.inl rfl)) pgs_nil))) (pss_one (ps_if (pt_not (pt_val (pe_call Gp hr3 (by rfl) D.pr.p.g D.pr.p.F.kp D.pr.p.b .nil pass0 (pa_cons (pv 1) (pa_cons (pv 4) pa_nil))))) (pss_one (ps_raise rfl (takes_of rfl rfl rfl rfl) (EX.pmk_err M.T M.iC M.tI (M.F w base) hr2 M.b (by rfl) M.g (pv 3)))) pss_nil))) (pss_cons (ps_noxS' (ps_fld (pv 0) (pv 1) rfl)) (pss_one (ps_noxS' (ps_fld (pv 0) (pe_call Gm hr6 (by rfl) D.mx.m.g D.mx.m.F.kp D.mx.m.b .nil pass0 (pa_cons (pv 2) pa_nil)) rfl))))))), ?_⟩
    rcases h with ⟨ba, k⟩ | ⟨z, rfl, al, h⟩
    · refine ⟨va, rfl, va, rfl, ?_⟩
      cases ba with
      | str l h => exact .inl ⟨_, rfl, l, fun H1 s1 => ⟨_, rfl, by rw [h]; exact iteT (k _ s1)⟩⟩
      | no h => exact .inr ⟨h, fun H1 s1 => ⟨_, rfl, iteT (k _ s1)⟩⟩
    have zl : (tl z).length ≤ 100000 := by
      have := al.2.2.1
      omega
    refine ⟨.str z, rfl, .str z, rfl, .inl ⟨z, rfl, zl, fun H1 s1 => ⟨_, rfl, ?_⟩⟩⟩
    rw [alphB_of al]
    refine iteF ?_
    rcases h with ⟨nl, k⟩ | ⟨a, xs, j, rfl, ha, j1, ⟨⟨y, hy, by_⟩, good⟩, k⟩
    · refine ⟨vb, rfl, by rw [sizeLine_eq]; decide, fun T0 hT0 => ?_⟩
      have sT := same_upd (o := .tup [V.ty "list", V.ty "tuple"]) hT0
      have sH := s1.trans sT
      obtain ⟨t, ty, kt⟩ := nl
      refine ⟨vb, T0, _, t, [.type "list", .type "tuple"], false, rfl, upd_same, .cons (.ty _) (.cons (.ty _) .nil), tyX_same sH ty, kt, false, rfl, iteT ?_⟩
      exact ⟨.inr (.inr rfl), fun d nd => k _ d sH nd⟩
    · refine ⟨.ref a, rfl, by rw [sizeLine_eq]; decide, fun T0 hT0 => ?_⟩
      have sT := same_upd (o := .tup [V.ty "list", V.ty "tuple"]) hT0
      have sH := s1.trans sT
      refine ⟨.ref a, T0, _, .type "tuple", [.type "list", .type "tuple"], true, rfl, upd_same, .cons (.ty _) (.cons (.ty _) .nil), .base (.tup (sH _ _ ha)), ?_, true, rfl, iteF ?_⟩
      · have k1 : PySem.W.kitOne K (.type "tuple") (.type "list") = some false := kit_ty (by decide +kernel)
        have k2 : PySem.W.kitOne K (.type "tuple") (.type "tuple") = some true := kit_ty (by decide +kernel)
        show PySem.W.kitAny K (.type "tuple") [.type "list", .type "tuple"] = some true
        simp only [PySem.W.kitAny, k1, k2]
      refine ⟨.ref a, rfl, a, xs, rfl, SqT.of (sH _ _ ha), for_it (EN.walk_T (xs := xs)) (fun i σ G => ∃ y3 y4, σ = [some (.ref p), some (.str z), some (.ref a), y3, y4] ∧ Same H G ∧ i ≤ j) ⟨_, _, rfl, sH, Nat.zero_le _⟩ (fun _ _ _ _ ⟨_, _, _, sm, _⟩ => SqT.of (sm _ _ ha)) ?_ ?_⟩
      · rintro i x σ G G' hi ⟨y3, y4, rfl, sm, ij⟩ ⟨T, c, y', rfl, hT, rfl, hc, hy'⟩
        have s2 := sm.trans (same_upd (o := .tup [c, y']) hT)
        refine ⟨T, [c, y'], rfl, SqT.of upd_same, rfl, _, _, rfl, _, _, rfl, rfl, ?_⟩
        by_cases e : i = j
        · subst e
          have hy2 : xs[i]? = some y' := hy'
          rw [hy] at hy2
          cases hy2
          have hc : c = .int (i : Int) := (Option.some.inj hc).symm
          subst hc
          refine ⟨.str z, rfl, y, rfl, z, y, false, rfl, by_.same s2, fun H2 s3 => ⟨_, rfl, iteT ?_⟩⟩
          exact ⟨.int (i : Int), rfl, .inr (.inl ⟨_, rfl, by rw [Int.natAbs_natCast]; exact Nat.lt_of_le_of_lt (Nat.log2_le_self _) (by omega)⟩), fun d nd => k _ d (s2.trans s3) nd⟩
        · refine ⟨.str z, rfl, y', rfl, z, y', true, rfl, (good i y' (by omega) hy').same s2, fun H2 s3 => ⟨_, rfl, iteF ⟨_, _, rfl, s2.trans s3, by omega⟩⟩⟩
      · rintro σ G ⟨y3, y4, rfl, sm, ij⟩
        exact absurd (List.getElem?_eq_some_iff.mp hy).1 (by omega)
end
end DW
/-! Language made of a tuple of products -/
namespace DW
open PySem PySem.Spec PyProof.Rows L2 TL
set_option autoImplicit false
open ND (Ent DO KOks NK NKs valN putN setN keyVs)
def spMxT (K : PySem.W.Frag) : Sp := fun vs H Q _ => ∃ (a : Addr) (xs : List V) (ps : List (List Fc)), vs = [.ref a] ∧ SqT K H a xs ∧ IsL K H xs ps ∧ ps.length ≤ 1000000 ∧ (∀ p ∈ ps, p.length ≤ 10000 ∧ ∀ f ∈ p, Low f) ∧
  ∀ H' q ys zs, Same H H' → H q = none → H' q = some (.lst ys) → IsL K H' ys zs → MaxOf ps zs → Q (.ref q) H'
def spLiT (K : PySem.W.Frag) (C : Addr) : Sp := fun vs H Q _ => ∃ (p dx a : Addr) (z : Str) (xs : List V) (ps : List (List Fc)), vs = [.ref p, .str z, .ref a] ∧ H p = some (.ins C dx []) ∧ H a = some (.tup xs) ∧ IsL K H xs ps ∧ Alph z ∧ ps.length ≤ 1000000 ∧ (∀ p ∈ ps, p.length ≤ 10000 ∧ ∀ f ∈ p, FOk z f) ∧
  ∀ H' zs, (∀ b o, H b = some o → b ≠ p → H' b = some o) → LaAt K C H' p z zs → MaxOf ps zs → (∃ dx q ys, H' p = some (.ins C dx (flL z q)) ∧ H' q = some (.lst ys) ∧ IsL K H' ys zs ∧ H q = none) → Q .non H'
section
variable {P : Program} {w : World} {K : PySem.W.Frag} {mg : Str → Option Value} {base : Heap}
theorem ok_mxT (D : DfMx K mg) : FnOk P w K mg base CX0 6 D.m.f D.m.fd ["products"] (spMxT K) := by
  have Gr : FnOk P w K mg base CX0 2 D.r.f D.r.fd ["product"] (spRd K) := ok_rd D.r D.incl.s D.ma D.mt
  have Gz : FnOk P w K mg base CX0 1 D.z.f D.z.fd ["product"] (spSz K) := ok_sz D.z D.bw.ml D.mt D.mr D.mg0 D.mm
  have Gi : FnOk P w K mg base CX0 5 D.i.f D.i.fd ["product", "products"] (spIn K) := ok_in D.i D.incl D.ma D.bw.ml
  have Gb : FnOk P w K mg base CX0 5 D.bw.b.f D.bw.b.fd ["products"] (spBw K) := ok_bw D.bw
  refine D.m.F.ok scMx (fun vs H Q E h => ?_) (fun cdv A outer s H vs Q E hr h => ?_)
  · obtain ⟨a, xs, ps, rfl, _⟩ := h
    rfl
  · obtain ⟨a, xs, ps, rfl, ha, iL, pl, pok, k⟩ := h
    have hr1 : Room 1 _ := hr.mono (by decide)
    have hr2 : Room 2 _ := hr.mono (by decide)
    have xl := iL.len
    refine ⟨_, PSs.nox (pss_cons (ps_set (i := 1) scMx.nd rfl (.inl rfl) ND.pe_dnewN) (pss_cons (ps_for PassesOwn.never rfl (pi_tup (pv 0)) (pg_name (i := 2) scMx.nd rfl (.inl rfl)) (pss_cons (ps_set (i := 3) scMx.nd rfl (.inl rfl) (pe_call Gr hr2 (by rfl) D.r.g D.r.F.kp D.r.b .nil pass0 (pa_cons (pv 2) pa_nil))) (pss_cons (ps_set (i := 4) scMx.nd rfl (.inl rfl) (ND.pe_dsetdN (u9 hr) (pv 1) (pe_call Gz hr1 (by rfl) D.z.g D.z.F.kp D.z.b .nil pass0 (pa_cons (pv 3) pa_nil)) ND.pe_dnewN ⟨by rfl, by rfl, by rfl, by rfl⟩)) (pss_one (ND.ps_dputN (u9 hr) (pv 4) (pv 3) pe_bl rfl))))) (pss_cons (ps_set (i := 5) scMx.nd rfl (.inr rfl) (pe_lst pa_nil)) (pss_cons (ps_for PassesOwn.never rfl (pi_list (pe_callBK (ND.cr_sortedD (b := true) rfl hr.units) (by rfl) D.bw.ms (by decide +kernel) (pa_cons (pv 1) pa_nil) (pk_cons pe_bl pk_nil))) (pg_name (i := 6) scMx.nd rfl (.inl rfl)) (pss_one (ps_set (i := 5) scMx.nd rfl (.inr rfl) (pe_op op_cat (pv 5) (pe_lock (pe_lc (own := [("product", 2)]) (g := gName 2) rfl scMx.nd (ND.pi_keysN (ND.pe_dgetN (u9 hr) (pv 1) (pv 6) (fun _ _ => rfl))) (blkOk_by (N := ["products", "groups", "product", "reduced", "group", "maximal", "size"]) (sc := defScope sMaximalProducts) (by decide +kernel)) (fun _ _ _ _ _ => pg_name (i := 2) scMx.nd rfl (Or.inl rfl)) (fun _ _ _ _ _ => (pts_one (pt_not (pt_val (pe_call Gi hr (by rfl) D.i.g D.i.F.kp D.i.b .nil pass0 (pa_cons (pv 2) (pa_cons (pv 5) pa_nil))))))) (fun _ _ _ _ _ => (pv 2)))))))) (pss_one (ps_ret (pe_call Gb hr (by rfl) D.bw.b.g D.bw.b.F.kp D.bw.b.b .nil pass0 (pa_cons (pv 5) pa_nil)))))))), ?_⟩
    intro D0 hD0
    have s0 := same_upd (o := DO P w D0 []) hD0
    have GD0 : GD P w K H (upd H D0 (DO P w D0 [])) D0 [] [] := ⟨upd_same, hD0, rfl, fun i e g h _ => by simp at h, fun i j e e' h _ _ => by simp at h, fun e he => (nomatch he)⟩
    have Gr0 : Grp (ps.take 0) [] := ⟨fun r => ⟨fun ⟨g, hg, _⟩ => (nomatch hg), fun ⟨p, hp, _⟩ => (nomatch hp)⟩, fun g hg => (nomatch hg), fun g hg => (nomatch hg), List.nodup_nil⟩
    refine ⟨.ref a, rfl, a, rfl, ⟨xs, same_tup s0 _ _ ha⟩, for_it (walk_tup (xs := xs)) (fun i σ G => ∃ (kvs : List Ent) (Gs : List Gp) (y2 y3 y4 : Option V), σ = [some (.ref a), some (.ref D0), y2, y3, y4, none, none] ∧ GD P w K H G D0 kvs Gs ∧ Grp (ps.take i) Gs ∧ kvs.length ≤ i ∧ (∀ g ∈ Gs, g.2.length ≤ i ∧ g.1 ≠ []) ∧ Same H G)
      ⟨[], [], _, _, _, rfl, GD0, Gr0, Nat.le_refl _, fun g hg => (nomatch hg), s0⟩ (fun _ _ _ _ ⟨_, _, _, _, _, _, _, _, _, _, sm⟩ => same_tup sm _ _ ha) ?_ ?_⟩
    · rintro i x σ G G' hi ⟨kvs, Gs, y2, y3, y4, rfl, gd, gr, kl, gl, sm⟩ ⟨rfl, hx⟩
      obtain ⟨p, hp, isp0⟩ := iL.get i x hx
      have pm : p ∈ ps := List.mem_of_getElem? hp
      have il : i < ps.length := (List.getElem?_eq_some_iff.mp hp).1
      obtain ⟨p1, p2⟩ := pok p pm
      have rlow : ∀ f ∈ red p, Low f := fun f hf => p2 f (red_mem hf)
      have tk : ps.take (i + 1) = ps.take i ++ [p] := by rw [List.take_add_one, hp]; rfl
      refine ⟨x, rfl, x, p, rfl, isp0.mono (same_tup sm), fun f hf => (p2 f hf).2, by omega, fun H2 u s2 isr => ?_⟩
      have gd2 := gd.same s2
      obtain ⟨b, xr, rfl, hb, iFr⟩ := id isr
      have rl := red_le p
      refine ⟨.ref D0, rfl, D0, kvs, rfl, gd2.at0, gd2.oks, .ref b, rfl, .ref b, red p, rfl, isr, fun f hf => (rlow f hf).2, by omega, fun H3 ka s3 nka hka => ?_⟩
      intro De hDe
      have gd3 := gd2.same s3
      have s4 := same_upd (o := DO P w De []) hDe
      have gd4 := gd3.same s4
      have sm4 := ((sm.trans s2).trans s3).trans s4
      have hka4 : SqT K (upd H3 De (DO P w De [])) ka ((sizeT (red p)).map V.int) := same_tup s4 _ _ (SqT.of hka)
      have isr4 : IsP K (upd H3 De (DO P w De [])) (.ref b) (red p) := isr.mono (same_tup (s3.trans s4))
      have hDe4 : (upd H3 De (DO P w De [])) De = some (DO P w De []) := upd_same
      refine ⟨ka, kvs, numKey (sizeT (red p)), rfl, gd4.at0, gd4.oks, .tup hka4 (nums_nk _), depth_num _, by rw [sizeLine_eq]; omega, fun v hv => ?_, fun hv => ?_⟩
      · obtain ⟨j, e, he, ek, rfl⟩ := valN_some hv
        obtain ⟨g, hg, E⟩ := gd4.gp he
        obtain ⟨Dj, rows, ev, hDj, rw1⟩ := E.dic
        have kg : sizeT (red p) = g.1 := (numKey_inj (E.key.symm.trans ek)).symm
        have gm : g ∈ Gs := List.mem_of_getElem? hg
        rw [ev]
        refine ⟨.ref Dj, rfl, .ref b, rfl, Dj, b, rows, prodKey (red p), rfl, rfl, hDj, rw1.oks, isP_nk isr4, depth_prod _, ?_, ?_⟩
        · rw [rw1.len, sizeLine_eq]
          have := (gl g gm).1
          omega
        refine ⟨kvs, _, _, _, _, rfl, gd_old gd4 he hg ev hDj rw1 isr4, ?_, by omega, fun g' hg' => ?_, ?_⟩
        · rw [tk]
          exact grp_old gr hg kg
        · rcases List.mem_or_eq_of_mem_set hg' with q | q
          · have := (gl g' q).1
            exact ⟨by omega, (gl g' q).2⟩
          · rw [q]
            have h1 := addR_len g.2 (red p)
            have h2 := (gl g gm).1
            refine ⟨?_, (gl g gm).2⟩
            show (addR g.2 (red p)).length ≤ i + 1
            omega
        · obtain ⟨Dx, x1, x2, _⟩ := gd4.nw e (List.mem_of_getElem? he)
          rw [ev] at x1
          cases x1
          exact fun c o q => (upd_ne (ne_of_none q x2)).trans (sm4 _ _ q)
      · have nk := valN_none hv
        have n0 : H De = none := ((sm.trans s2).trans s3).free hDe
        have ne0 : De ≠ D0 := (ne_of_none gd3.at0 hDe).symm
        have nei : ∀ e ∈ kvs, e.2.2 ≠ .ref De := fun e he z => by
          obtain ⟨n, hn⟩ := List.getElem?_of_mem he
          obtain ⟨g, _, E⟩ := gd3.gp hn
          obtain ⟨Dj, rows, ev, hDj, _⟩ := E.dic
          rw [ev] at z
          cases z
          rw [hDe] at hDj
          cases hDj
        have pn : putN kvs (numKey (sizeT (red p))) ka (.ref De) = kvs ++ [(numKey (sizeT (red p)), ka, .ref De)] := by
          unfold putN
          rw [hv]
          rfl
        rw [pn]
        have hDe5 : (upd (upd H3 De (DO P w De [])) D0 (DO P w D0 (kvs ++ [(numKey (sizeT (red p)), ka, V.ref De)]))) De = some (DO P w De []) := (upd_ne ne0).trans hDe4
        refine ⟨.ref De, rfl, .ref b, rfl, De, b, [], prodKey (red p), rfl, rfl, hDe5, fun e he => (nomatch he), isP_nk (isr4.mono (fun c xs h => upd_do gd4.at0 c xs h)), depth_prod _, by rw [sizeLine_eq]; decide, ?_⟩
        refine ⟨_, _, _, _, _, rfl, gd_new gd4 hDe4 n0 ne0 nei hka4 isr4, ?_, ?_, fun g' hg' => ?_, fun c o q => ?_⟩
        · rw [tk]
          refine grp_new gr fun g hg z => ?_
          obtain ⟨n, hn⟩ := List.getElem?_of_mem hg
          have nl := (List.getElem?_eq_some_iff.mp hn).1
          have hl := gd4.len
          have he : kvs[n]? = some (kvs[n]'(by omega)) := List.getElem?_eq_getElem (by omega)
          exact nk _ (List.mem_of_getElem? he) (by rw [(gd4.eg n _ g he hn).key, z])
        · rw [List.length_append]
          show _ + 1 ≤ _
          omega
        · rcases List.mem_append.mp hg' with q | q
          · have := (gl g' q).1
            exact ⟨by omega, (gl g' q).2⟩
          · rw [List.mem_singleton.mp q]
            refine ⟨?_, List.cons_ne_nil _ _⟩
            show 1 ≤ i + 1
            omega
        · exact (upd_ne (ne_of_none q n0)).trans ((upd_ne (ne_of_none q hD0)).trans (sm4 _ _ q))
    · rintro σ G ⟨kvs, Gs, y2, y3, y4, rfl, gd, gr, kl, gl, sm⟩
      rw [xl, List.take_length] at gr
      obtain ⟨Zs, z1, z2, zl, zm⟩ := gd_zip gd
      have tot : (Zs.map fun z => z.2.2.length).sum ≤ ps.length := by
        have e : (Zs.map fun z => z.2.2.length) = (Gs.mergeSort leK).map fun g => g.2.length := by
          rw [z2, List.map_map]
          rfl
        rw [e, (((List.mergeSort_perm Gs leK).map fun g => g.2.length)).sum_nat]
        exact grp_total gr
      have totx : ∀ {i : Nat} {z : Ent × Gp}, Zs[i]? = some z → ((Zs.take i).map fun z => z.2.2.length).sum + z.2.2.length ≤ ps.length ∧ ((Zs.take (i + 1)).map fun z => z.2.2.length).sum = ((Zs.take i).map fun z => z.2.2.length).sum + z.2.2.length := fun {i z} hz => by
        have e : ((Zs.take (i + 1)).map fun z => z.2.2.length).sum = ((Zs.take i).map fun z => z.2.2.length).sum + z.2.2.length := by
          rw [List.take_add_one, hz, List.map_append, List.sum_append]
          simp
        refine ⟨?_, e⟩
        rw [← e, List.map_take]
        exact Nat.le_trans (take_total _ _) tot
      have glow : ∀ g ∈ Gs, ∀ r ∈ g.2, (∀ f ∈ r, Low f) ∧ r.length ≤ 10000 := fun g hg r hr => by
        obtain ⟨p, hp, rfl⟩ := (gr.mem r).mp ⟨g, hg, hr⟩
        have h1 := red_le p
        have h2 := (pok p hp).1
        exact ⟨fun f hf => (pok p hp).2 f (red_mem hf), by omega⟩
      have plow : ∀ (i : Nat), ∀ r ∈ pickM ((Zs.take i).map (·.2)), (∀ f ∈ r, Low f) ∧ r.length ≤ 10000 := fun i r hr => by
        rcases pick_sub _ _ r hr with q | ⟨g, h1, h2⟩
        · exact (nomatch q)
        · obtain ⟨z, hz, rfl⟩ := List.mem_map.mp h1
          obtain ⟨n, _, hn⟩ := zm z (List.mem_of_mem_take hz)
          exact glow _ (List.mem_of_getElem? hn) r h2
      have dk : ∀ e ∈ kvs, ∃ ns : List Int, e.1.data = .tuple (ns.map PyData.int) ∧ ns ≠ [] := fun e he => by
        obtain ⟨n, hn⟩ := List.getElem?_of_mem he
        obtain ⟨g, hg, E⟩ := gd.gp hn
        exact ⟨g.1, by rw [E.key, data_num], (gl g (List.mem_of_getElem? hg)).2⟩
      refine ⟨by rw [sizeLine_eq]; decide, fun M hM => ?_⟩
      have sM := same_upd (o := .lst []) hM
      have gdM := gd.same sM
      refine ⟨.ref D0, rfl, D0, kvs, rfl, rfl, .inl gdM.at0, gdM.oks, ?_, ?_, fun e he => ?_, fun L hL => ?_⟩
      · intro d hd d' hd'
        obtain ⟨e, he, rfl⟩ := List.mem_map.mp hd
        obtain ⟨e', he', rfl⟩ := List.mem_map.mp hd'
        obtain ⟨ns, h1, _⟩ := dk e he
        obtain ⟨ns', h2, _⟩ := dk e' he'
        show PySem.W.alike e.1.data e'.1.data = true
        rw [h1, h2, PySem.W.alike]
        exact PySem.W.alike_ints ns ns'
      · refine .inl fun d hd => ?_
        obtain ⟨e, he, rfl⟩ := List.mem_map.mp hd
        obtain ⟨ns, h1, h2⟩ := dk e he
        match ns, h1, h2 with
        | n :: ns, h1, _ => exact ⟨_, _, h1⟩
      · obtain ⟨ns, h1, _⟩ := dk e he
        rw [h1, PyData.depth, depth_ints]
        decide
      rw [z1]
      have sL := same_upd (o := .lst (keyVs (Zs.map (·.1)))) hL
      have kzl : (keyVs (Zs.map (·.1))).length = Zs.length := by
        unfold keyVs
        rw [List.length_map, List.length_map]
      refine ⟨L, rfl, ⟨_, SqL.of upd_same⟩, for_it (walk_list (xs := keyVs (Zs.map (·.1)))) (fun i σ F => ∃ (N : Addr) (ms : List V) (y6 : Option V), σ = [some (.ref a), some (.ref D0), y2, y3, y4, some (.ref N), y6] ∧ F N = some (.lst ms) ∧ IsL K F ms (pickM ((Zs.take i).map (·.2))) ∧ ms.length ≤ ((Zs.take i).map fun z => z.2.2.length).sum ∧ Same (upd (upd G M (.lst [])) L (.lst (keyVs (Zs.map (·.1))))) F)
        ⟨M, [], _, rfl, sL _ _ upd_same, .nil, Nat.zero_le _, Same.refl _⟩ (fun _ _ _ _ ⟨_, _, _, _, _, _, _, sF⟩ => SqL.of (sF _ _ upd_same)) ?_ ?_⟩
      · rintro i x σ F0 F hi ⟨N, ms, y6, rfl, hN, iM, ml, sF⟩ ⟨rfl, hx⟩
        rw [kzl] at hi
        have gdF := (gdM.same sL).same sF
        have hz : Zs[i]? = some Zs[i] := List.getElem?_eq_getElem hi
        generalize Zs[i] = z at hz
        obtain ⟨tz1, tz2⟩ := totx hz
        obtain ⟨n, hn1, hn2⟩ := zm z (List.mem_of_getElem? hz)
        obtain ⟨ek, et, Di, rows, ev, hDi, rw1⟩ := gdF.eg n z.1 z.2 hn1 hn2
        have gm : z.2 ∈ Gs := List.mem_of_getElem? hn2
        have rl := rw1.len
        have rb := (gl z.2 gm).1
        have ex : x = .ref z.1.2.1 := by
          unfold keyVs at hx
          rw [List.getElem?_map, List.getElem?_map, hz] at hx
          exact (Option.some.inj hx).symm
        subst ex
        have n0 : Di ≠ D0 := by
          obtain ⟨Dx, x1, _, x3⟩ := gdF.nw z.1 (List.mem_of_getElem? hn1)
          rw [ev] at x1
          cases x1
          exact x3
        refine ⟨.ref N, rfl, Di, DO P w Di rows, hDi, trivial, fun od => ?_⟩
        have m1 : ∀ b xs, SqT K F b xs → SqT K (upd F Di (.frz od (DO P w Di rows))) b xs := fun b xs h => upd_do hDi b xs h
        have nd : (kvs.map (·.1)).Nodup := by
          rw [gdF.keys]
          have q := gr.kn
          have e : (Gs.map fun g => numKey g.1) = (Gs.map (·.1)).map numKey := by rw [List.map_map]; rfl
          rw [e]
          exact List.Pairwise.map numKey (fun a b h e => h (numKey_inj e)) q
        have vk : valN kvs (numKey z.2.1) = some (.ref Di) := by
          rw [← ek, ← ev]
          exact valN_get nd hn1
        refine ⟨.ref D0, rfl, .ref z.1.2.1, rfl, D0, z.1.2.1, kvs, numKey z.2.1, .ref Di, rfl, rfl, ⟨.inl ((upd_ne n0.symm).trans gdF.at0), gdF.oks.mono m1, .tup (m1 _ _ et) (nums_nk _), depth_num _⟩, vk, Di, od, rows, rfl, upd_same, fun B hB => ?_⟩
        have sB := same_upd (o := .lst []) hB
        have hNf : (upd F Di (.frz od (DO P w Di rows))) N = some (.lst ms) := (upd_ne (ne_of hN hDi (by intro z; cases z))).trans hN
        refine lc_it ND.walk_keysN (fun j F2 => ∃ acc, F2 B = some (.lst acc) ∧ IsL K F2 acc ((z.2.2.take j).filter fun r => !((pickM ((Zs.take i).map (·.2))).any fun m => inc m r)) ∧ acc.length ≤ j ∧ Same (upd F Di (.frz od (DO P w Di rows))) F2) ⟨[], upd_same, .nil, Nat.le_refl _, sB⟩ (fun _ _ _ ⟨_, _, _, _, s2⟩ => s2 _ _ upd_same) ?_ ?_
        · rintro j y F3 F2 hj ⟨acc, hB2, iA, al, s2⟩ ⟨rfl, e, he, rfl⟩
          obtain ⟨r, hr1, _⟩ := rw1.key he
          have isr := rw1.isp j e r he hr1
          have rm : r ∈ z.2.2 := List.mem_of_getElem? hr1
          have isr2 : IsP K F2 (.ref e.2.1) r := (isr.mono m1).mono (same_tup s2)
          have tk : z.2.2.take (j + 1) = z.2.2.take j ++ [r] := by rw [List.take_add_one, hr1]; rfl
          refine ⟨rfl, .ref e.2.1, rfl, .ref N, rfl, .ref e.2.1, N, r, ms, _, rfl, isr2, SqL.of (s2 _ _ hNf), (iM.mono m1).mono (same_tup s2), (glow _ gm r rm).1, fun q hq => (plow i q hq).1, fun F4 s4 => ⟨_, rfl, ?_⟩⟩
          have hB4 := s4 _ _ hB2
          have iA4 := iA.mono (same_tup s4)
          cases c : (pickM ((Zs.take i).map (·.2))).any fun m => inc m r with
          | true =>
            refine iteF ?_
            refine ⟨acc, hB4, ?_, by omega, s2.trans s4⟩
            rw [tk, List.filter_append, List.filter_cons, c]
            simpa using iA4
          | false =>
            refine iteT ⟨.ref e.2.1, rfl, acc, hB4, by rw [sizeLine_eq]; omega, acc ++ [.ref e.2.1], upd_same, ?_, by rw [List.length_append]; show _ + 1 ≤ _; omega, fun b o q => ?_⟩
            · rw [tk, List.filter_append, List.filter_cons, c]
              have st : ∀ b xs, SqT K F4 b xs → SqT K (upd F4 B (.lst (acc ++ [.ref e.2.1]))) b xs := fun b xs h => upd_tup hB4 b xs h
              exact (iA4.mono st).app (.cons ((isr2.mono (same_tup s4)).mono st) .nil)
            · exact (upd_ne (ne_of_none q hB)).trans (s4 _ _ (s2 _ _ q))
        · rintro F2 ⟨acc, hB2, iA, al, s2⟩
          have hfz := s2 _ _ (upd_same : (upd F Di (.frz od (DO P w Di rows))) Di = _)
          refine ⟨hfz, ?_⟩
          have s3 : Same F (upd F2 Di (DO P w Di rows)) := fun b o q => by
            by_cases c : b = Di
            · rw [c] at q ⊢
              rw [hDi] at q
              rw [upd_same, q]
            · exact (upd_ne c).trans (s2 _ _ ((upd_ne c).trans q))
          have m3 : ∀ b xs, SqT K F2 b xs → SqT K (upd F2 Di (DO P w Di rows)) b xs := fun b xs h => upd_frz hfz (by intro xs z; cases z) b xs h
          have hBd : (upd F2 Di (DO P w Di rows)) B = some (.lst acc) := (upd_ne (ne_of hB2 hfz (by intro z; cases z))).trans hB2
          refine ⟨N, B, ms, acc, rfl, rfl, s3 _ _ hN, hBd, by rw [sizeLine_eq]; omega, fun R hR => ?_⟩
          have sR := same_upd (o := .lst (ms ++ acc)) hR
          refine ⟨R, _, _, rfl, upd_same, ?_, ?_, (sF.trans s3).trans sR⟩
          · have e : pickM ((Zs.take (i + 1)).map (·.2)) = pickM ((Zs.take i).map (·.2)) ++ z.2.2.filter fun r => !((pickM ((Zs.take i).map (·.2))).any fun m => inc m r) := by
              rw [List.take_add_one, hz, List.map_append]
              unfold pickM
              rw [List.foldl_append]
              rfl
            rw [e]
            rw [rl, List.take_length] at iA
            exact (iM.mono (same_tup (s3.trans sR))).app ((iA.mono m3).mono (same_tup sR))
          · rw [List.length_append, tz2]
            omega
      · rintro σ F ⟨N, ms, y6, rfl, hN, iM, ml, sF⟩
        rw [kzl, List.take_length, ← z2] at iM
        have sA := ((sm.trans sM).trans sL).trans sF
        refine ⟨.ref N, rfl, N, ms, _, rfl, SqL.of hN, iM, fun q hq => ?_, fun F2 R ys zs s2 hR hR2 iZ ez => ?_⟩
        · rw [z2] at hq
          have q2 := plow Zs.length q (by rw [List.take_length]; exact hq)
          exact ⟨fun f hf => (q2.1 f hf).2, q2.2⟩
        · exact k F2 R ys zs (sA.trans s2) (sA.free hR) hR2 iZ ⟨Gs, gr, ez⟩
theorem ok_liT (D : DfLa K mg) : FnOk P w K mg base CX0 7 D.i.f D.i.fd ["self", "alphabet", "products"] (spLiT K D.C) := by
  have Ga : FnOk P w K mg base CX0 2 D.al.f D.al.fd ["thing"] (spAlp K) := ok_alp D.al D.pr.a D.pr.ma D.pr.mz D.pr.mi D.pr.ms D.pr.ml D.mx.mm
  have Gp : FnOk P w K mg base CX0 3 D.pr.p.f D.pr.p.fd ["alphabet", "thing"] (spIp K) := ok_ip D.pr
  have Gm : FnOk P w K mg base CX0 6 D.mx.m.f D.mx.m.fd ["products"] (spMxT K) := ok_mxT D.mx
  refine D.i.F.ok scLi (fun vs H Q E h => ?_) (fun cdv A outer s H vs Q E hr h => ?_)
  · obtain ⟨p, dx, a, z, xs, ps, rfl, _⟩ := h
    rfl
  · obtain ⟨p, dx, a, z, xs, ps, rfl, hp, ha, iL, al, pl, pok, k⟩ := h
    have hr2 : Room 2 _ := hr.mono (by decide)
    have hr3 : Room 3 _ := hr.mono (by decide)
    have xl := iL.len
    refine ⟨_, PSs.nox (pss_cons (ps_if (pt_not (pt_val (pe_call Ga hr2 (by rfl) D.al.g D.al.F.kp D.al.b .nil pass0 (pa_cons (pv 1) pa_nil)))) (pss_one ps_never) pss_nil) (pss_cons (ps_if (pt_not (pt_val (pe_callB call_isiT (by rfl) D.pr.mi (by decide +kernel) (pa_cons (pv 2) (pa_cons (pe_tup (pa_cons (pe_bltn (v := V.ty "list") (by rfl) D.mli (by decide +kernel : bootBuiltins "list" = some (.type "list")) rfl) (pa_cons (pe_bltn (v := V.ty "tuple") (by rfl) D.pr.mt (by decide +kernel : bootBuiltins "tuple" = some (.type "tuple")) rfl) pa_nil))) pa_nil))))) (pss_one ps_never) pss_nil) (pss_cons (ps_for PassesOwn.never rfl (EN.pi_enT (by rfl) D.me (pa_cons (pv 2) pa_nil)) (pg_tup rfl (pgs_cons (pg_name (i := 3) scLi.nd rfl (.inl rfl)) (pgs_cons (pg_name (i := 4) scLi.nd rfl (.inl rfl)) pgs_nil))) (pss_one (ps_if (pt_not (pt_val (pe_call Gp hr3 (by rfl) D.pr.p.g D.pr.p.F.kp D.pr.p.b .nil pass0 (pa_cons (pv 1) (pa_cons (pv 4) pa_nil))))) (pss_one ps_never) pss_nil))) (pss_cons (ps_fld (pv 0) (pv 1) rfl) (pss_one (ps_fld (pv 0) (pe_call Gm hr (by rfl) D.mx.m.g D.mx.m.F.kp D.mx.m.b .nil pass0 (pa_cons (pv 2) pa_nil)) rfl)))))), ?_⟩
    have zl : (tl z).length ≤ 100000 := by
      have := al.2.2.1
      omega
    refine ⟨.str z, rfl, .str z, rfl, .inl ⟨z, rfl, zl, fun H1 s1 => ⟨_, rfl, ?_⟩⟩⟩
    rw [alphB_of al]
    refine iteF ?_
    refine ⟨.ref a, rfl, by rw [sizeLine_eq]; decide, fun T0 hT0 => ?_⟩
    have sT := same_upd (o := .tup [V.ty "list", V.ty "tuple"]) hT0
    have sH := s1.trans sT
    refine ⟨.ref a, T0, _, .type "tuple", [.type "list", .type "tuple"], true, rfl, upd_same, .cons (.ty _) (.cons (.ty _) .nil), .base (.tup (sH _ _ ha)), ?_, true, rfl, iteF ?_⟩
    · have k1 : PySem.W.kitOne K (.type "tuple") (.type "list") = some false := kit_ty (by decide +kernel)
      have k2 : PySem.W.kitOne K (.type "tuple") (.type "tuple") = some true := kit_ty (by decide +kernel)
      show PySem.W.kitAny K (.type "tuple") [.type "list", .type "tuple"] = some true
      simp only [PySem.W.kitAny, k1, k2]
    refine ⟨.ref a, rfl, a, xs, rfl, SqT.of (sH _ _ ha), for_it (EN.walk_T (xs := xs)) (fun i σ G => ∃ y3 y4, σ = [some (.ref p), some (.str z), some (.ref a), y3, y4] ∧ Same H G) ⟨_, _, rfl, sH⟩ (fun _ _ _ _ ⟨_, _, _, sm⟩ => SqT.of (sm _ _ ha)) ?_ ?_⟩
    · rintro i x σ G G' hi ⟨y3, y4, rfl, sm⟩ ⟨T, c, y, rfl, hT, rfl, hc, hy⟩
      have s2 := sm.trans (same_upd (o := .tup [c, y]) hT)
      obtain ⟨q, hq, isq⟩ := iL.get i y hy
      have qm : q ∈ ps := List.mem_of_getElem? hq
      obtain ⟨q1, q2⟩ := pok q qm
      refine ⟨T, [c, y], rfl, SqT.of upd_same, rfl, _, _, rfl, _, _, rfl, rfl, ?_⟩
      exact ⟨.str z, rfl, y, rfl, z, y, true, rfl, IsP.pr al (isq.mono (same_tup s2)) q2 (by omega), fun H2 s3 => ⟨_, rfl, iteF ⟨_, _, rfl, s2.trans s3⟩⟩⟩
    · rintro σ G ⟨y3, y4, rfl, sm⟩
      have hpG := sm _ _ hp
      have npa : a ≠ p := ne_of ha hp (by intro z; cases z)
      refine ⟨.str z, rfl, .ref p, rfl, p, D.C, dx, [], rfl, hpG, D.cl, D.nB, by decide, ?_⟩
      refine ⟨.ref a, rfl, a, xs, ps, rfl, SqT.of ((upd_ne npa).trans (sm _ _ ha)), (iL.mono (same_tup sm)).mono (fun b xs h => upd_ins hpG b xs h), pl, fun q hq => ⟨(pok q hq).1, fun f hf => fok_low al ((pok q hq).2 f hf)⟩, fun H' q ys zs s2 nq hq iZ mo => ?_⟩
      have hp2 := s2 _ _ (upd_same : (upd G p (.ins D.C dx (putF "base" (V.str z) []))) p = _)
      have nqp : q ≠ p := fun e => by
        rw [e, upd_same] at nq
        cases nq
      refine ⟨.ref p, rfl, p, D.C, dx, _, rfl, hp2, D.cl, D.nM, (by show 1 < 1000; decide), ?_⟩
      have fq : H q = none := by
        rw [upd_ne nqp] at nq
        exact sm.free nq
      refine k _ zs (fun b o hb nb => ?_) ⟨dx, q, ys, upd_same, (upd_ne nqp).trans hq, iZ.mono (fun b xs h => upd_ins hp2 b xs h)⟩ mo ⟨dx, q, ys, upd_same, (upd_ne nqp).trans hq, iZ.mono (fun b xs h => upd_ins hp2 b xs h), fq⟩
      exact (upd_ne nb).trans (s2 _ _ ((upd_ne nb).trans (sm _ _ hb)))
end
end DW
/-! k14: the Language, or why it is refused -/
namespace DW
open PySem PySem.Spec PyProof.Rows L2 TL
set_option autoImplicit false
/-- two promises of one def: one without errors, one with them -/
theorem fnOk_or {P : Program} {w : World} {K : PySem.W.Frag} {mg : Str → Option Value} {base : Heap} {CX : CXT} {k : Nat} {f : Addr} {fd : FuncData} {ps : List Str} {sp sq : Sp} (F : FnOk P w K mg base CX0 k f fd ps sp) (G : FnOk P w K mg base CX k f fd ps sq) :
    FnOk P w K mg base CX k f fd ps (fun vs H Q E => sp vs H Q E ∨ sq vs H Q E) :=
  ⟨fun vs H Q E h => h.elim (F.len vs H Q E) (G.len vs H Q E), fun A outer s H as us vs Q E hr e0 hb r h => by
    rcases h with h | h
    · refine codeAny_mono (F.run A outer s H as us vs Q E hr e0 hb r h) fun r s' hq => ?_
      cases r with
      | error e => exact False.elim hq
      | ok fl => cases fl <;> exact hq
    · exact G.run A outer s H as us vs Q E hr e0 hb r h⟩
theorem fnOk_orX {P : Program} {w : World} {K : PySem.W.Frag} {mg : Str → Option Value} {base : Heap} {CX : CXT} {k : Nat} {f : Addr} {fd : FuncData} {ps : List Str} {sp sq : Sp} (F : FnOk P w K mg base CX k f fd ps sp) (G : FnOk P w K mg base CX k f fd ps sq) :
    FnOk P w K mg base CX k f fd ps (fun vs H Q E => sp vs H Q E ∨ sq vs H Q E) :=
  ⟨fun vs H Q E h => h.elim (F.len vs H Q E) (G.len vs H Q E), fun A outer s H as us vs Q E hr e0 hb r h => by
    rcases h with h | h
    · exact F.run A outer s H as us vs Q E hr e0 hb r h
    · exact G.run A outer s H as us vs Q E hr e0 hb r h⟩
/-- what is asked of the classes -/
structure MadeJ (K : PySem.W.Frag) (mg : Str → Option Value) (CA CP CT CD : Addr) : Prop where
  gA : mg "InvalidAlphabet" = some (.ref CA)
  gP : mg "InvalidProduct" = some (.ref CP)
  gT : mg "InvalidText" = some (.ref CT)
  gD : mg "DownwordsError" = some (.ref CD)
  mi : mg "isinstance" = none
  tA : EX.ErrC K CA
  tP : EX.ErrC K CP
  no : PySem.W.findIn K (.ref CP) "index" = some none
  eAA : PySem.W.exmOne K (.ref CA) (.ref CA) = some true
  ePA : PySem.W.exmOne K (.ref CP) (.ref CA) = some false
  ePP : PySem.W.exmOne K (.ref CP) (.ref CP) = some true
  kAD : PySem.W.kitOne K (.ref CA) (.ref CD) = some true
  kAP : PySem.W.kitOne K (.ref CA) (.ref CP) = some false
  kAT : PySem.W.kitOne K (.ref CA) (.ref CT) = some false
  kPD : PySem.W.kitOne K (.ref CP) (.ref CD) = some true
  kPT : PySem.W.kitOne K (.ref CP) (.ref CT) = some false
/-- a list or a tuple -/
def LT (H : Hp) (a : Addr) (xs : List V) : Prop := H a = some (.lst xs) ∨ H a = some (.tup xs)
def spMade (K : PySem.W.Frag) (C : Addr) : Sp := fun vs H Q _ => ∃ va vb : V, vs = [va, vb] ∧
  ((BadA K H va ∧ ∀ H', Same H H' → Q (.str "alphabet") H') ∨
   ∃ z : Str, va = .str z ∧ Alph z ∧
    ((NoLT K H vb ∧ ∀ H' t, Same H H' → H' t = some (.tup [.str "product", .non]) → Q (.ref t) H') ∨
     (∃ (a : Addr) (xs : List V) (k : Nat), vb = .ref a ∧ LT H a xs ∧ k < 1000 ∧ BadAt K H z xs k ∧ ∀ H' t, Same H H' → H' t = some (.tup [.str "product", .int (k : Int)]) → Q (.ref t) H') ∨
     (∃ (a : Addr) (xs : List V) (ps : List (List Fc)), vb = .ref a ∧ LT H a xs ∧ IsL K H xs ps ∧ ps.length ≤ 1000000 ∧ (∀ p ∈ ps, p.length ≤ 10000 ∧ ∀ f ∈ p, FOk z f) ∧ ∀ H' x zs, Same H H' → LaAt K C H' x z zs → Q (.ref x) H')))
theorem NoS.same {K : PySem.W.Frag} {H H' : Hp} {v : V} (s : Same H H') (h : NoS K H v) : NoS K H' v := by
  obtain ⟨t, ty, kt⟩ := h
  exact ⟨t, tyX_same s ty, kt⟩
theorem NoLT.same {K : PySem.W.Frag} {H H' : Hp} {v : V} (s : Same H H') (h : NoLT K H v) : NoLT K H' v := by
  obtain ⟨t, ty, kt⟩ := h
  exact ⟨t, tyX_same s ty, kt⟩
theorem BadA.same {K : PySem.W.Frag} {H H' : Hp} {v : V} (s : Same H H') (h : BadA K H v) : BadA K H' v := by
  cases h with
  | str l h => exact .str l h
  | no h => exact .no (h.same s)
theorem BadAt.same {K : PySem.W.Frag} {H H' : Hp} {z : Str} {xs : List V} {k : Nat} (s : Same H H') (h : BadAt K H z xs k) : BadAt K H' z xs k := by
  obtain ⟨⟨v, hv, b⟩, g⟩ := h
  exact ⟨⟨v, hv, b.same s⟩, fun i v hi hv => (g i v hi hv).same s⟩
section
variable {P : Program} {w : World} {K : PySem.W.Frag} {mg : Str → Option Value} {base : Heap}
theorem scMade : FnScope ["_law_alphabet_here", "_law_products", "e"] ["_law_alphabet_here", "_law_products"] (defScope sLMade) := ⟨rfl, rfl, rfl, by decide +kernel, rfl, by decide +kernel, by decide +kernel⟩
theorem ok_made (D : Df K mg "_law_made" sLMade ["_law_alphabet_here", "_law_products"]) (L : DfLa K mg) (A : EX.DfE0 K mg "InvalidAlphabet") (M : EX.DfE P K mg "InvalidProduct" "index" EX.MsgOk) {CT CD : Addr} (J : MadeJ K mg A.C M.C CT CD) : FnOk P w K mg base CX0 9 D.f D.fd ["_law_alphabet_here", "_law_products"] (spMade K L.C) := by
  have G1 : FnOk P w K mg base (L2.CX P w) 7 L.i.f L.i.fd ["self", "alphabet", "products"] (fun vs H Q E => spLi K L.C vs H Q E ∨ spLr K A.C M.C vs H Q E) := fnOk_or (ok_li L) (ok_lr L A M)
  have G2 : FnOk P w K mg base (L2.CX P w) 7 L.i.f L.i.fd ["self", "alphabet", "products"] (fun vs H Q E => spLiT K L.C vs H Q E ∨ spLrT K A.C M.C vs H Q E) := fnOk_or (ok_liT L) (ok_lrT L A M)
  have GI := fnOk_orX G1 G2
  refine D.F.ok scMade (fun vs H Q E h => ?_) (fun cdv A0 outer s H vs Q E hr h => ?_)
  · obtain ⟨va, vb, rfl, _⟩ := h
    rfl
  · obtain ⟨va, vb, rfl, h⟩ := h
    have hr7 : Room (7 + 1) _ := hr.mono (by decide)
    refine ⟨_, (pss_one (EK.ps_try_each (i := 2) (n := "e") rfl rfl scMade.nd rfl rfl (fun W pn xe tk _ => (pss_one (ps_ret (EK.pe_makeS L.mkr GI hr7 (by rfl) L.g L.i.b (fun σ => passAt tk σ) (pa_cons (pv 0) (pa_cons (pv 1) pa_nil)))))) (.cons ⟨rfl, by decide, .inl J.gA⟩ (fun a oe cls d pn hz hf => (pss_one (ps_ret (pe_ifExp (pw_and (pt_val (pe_callB (EX.call_isX hz hf) (by rfl) J.mi (by decide +kernel) (pa_cons (pv 2) (pa_cons (pe_glob (v := V.ref CD) (by rfl) J.gD rfl) pa_nil)))) (pw_and1 (pt_not (pt_val (pe_callB (EX.call_isXT hz hf) (by rfl) J.mi (by decide +kernel) (pa_cons (pv 2) (pa_cons (pe_tup (pa_cons (pe_glob (v := V.ref M.C) (by rfl) J.gP rfl) (pa_cons (pe_glob (v := V.ref CT) (by rfl) J.gT rfl) pa_nil))) pa_nil))))))).pt pe_str pe_str)))) (.cons ⟨rfl, by decide, .inl J.gP⟩ (fun a oe cls d pn hz hf => (pss_one (ps_ret (pe_ifExp (pw_and (pt_val (pe_callB (EX.call_isX hz hf) (by rfl) J.mi (by decide +kernel) (pa_cons (pv 2) (pa_cons (pe_glob (v := V.ref CD) (by rfl) J.gD rfl) pa_nil)))) (pw_and1 (pt_not (pt_val (pe_callB (EX.call_isX hz hf) (by rfl) J.mi (by decide +kernel) (pa_cons (pv 2) (pa_cons (pe_glob (v := V.ref CT) (by rfl) J.gT rfl) pa_nil))))))).pt (pe_tup (pa_cons pe_str (pa_cons (EX.pe_xfE hz hf (pv 2)) pa_nil))) pe_str)))) .nil)))), ?_⟩
    refine ⟨va, rfl, vb, rfl, fun x dx hx hdx nxd => ?_⟩
    have sX : Same H (upd (upd H dx (.own x)) x (.ins L.C dx [])) := fun b o e => (upd_ne (ne_of_none e hx)).trans ((upd_ne (ne_of_none e hdx)).trans e)
    rcases h with ⟨bA, k⟩ | ⟨z, rfl, al, h⟩
    · refine .inl (.inr ⟨x, L.C, dx, va, vb, rfl, upd_same, .inl ⟨bA.same sX, fun H' s' => ?_⟩⟩)
      refine .inl ⟨J.eAA, fun a na => ?_⟩
      refine ⟨.ref a, rfl, A.C, .ref CD, .ref CD, true, rfl, rfl, J.tA, (fun dd e => nomatch e), (fun u h => h), J.kAD, _, rfl, iteT ?_⟩
      refine ⟨.ref a, rfl, by show 2 ≤ sizeLine; decide, fun t ht => ?_⟩
      refine ⟨A.C, t, _, [.ref M.C, .ref CT], false, rfl, rfl, J.tA, (fun dd e => nomatch e), upd_same, (fun us h => ?_), ?_, _, rfl, iteT ?_⟩
      · cases h with
        | cons h1 r =>
          cases r with
          | cons h2 r =>
            cases r
            rw [show _ = _ from h1, show _ = _ from h2]
      · show PySem.W.kitAny K (.ref A.C) [.ref M.C, .ref CT] = some false
        simp only [PySem.W.kitAny, J.kAP, J.kAT]
      · exact k _ ((sX.trans s').trans (same_upd ht))
    rcases h with ⟨nl, k⟩ | ⟨a, xs, j, rfl, lt, j1, bad, k⟩ | ⟨a, xs, ps, rfl, lt, iL, pl, pok, k⟩
    · refine .inl (.inr ⟨x, L.C, dx, .str z, vb, rfl, upd_same, .inr ⟨z, rfl, al, .inl ⟨nl.same sX, fun H' d s' nd => ?_⟩⟩⟩)
      · have sd := same_upd (o := .xd [(("index" : Str), V.non)]) nd
        have gd : (upd H' d (.xd [(("index" : Str), V.non)])) d = some (.xd [(("index" : Str), V.non)]) := upd_same
        generalize upd H' d (.xd [(("index" : Str), V.non)]) = H2 at sd gd ⊢
        have hdd : ∀ dd, some d = some dd → ∃ fs, H2 dd = some (.xd fs) := fun dd e => by cases e; exact ⟨_, gd⟩
        refine .inr ⟨J.ePA, .inl ⟨J.ePP, fun a na => ?_⟩⟩
        refine ⟨.ref a, rfl, M.C, .ref CD, .ref CD, true, rfl, rfl, J.tP, hdd, (fun u h => h), J.kPD, _, rfl, iteT ?_⟩
        refine ⟨.ref a, rfl, M.C, .ref CT, .ref CT, false, rfl, rfl, J.tP, hdd, (fun u h => h), J.kPT, _, rfl, iteT ?_⟩
        refine ⟨.ref a, rfl, M.C, rfl, rfl, J.tP, J.no, d, _, V.non, rfl, gd, rfl, by show 2 ≤ sizeLine; decide, fun t ht => ?_⟩
        exact k _ t (((sX.trans s').trans sd).trans (same_upd ht)) upd_same
    · rcases lt with ha | ha
      · refine .inl (.inr ⟨x, L.C, dx, .str z, .ref a, rfl, upd_same, .inr ⟨z, rfl, al, .inr ⟨a, xs, j, rfl, sX _ _ ha, j1, bad.same sX, fun H' d s' nd => ?_⟩⟩⟩)
        have sd := same_upd (o := .xd [(("index" : Str), V.int (j : Int))]) nd
        have gd : (upd H' d (.xd [(("index" : Str), V.int (j : Int))])) d = some (.xd [(("index" : Str), V.int (j : Int))]) := upd_same
        generalize upd H' d (.xd [(("index" : Str), V.int (j : Int))]) = H2 at sd gd ⊢
        have hdd : ∀ dd, some d = some dd → ∃ fs, H2 dd = some (.xd fs) := fun dd e => by cases e; exact ⟨_, gd⟩
        refine .inr ⟨J.ePA, .inl ⟨J.ePP, fun a na => ?_⟩⟩
        refine ⟨.ref a, rfl, M.C, .ref CD, .ref CD, true, rfl, rfl, J.tP, hdd, (fun u h => h), J.kPD, _, rfl, iteT ?_⟩
        refine ⟨.ref a, rfl, M.C, .ref CT, .ref CT, false, rfl, rfl, J.tP, hdd, (fun u h => h), J.kPT, _, rfl, iteT ?_⟩
        refine ⟨.ref a, rfl, M.C, rfl, rfl, J.tP, J.no, d, _, V.int (j : Int), rfl, gd, rfl, by show 2 ≤ sizeLine; decide, fun t ht => ?_⟩
        exact k _ t (((sX.trans s').trans sd).trans (same_upd ht)) upd_same
      · refine .inr (.inr ⟨x, L.C, dx, .str z, .ref a, rfl, upd_same, .inr ⟨z, rfl, al, .inr ⟨a, xs, j, rfl, sX _ _ ha, j1, bad.same sX, fun H' d s' nd => ?_⟩⟩⟩)
        have sd := same_upd (o := .xd [(("index" : Str), V.int (j : Int))]) nd
        have gd : (upd H' d (.xd [(("index" : Str), V.int (j : Int))])) d = some (.xd [(("index" : Str), V.int (j : Int))]) := upd_same
        generalize upd H' d (.xd [(("index" : Str), V.int (j : Int))]) = H2 at sd gd ⊢
        have hdd : ∀ dd, some d = some dd → ∃ fs, H2 dd = some (.xd fs) := fun dd e => by cases e; exact ⟨_, gd⟩
        refine .inr ⟨J.ePA, .inl ⟨J.ePP, fun a na => ?_⟩⟩
        refine ⟨.ref a, rfl, M.C, .ref CD, .ref CD, true, rfl, rfl, J.tP, hdd, (fun u h => h), J.kPD, _, rfl, iteT ?_⟩
        refine ⟨.ref a, rfl, M.C, .ref CT, .ref CT, false, rfl, rfl, J.tP, hdd, (fun u h => h), J.kPT, _, rfl, iteT ?_⟩
        refine ⟨.ref a, rfl, M.C, rfl, rfl, J.tP, J.no, d, _, V.int (j : Int), rfl, gd, rfl, by show 2 ≤ sizeLine; decide, fun t ht => ?_⟩
        exact k _ t (((sX.trans s').trans sd).trans (same_upd ht)) upd_same
    · have fin : ∀ H' zs, (∀ b o, (upd (upd H dx (.own x)) x (.ins L.C dx [])) b = some o → b ≠ x → H' b = some o) → LaAt K L.C H' x z zs → Same H H' := fun H' zs kp La b o e => kp b o (sX _ _ e) (ne_of_none e hx)
      rcases lt with ha | ha
      · exact .inl (.inl ⟨x, dx, a, z, xs, ps, rfl, upd_same, sX _ _ ha, iL.mono (same_tup sX), al, pl, pok, fun H' zs kp La mo _ => ⟨rfl, k H' x zs (fin H' zs kp La) La⟩⟩)
      · exact .inr (.inl ⟨x, dx, a, z, xs, ps, rfl, upd_same, sX _ _ ha, iL.mono (same_tup sX), al, pl, pok, fun H' zs kp La mo _ => ⟨rfl, k H' x zs (fin H' zs kp La) La⟩⟩)
end
end DW
/-! k14: objects that are no product -/
namespace DW
open PySem PySem.Spec PyProof.Rows L2 TL
set_option autoImplicit false
/-- the data of the odd objects -/
def oddD (u : Str) : List PyData := [.none, .str "a?", .list [.str "opt", .str "a"], .tuple [.tuple [.str "opt", .str "Y"]], .tuple [.tuple [.str "star", .str ""]], .int 0, .tuple [.none], .tuple [.tuple [.str "opt", .str u], .str "a"]]
theorem beq_str {x y : Str} (h : x ≠ y) : (x == y) = false := beq_eq_false_iff_ne.mpr h
theorem odd_not {z u : Str} (al : Alph z) {fs : List Fc} (ok : ∀ f ∈ fs, FOk z f) : ((oddD u).any fun o => PyData.eqv o (pD fs)) = false := by
  unfold oddD pD
  cases fs with
  | nil => simp [PyData.eqv, PyData.eqvAll]
  | cons f r =>
    have o := ok f List.mem_cons_self
    have n1 : f.2 ≠ "Y" := fun e => by
      have s := o.2.1
      rw [e] at s
      have : 89 ∈ tl z := s.subset (by decide +kernel)
      have := al.2.2.2 _ this
      omega
    have n2 : f.2 ≠ "" := fun e => o.1 (by rw [e]; rfl)
    have b1 : (("Y" : Str) == f.2) = false := beq_str (Ne.symm n1)
    have b2 : (("" : Str) == f.2) = false := beq_str (Ne.symm n2)
    cases r with
    | nil => simp [PyData.eqv, PyData.eqvAll, fD, b1, b2]
    | cons g r => simp [PyData.eqv, PyData.eqvAll, fD, b1, b2]
theorem odd_lay {u : Str} (uo : PyData.strOk u = true) : ∀ o ∈ oddD u, PyData.canLay0 o = true ∧ o.depth ≤ 4 := by
  intro o ho
  unfold oddD at ho
  simp only [List.mem_cons, List.not_mem_nil, or_false] at ho
  rcases ho with rfl | rfl | rfl | rfl | rfl | rfl | rfl | rfl
  · exact ⟨by decide +kernel, by decide +kernel⟩
  · exact ⟨by decide +kernel, by decide +kernel⟩
  · exact ⟨by decide +kernel, by decide +kernel⟩
  · exact ⟨by decide +kernel, by decide +kernel⟩
  · exact ⟨by decide +kernel, by decide +kernel⟩
  · exact ⟨by decide +kernel, by decide +kernel⟩
  · exact ⟨by decide +kernel, by decide +kernel⟩
  · refine ⟨?_, ?_⟩
    · simp only [PyData.canLay0, PyData.canLayAll0, uo, Bool.and_true, Bool.true_and]
      decide +kernel
    · simp only [PyData.depth, PyData.depthAll]
      decide
theorem odd_in {u : Str} (uo : PyData.strOk u = true) {o : PyData} (ho : o ∈ oddD u) : ((oddD u).any fun x => PyData.eqv x o) = true :=
  List.any_eq_true.mpr ⟨o, ho, PySem.SeqAt.eqv_refl _ (odd_lay uo o ho).1⟩
theorem odd_shaped {u : Str} (uo : PyData.strOk u = true) {o : PyData} (ho : o ∈ oddD u) : SeqAt.shaped o = true := by
  obtain ⟨h1, h2⟩ := odd_lay uo o ho
  unfold SeqAt.shaped
  rw [Bool.and_eq_true]
  exact ⟨h1, decide_eq_true (by omega)⟩
theorem odds_shaped {u : Str} (uo : PyData.strOk u = true) : SeqAt.shaped (.list (oddD u)) = true := by
  have g : ∀ ds : List PyData, (∀ d ∈ ds, PyData.canLay0 d = true ∧ d.depth ≤ 4) → PyData.canLayAll0 ds = true ∧ PyData.depthAll ds ≤ 4 := by
    intro ds
    induction ds with
    | nil => exact fun _ => ⟨rfl, Nat.zero_le _⟩
    | cons d r ih =>
      intro h
      obtain ⟨h1, h2⟩ := ih fun q hq => h q (List.mem_cons_of_mem _ hq)
      obtain ⟨c1, c2⟩ := h d List.mem_cons_self
      exact ⟨by simp only [PyData.canLayAll0, c1, h1, Bool.and_self], by simp only [PyData.depthAll]; omega⟩
  obtain ⟨h1, h2⟩ := g _ (odd_lay uo)
  unfold SeqAt.shaped
  rw [Bool.and_eq_true]
  exact ⟨by simp only [PyData.canLay0, h1], decide_eq_true (by simp only [PyData.depth]; omega)⟩
/-- an item of the list that is handed over: a product, or an odd object -/
def El (K : PySem.W.Frag) (H : Hp) (z u : Str) (v : V) (b : Bool) (d : PyData) : Prop :=
  (b = true ∧ ∃ fs, IsP K H v fs ∧ (∀ f ∈ fs, FOk z f) ∧ fs.length ≤ 10000 ∧ d = pD fs) ∨ (b = false ∧ d ∈ oddD u ∧ Dp K H v d ∧ PrB K H z v false)
theorem El.dp {K : PySem.W.Frag} {H : Hp} {z u : Str} {v : V} {b : Bool} {d : PyData} (h : El K H z u v b d) : Dp K H v d := by
  rcases h with ⟨_, fs, p, _, _, rfl⟩ | ⟨_, _, h, _⟩
  · exact p.dp
  · exact h
theorem El.sh {K : PySem.W.Frag} {H : Hp} {z u : Str} {v : V} {b : Bool} {d : PyData} (al : Alph z) (uo : PyData.strOk u = true) (h : El K H z u v b d) : SeqAt.shaped d = true := by
  rcases h with ⟨_, fs, p, ok, _, rfl⟩ | ⟨_, h, _, _⟩
  · exact pD_shaped al ok
  · exact odd_shaped uo h
theorem El.inn {K : PySem.W.Frag} {H : Hp} {z u : Str} {v : V} {b : Bool} {d : PyData} (al : Alph z) (uo : PyData.strOk u = true) (h : El K H z u v b d) : ((oddD u).any fun o => PyData.eqv o d) = !b := by
  rcases h with ⟨rfl, fs, p, ok, _, rfl⟩ | ⟨rfl, h, _, _⟩
  · exact odd_not al ok
  · exact odd_in uo h
theorem El.pr {K : PySem.W.Frag} {H : Hp} {z u : Str} {v : V} {b : Bool} {d : PyData} (al : Alph z) (h : El K H z u v b d) : PrB K H z v b := by
  rcases h with ⟨rfl, fs, p, ok, l, rfl⟩ | ⟨rfl, _, _, h⟩
  · exact p.pr al ok (by omega)
  · exact h
mutual
theorem Dp.same' {K : PySem.W.Frag} {H H' : Hp} (s : Same H H') : ∀ {d : PyData} {v : V}, Dp K H v d → Dp K H' v d
  | _, _, .non => .non
  | _, _, .bl b => .bl b
  | _, _, .int i => .int i
  | _, _, .str x => .str x
  | _, _, .lst h r => .lst (same_lst s h) (DpAll.same' s r)
  | _, _, .tup h r => .tup (same_tup s _ _ h) (DpAll.same' s r)
theorem DpAll.same' {K : PySem.W.Frag} {H H' : Hp} (s : Same H H') : ∀ {ds : List PyData} {vs : List V}, DpAll K H vs ds → DpAll K H' vs ds
  | _, _, .nil => .nil
  | _, _, .cons h r => .cons (Dp.same' s h) (DpAll.same' s r)
end
theorem El.same {K : PySem.W.Frag} {H H' : Hp} {z u : Str} {v : V} {b : Bool} {d : PyData} (s : Same H H') (h : El K H z u v b d) : El K H' z u v b d := by
  rcases h with ⟨rfl, fs, p, ok, l, rfl⟩ | ⟨rfl, h, dp, h2⟩
  · exact .inl ⟨rfl, fs, p.mono (same_tup s), ok, l, rfl⟩
  · exact .inr ⟨rfl, h, Dp.same' s dp, h2.same s⟩
end DW
/-! k14: the law -/
namespace DW
open PySem PySem.Spec PyProof.Rows L2 TL
set_option autoImplicit false
/-- the heap without two of its objects -/
def er (H : Hp) (W t : Addr) : Hp := fun b => if b = W ∨ b = t then none else H b
theorem er_at {H : Hp} {W t b : Addr} (h1 : b ≠ W) (h2 : b ≠ t) : er H W t b = H b := if_neg (fun h => h.elim h1 h2)
theorem er_tup {K : PySem.W.Frag} {H : Hp} {W t : Addr} {us : List V} {kvs : List (Key × V)} (hW : H W = some (.lst us)) (hT : H t = some (.dK kvs)) : ∀ b xs, SqT K H b xs → SqT K (er H W t) b xs := by
  intro b xs h
  have go : ∀ o, H b = some o → o ≠ .lst us → o ≠ .dK kvs → er H W t b = some o := fun o e n1 n2 => by
    rw [er_at (fun q => n1 (Option.some.inj (by rw [← e, q, hW]))) (fun q => n2 (Option.some.inj (by rw [← e, q, hT])))]
    exact e
  rcases h with (h | ⟨o, h⟩) | h
  · exact .inl (.inl (go _ h (by intro z; cases z) (by intro z; cases z)))
  · exact .inl (.inr ⟨o, go _ h (by intro z; cases z) (by intro z; cases z)⟩)
  · exact .inr h
theorem er_same {H H' : Hp} {W t : Addr} (h : ∀ b o, H b = some o → b ≠ W → b ≠ t → H' b = some o) : Same (er H W t) H' := fun b o e => by
  unfold er at e
  split at e
  · cases e
  · rename_i n
    exact h b o e (fun q => n (.inl q)) (fun q => n (.inr q))
theorem er_nt {H : Hp} {W t : Addr} : er H W t t = none := if_pos (.inr rfl)
theorem er_nW {H : Hp} {W t : Addr} : er H W t W = none := if_pos (.inl rfl)
theorem er_kp {H P P' : Hp} {W t : Addr} (s : Same (er H W t) P) (k : Kp t P P') : Same (er H W t) P' := fun b o e => k.oth b o (fun q => by rw [q, er_nt] at e; cases e) (s b o e)
theorem er_upd {H P : Hp} {W t : Addr} {o : HO} (s : Same (er H W t) P) : Same (er H W t) (upd P W o) := fun b o' e => (upd_ne (fun q => by rw [q, er_nW] at e; cases e)).trans (s b o' e)
theorem hd_kp {Hd P P' : Hp} {t : Addr} (n : Hd t = none) (s : Same Hd P) (k : Kp t P P') : Same Hd P' := fun b o e => k.oth b o (fun q => by rw [q, n] at e; cases e) (s b o e)
theorem hd_upd {Hd P : Hp} {W : Addr} {o : HO} (n : Hd W = none) (s : Same Hd P) : Same Hd (upd P W o) := fun b o' e => (upd_ne (fun q => by rw [q, n] at e; cases e)).trans (s b o' e)
theorem noT_non {K : PySem.W.Frag} {H : Hp} : NoT K H .non := ⟨_, .base .non, kit_ty (by decide +kernel)⟩
theorem noT_str {K : PySem.W.Frag} {H : Hp} (x : Str) : NoT K H (.str x) := ⟨_, .base (.str x), kit_ty (by decide +kernel)⟩
theorem noT_int {K : PySem.W.Frag} {H : Hp} (i : Int) : NoT K H (.int i) := ⟨_, .base (.int i), kit_ty (by decide +kernel)⟩
theorem noT_lst {K : PySem.W.Frag} {H : Hp} {a : Addr} {xs : List V} (h : H a = some (.lst xs)) : NoT K H (.ref a) := ⟨_, .base (.lst h), kit_ty (by decide +kernel)⟩
/-- the odd objects in a heap -/
theorem odd_els {K : PySem.W.Frag} {H : Hp} {z u : Str} (al : Alph z) {b i1 t1 i2 t2 t3 i4 t4 : Addr} (gb : H b = some (.lst [V.str "opt", V.str "a"])) (g1 : SqT K H i1 [V.str "opt", V.str "Y"]) (h1 : SqT K H t1 [V.ref i1])
    (g2 : SqT K H i2 [V.str "star", V.str ""]) (h2 : SqT K H t2 [V.ref i2]) (h3 : SqT K H t3 [V.non]) (g4 : SqT K H i4 [V.str "opt", V.str u]) (h4 : SqT K H t4 [V.ref i4, V.str "a"]) (ul : (tl u).length ≤ 100000) :
    DpAll K H [V.non, V.str "a?", V.ref b, V.ref t1, V.ref t2, V.int 0, V.ref t3, V.ref t4] (oddD u) ∧ ∀ v ∈ [V.non, V.str "a?", V.ref b, V.ref t1, V.ref t2, V.int 0, V.ref t3, V.ref t4], ∃ d, El K H z u v false d := by
  have d3 : Dp K H (.ref b) (.list [.str "opt", .str "a"]) := .lst (SqL.of gb) (.cons (.str _) (.cons (.str _) .nil))
  have d4 : Dp K H (.ref t1) (.tuple [.tuple [.str "opt", .str "Y"]]) := .tup h1 (.cons (.tup g1 (.cons (.str _) (.cons (.str _) .nil))) .nil)
  have d5 : Dp K H (.ref t2) (.tuple [.tuple [.str "star", .str ""]]) := .tup h2 (.cons (.tup g2 (.cons (.str _) (.cons (.str _) .nil))) .nil)
  have d7 : Dp K H (.ref t3) (.tuple [.none]) := .tup h3 (.cons .non .nil)
  have d8 : Dp K H (.ref t4) (.tuple [.tuple [.str "opt", .str u], .str "a"]) := .tup h4 (.cons (.tup g4 (.cons (.str _) (.cons (.str _) .nil))) (.cons (.str _) .nil))
  refine ⟨.cons .non (.cons (.str _) (.cons d3 (.cons d4 (.cons d5 (.cons (.int _) (.cons d7 (.cons d8 .nil))))))), ?_⟩
  have m : ∀ d, d ∈ [PyData.none, .str "a?", .list [.str "opt", .str "a"], .tuple [.tuple [.str "opt", .str "Y"]], .tuple [.tuple [.str "star", .str ""]], .int 0, .tuple [.none], .tuple [.tuple [.str "opt", .str u], .str "a"]] → d ∈ oddD u := fun d h => h
  intro v hv
  simp only [List.mem_cons, List.not_mem_nil, or_false] at hv
  rcases hv with rfl | rfl | rfl | rfl | rfl | rfl | rfl | rfl
  · exact ⟨_, .inr ⟨rfl, m .none (by simp), .non, .no noT_non⟩⟩
  · exact ⟨_, .inr ⟨rfl, m (.str "a?") (by simp), .str _, .no (noT_str _)⟩⟩
  · exact ⟨_, .inr ⟨rfl, m _ (by simp), d3, .no (noT_lst gb)⟩⟩
  · refine ⟨_, .inr ⟨rfl, m _ (by simp), d4, ?_⟩⟩
    have e : facB z (.str "opt") "Y" = false := by
      unfold facB
      have n : decide (89 ∈ tl z) = false := decide_eq_false fun h => by have := al.2.2.2 _ h; omega
      have l : (tl ("Y" : Str)).all (fun c => decide (c ∈ tl z)) = false := by
        show ([89] : List Nat).all (fun c => decide (c ∈ tl z)) = false
        rw [List.all_cons, n]
        rfl
      rw [l]
      rfl
    have q : PrB K H z (.ref t1) (([facB z (.str "opt") "Y"] : List Bool).all id) := .tup h1 (.cons (.fac g1 (fun y => rfl) (by decide +kernel)) .nil) (by show 1 ≤ 100000; decide)
    rw [e] at q
    exact q
  · refine ⟨_, .inr ⟨rfl, m _ (by simp), d5, ?_⟩⟩
    have q : PrB K H z (.ref t2) (([facB z (.str "star") ""] : List Bool).all id) := .tup h2 (.cons (.fac g2 (fun y => rfl) (by decide +kernel)) .nil) (by show 1 ≤ 100000; decide)
    have e : facB z (.str "star") "" = false := by
      unfold facB
      have n : (tl ("" : Str)).length = 0 := rfl
      rw [n]
      have o : decide (V.str "star" = V.str "opt") = false := by decide +kernel
      rw [o]
      simp
    rw [e] at q
    exact q
  · exact ⟨_, .inr ⟨rfl, m (.int 0) (by simp), .int _, .no (noT_int _)⟩⟩
  · exact ⟨_, .inr ⟨rfl, m _ (by simp), d7, .tup (bs := [false]) h3 (.cons (.no noT_non) .nil) (by decide)⟩⟩
  · refine ⟨_, .inr ⟨rfl, m _ (by simp), d8, ?_⟩⟩
    have q : PrB K H z (.ref t4) (([facB z (.str "opt") u, false] : List Bool).all id) := .tup h4 (.cons (.fac g4 (fun y => rfl) ul) (.cons (.no (noT_str _)) .nil)) (by show 2 ≤ 100000; decide)
    have e : ([facB z (.str "opt") u, false] : List Bool).all id = false := by simp
    rw [e] at q
    exact q
/-- where the first bad item stands, if one does -/
def St (bs : List Bool) (j : Nat) (acc : List Int) : Prop := (acc = [] ∧ ∀ i, i < j → bs[i]? = some true) ∨ ∃ (k : Nat) (rest : List Int), acc = (k : Int) :: rest ∧ bs[k]? = some false ∧ ∀ i, i < k → bs[i]? = some true
theorem St.bad {bs : List Bool} {j : Nat} {acc : List Int} (h : St bs j acc) (e : bs[j]? = some false) : St bs (j + 1) (acc ++ [(j : Int)]) := by
  rcases h with ⟨rfl, g⟩ | ⟨k, r, rfl, hk, g⟩
  · exact .inr ⟨j, [], rfl, e, g⟩
  · exact .inr ⟨k, r ++ [(j : Int)], rfl, hk, g⟩
theorem St.good {bs : List Bool} {j : Nat} {acc : List Int} (h : St bs j acc) (e : bs[j]? = some true) : St bs (j + 1) acc := by
  rcases h with ⟨rfl, g⟩ | h
  · exact .inl ⟨rfl, fun i hi => by
      by_cases q : i = j
      · rw [q]; exact e
      · exact g i (by omega)⟩
  · exact .inr h
theorem els_bs {K : PySem.W.Frag} {H : Hp} {z u : Str} : ∀ {xs : List V}, (∀ v ∈ xs, ∃ b d, El K H z u v b d) → ∃ bs : List Bool, bs.length = xs.length ∧ ∀ (j : Nat) (v : V), xs[j]? = some v → ∃ b d, bs[j]? = some b ∧ El K H z u v b d
  | [], _ => ⟨[], rfl, fun j v h => by simp at h⟩
  | x :: r, h => by
    obtain ⟨bs, l, g⟩ := els_bs (xs := r) fun v hv => h v (List.mem_cons_of_mem _ hv)
    obtain ⟨b, d, e⟩ := h x List.mem_cons_self
    refine ⟨b :: bs, by rw [List.length_cons, List.length_cons, l], fun j v hv => ?_⟩
    cases j with
    | zero =>
      cases hv
      exact ⟨b, d, rfl, e⟩
    | succ j => exact g j v hv
/-- what is due: nothing, or the place of the first bad item -/
def DueK (H : Hp) (bs : List Bool) (n : Nat) (dv : V) : Prop := (dv = .non ∧ ∀ i, i < n → bs[i]? = some true) ∨ ∃ (k : Nat) (q : Addr), dv = .ref q ∧ H q = some (.tup [.str "product", .int (k : Int)]) ∧ bs[k]? = some false ∧ ∀ i, i < k → bs[i]? = some true
theorem DueK.same {H H' : Hp} {bs : List Bool} {n : Nat} {dv : V} (s : Same H H') (h : DueK H bs n dv) : DueK H' bs n dv := by
  rcases h with h | ⟨k, q, e, g, h⟩
  · exact .inl h
  · exact .inr ⟨k, q, e, s _ _ g, h⟩
theorem els_good {K : PySem.W.Frag} {H : Hp} {z : Str} : ∀ {xs : List V}, (∀ v ∈ xs, ∃ fs, IsP K H v fs ∧ (∀ f ∈ fs, FOk z f) ∧ fs.length ≤ 10000) → ∃ ps : List (List Fc), IsL K H xs ps ∧ ∀ p ∈ ps, p.length ≤ 10000 ∧ ∀ f ∈ p, FOk z f
  | [], _ => ⟨[], .nil, fun p h => nomatch h⟩
  | v :: r, h => by
    obtain ⟨ps, i, g⟩ := els_good (xs := r) fun v hv => h v (List.mem_cons_of_mem _ hv)
    obtain ⟨fs, p, ok, l⟩ := h v List.mem_cons_self
    refine ⟨fs :: ps, .cons p i, fun q hq => ?_⟩
    rcases List.mem_cons.mp hq with rfl | hq
    · exact ⟨l, ok⟩
    · exact g q hq
theorem prod_show : ∀ k : Nat, k < 8 → (PyData.tuple [.str "product", .int (k : Int)]).showable = true ∧ (PyData.tuple [.str "product", .int (k : Int)]).hasDict = false := by decide +kernel
theorem prod_shown : ∀ k : Nat, k < 8 → (PyData.tuple [.str "product", .int (k : Int)]).shown.length ≤ 1000 := by decide +kernel
theorem noLT_of {K : PySem.W.Frag} {H : Hp} {v : V} {T : Value} (ty : TyX K H v T) (k1 : PySem.W.kitOne K T (.type "list") = some false) (k2 : PySem.W.kitOne K T (.type "tuple") = some false) : NoLT K H v := ⟨T, ty, by simp only [PySem.W.kitAny, k1, k2]⟩
theorem pn_show : (PyData.tuple [.str "product", .none]).showable = true ∧ (PyData.tuple [.str "product", .none]).hasDict = false ∧ (PyData.tuple [.str "product", .none]).shown.length ≤ 1000 := by decide +kernel
theorem fs_show {z : Str} (al : Alph z) : ∀ fs : List Fc, (∀ f ∈ fs, FOk z f) → PyData.weightAll (fs.map fD) ≤ 11 * fs.length ∧ PyData.showableAll (fs.map fD) = true ∧ PyData.hasDictAll (fs.map fD) = false ∧ PyData.intsShortAll 13 (fs.map fD) = true
  | [], _ => ⟨Nat.le_refl _, rfl, rfl, rfl⟩
  | f :: fs, h => by
    obtain ⟨h1, h2, h3, h4⟩ := fs_show al fs fun g hg => h g (List.mem_cons_of_mem _ hg)
    have fl : (tl f.2).length ≤ 3 := fok_len al (h f List.mem_cons_self)
    have us : f.2.cps.size = (tl f.2).length := (Array.length_toList).symm
    have kl : (kd f.1).cps.size ≤ 4 := by
      cases f.1
      · decide +kernel
      · decide +kernel
    rw [List.map_cons]
    refine ⟨?_, by simp only [PyData.showableAll, fD, PyData.showable, h2, Bool.and_self], by simp only [PyData.hasDictAll, fD, PyData.hasDict, h3, Bool.or_self], by simp only [PyData.intsShortAll, fD, PyData.intsShort, h4, Bool.and_self]⟩
    simp only [PyData.weightAll, fD, PyData.weight, List.length_cons]
    omega
theorem ps_show0 {z : Str} (al : Alph z) : ∀ qs : List (List Fc), (∀ q ∈ qs, (∀ f ∈ q, FOk z f) ∧ q.length ≤ 100) → PyData.weightAll (qs.map pD) ≤ 1101 * qs.length ∧ PyData.showableAll (qs.map pD) = true ∧ PyData.hasDictAll (qs.map pD) = false ∧ PyData.intsShortAll 13 (qs.map pD) = true
  | [], _ => ⟨Nat.le_refl _, rfl, rfl, rfl⟩
  | q :: qs, h => by
    obtain ⟨h1, h2, h3, h4⟩ := ps_show0 al qs fun g hg => h g (List.mem_cons_of_mem _ hg)
    obtain ⟨ok, ql⟩ := h q List.mem_cons_self
    obtain ⟨g1, g2, g3, g4⟩ := fs_show al q ok
    rw [List.map_cons]
    refine ⟨?_, by simp only [PyData.showableAll, pD, PyData.showable, g2, h2, Bool.and_self], by simp only [PyData.hasDictAll, pD, PyData.hasDict, g3, h3, Bool.or_self], by simp only [PyData.intsShortAll, pD, PyData.intsShort, g4, h4, Bool.and_self]⟩
    simp only [PyData.weightAll, pD, PyData.weight, List.length_cons]
    omega
theorem ps_show {z : Str} (al : Alph z) {qs : List (List Fc)} (h : ∀ q ∈ qs, (∀ f ∈ q, FOk z f) ∧ q.length ≤ 100) (l : qs.length ≤ 100) : (PyData.list (qs.map pD)).showable = true ∧ (PyData.list (qs.map pD)).hasDict = false ∧ (PyData.list (qs.map pD)).depth ≤ 64 ∧ (PyData.list (qs.map pD)).shown.length ≤ 15728653 := by
  obtain ⟨g1, g2, g3, g4⟩ := ps_show0 al qs h
  obtain ⟨l1, l2⟩ := lay_ps al qs fun q hq => (h q hq).1
  have d : (PyData.list (qs.map pD)).depth ≤ 64 := by
    simp only [PyData.depth]
    omega
  refine ⟨by simp only [PyData.showable, g2], by simp only [PyData.hasDict, g3], d, ?_⟩
  refine shown_le13 ?_ (by simp only [PyData.intsShort, g4])
  unfold PyData.layable0
  rw [Bool.and_eq_true, Bool.and_eq_true]
  refine ⟨⟨by simp only [PyData.canLay0, l1], decide_eq_true d⟩, decide_eq_true ?_⟩
  simp only [PyData.weight]
  omega
section
variable {P : Program} {w : World} {K : PySem.W.Frag} {mg : Str → Option Value} {base : Heap}
structure Ds (P : Program) (K : PySem.W.Frag) (mg : Str → Option Value) where
  p__wall : Df K mg "_wall" sWall ["k"]
  p_is_ascending : Df K mg "is_ascending" sIsAscending ["letters"]
  p_is_alphabet : Df K mg "is_alphabet" sIsAlphabet ["thing"]
  p_is_word : Df K mg "is_word" sIsWord ["alphabet", "thing"]
  p_is_factor : Df K mg "is_factor" sIsFactor ["alphabet", "thing"]
  p_is_product : Df K mg "is_product" sIsProduct ["alphabet", "thing"]
  p_format_factor : Df K mg "format_factor" sFormatFactor ["factor"]
  p_format_product : Df K mg "format_product" sFormatProduct ["product"]
  p_letters_of : Df K mg "letters_of" sLettersOf ["factors"]
  p_swallows : Df K mg "swallows" sSwallows ["factor", "other"]
  p_covers : Df K mg "covers" sCovers ["factor", "other"]
  p_reduce_product : Df K mg "reduce_product" sReduceProduct ["product"]
  p_behind : Df K mg "behind" sBehind ["product", "place"]
  p_place_behind : Df K mg "place_behind" sPlaceBehind ["product", "other", "start"]
  p_is_included : Df K mg "is_included" sIsIncluded ["product", "other"]
  p_subwords_product : Df K mg "subwords_product" sSubwordsProduct ["word"]
  p_is_inside : Df K mg "is_inside" sIsInside ["product", "products"]
  p_size_of_product : Df K mg "size_of_product" sSizeOfProduct ["product"]
  p_by_written_form : Df K mg "by_written_form" sByWrittenForm ["products"]
  p_maximal_products : Df K mg "maximal_products" sMaximalProducts ["products"]
  p_format_products : Df K mg "format_products" sFormatProducts ["products"]
  begin : Df K mg "_law_begin" sBegin ["_law_script"]
  draw : Df K mg "_law_draw" sDraw ["_law_tape", "_law_many"]
  pick : Df K mg "_law_pick" sPick ["_law_tape", "_law_items"]
  alphabet : Df K mg "_law_alphabet" sAlpha ["_law_tape"]
  factor : Df K mg "_law_factor" sFactor ["_law_tape", "_law_alphabet_here"]
  product : Df K mg "_law_product" sProduct ["_law_tape", "_law_alphabet_here", "_law_longest"]
  made : Df K mg "_law_made" sLMade ["_law_alphabet_here", "_law_products"]
  B : Bl mg
  b_all : mg "all" = none
  b_zip : mg "zip" = none
  b_isinstance : mg "isinstance" = none
  b_str : mg "str" = none
  b_tuple : mg "tuple" = none
  b_reversed : mg "reversed" = none
  b_list : mg "list" = none
  b_repr : mg "repr" = none
  b_enumerate : mg "enumerate" = none
  c_MOST_LETTERS : ∃ t, mg "MOST_LETTERS" = some (.int 3 t)
  c_EMPTY_FORM : ∃ t, mg "EMPTY_FORM" = some (.str "-" t)
  c_NO_WORDS : ∃ t, mg "NO_WORDS" = some (.str "none" t)
  cla : DfC3 K mg
  e_InvalidAlphabet : EX.DfE0 K mg "InvalidAlphabet"
  e_DownwordsError : EX.DfE0 K mg "DownwordsError"
  e_InvalidProduct : EX.DfE P K mg "InvalidProduct" "index" EX.MsgOk
  e_InvalidText : EX.DfE P K mg "InvalidText" "line" EX.MsgOk
  t_tuple : EX.KtyF K "tuple" cla.C
  k_InvalidAlphabet_DownwordsError : PySem.W.kitOne K (.ref e_InvalidAlphabet.C) (.ref e_DownwordsError.C) = some true
  k_InvalidAlphabet_InvalidProduct : PySem.W.kitOne K (.ref e_InvalidAlphabet.C) (.ref e_InvalidProduct.C) = some false
  k_InvalidAlphabet_InvalidText : PySem.W.kitOne K (.ref e_InvalidAlphabet.C) (.ref e_InvalidText.C) = some false
  k_InvalidProduct_DownwordsError : PySem.W.kitOne K (.ref e_InvalidProduct.C) (.ref e_DownwordsError.C) = some true
  k_InvalidProduct_InvalidText : PySem.W.kitOne K (.ref e_InvalidProduct.C) (.ref e_InvalidText.C) = some false
  m_InvalidAlphabet_InvalidAlphabet : PySem.W.exmOne K (.ref e_InvalidAlphabet.C) (.ref e_InvalidAlphabet.C) = some true
  m_InvalidProduct_InvalidAlphabet : PySem.W.exmOne K (.ref e_InvalidProduct.C) (.ref e_InvalidAlphabet.C) = some false
  m_InvalidProduct_InvalidProduct : PySem.W.exmOne K (.ref e_InvalidProduct.C) (.ref e_InvalidProduct.C) = some true
def spLaw (K : PySem.W.Frag) : Sp := fun vs H Q _ => ∃ (a : Addr) (ns : List Int), vs = [.ref a] ∧ SqL K H a (ns.map V.int) ∧ ∀ H', Q (.bl true) H'
theorem scLaw : FnScope ["_law_script", "_law_tape", "_law_turn", "_law_alphabet_here", "_law_k", "_law_products", "_law_bad", "_law_wrong", "_law_odd", "_law_place", "_law_due", "_law_handed", "_law_told", "_law_before", "_law_language", "_law_kept"] ["_law_script"] (defScope sLaw) := ⟨rfl, rfl, rfl, by decide +kernel, rfl, by decide +kernel, by decide +kernel⟩
theorem ok_law (D : Df K mg "law" sLaw ["_law_script"]) (S : Ds P K mg) : GA.FnAt P w K mg base D.f D.fd ["_law_script"] (spLaw K) := by
  let L : DfLa K mg := ⟨S.cla.toDfC, S.p_is_alphabet, ⟨S.p_is_product, S.p_is_factor, S.p_is_word, S.p_is_ascending, S.b_all, S.b_zip, S.b_isinstance, S.b_str, S.b_tuple, S.B.len⟩, ⟨S.p_maximal_products, S.p_reduce_product, S.p_size_of_product, S.p_is_inside, ⟨S.p_is_included, S.p_place_behind, S.p_behind, S.p_covers, S.p_swallows⟩, ⟨S.p_by_written_form, S.p_format_product, S.p_format_factor, S.B.len, S.c_EMPTY_FORM, S.B.sorted⟩, S.b_all, S.b_tuple, S.b_reversed, S.B.range, S.c_MOST_LETTERS⟩, S.p_subwords_product, S.b_enumerate, S.b_list⟩
  have J : MadeJ K mg S.e_InvalidAlphabet.C S.e_InvalidProduct.C S.e_InvalidText.C S.e_DownwordsError.C := ⟨S.e_InvalidAlphabet.g, S.e_InvalidProduct.g, S.e_InvalidText.g, S.e_DownwordsError.g, S.b_isinstance, S.e_InvalidAlphabet.T, S.e_InvalidProduct.T, S.e_InvalidProduct.no, S.m_InvalidAlphabet_InvalidAlphabet, S.m_InvalidProduct_InvalidAlphabet, S.m_InvalidProduct_InvalidProduct, S.k_InvalidAlphabet_DownwordsError, S.k_InvalidAlphabet_InvalidProduct, S.k_InvalidAlphabet_InvalidText, S.k_InvalidProduct_DownwordsError, S.k_InvalidProduct_InvalidText⟩
  have Gb : FnOk P w K mg base CX0 1 S.begin.f S.begin.fd ["_law_script"] (spBegin K) := ok_begin S.begin
  have Gd : FnOk P w K mg base CX0 1 S.draw.f S.draw.fd ["_law_tape", "_law_many"] spDraw := ok_draw S.draw S.B.len
  have Gp : FnOk P w K mg base CX0 2 S.pick.f S.pick.fd ["_law_tape", "_law_items"] (spPick K) := ok_pick S.pick S.draw S.B.len
  have Ga : FnOk P w K mg base CX0 3 S.alphabet.f S.alphabet.fd ["_law_tape"] spAlpha := ok_alpha S.alphabet S.draw S.pick S.B
  have Gr : FnOk P w K mg base CX0 4 S.product.f S.product.fd ["_law_tape", "_law_alphabet_here", "_law_longest"] (spProduct K) := ok_product S.product S.factor S.draw S.pick S.B S.b_tuple
  have Gm : FnOk P w K mg base CX0 9 S.made.f S.made.fd ["_law_alphabet_here", "_law_products"] (spMade K L.C) := ok_made S.made L S.e_InvalidAlphabet S.e_InvalidProduct J
  have GI : FnOk P w K mg base CX0 7 L.i.f L.i.fd ["self", "alphabet", "products"] (spLi K L.C) := ok_li L
  have Gpr : FnOk P w K mg base CX0 1 S.cla.p.f S.cla.p.fd ["self"] (spLaP K S.cla.C) := ok_laP S.cla.toDfC2 S.b_list
  have Gal : FnOk P w K mg base CX0 1 S.cla.a.f S.cla.a.fd ["self"] (spLaA K S.cla.C) := ok_laA S.cla.toDfC2
  refine GA.okAt (k := 9) D.F scLaw ⟨rfl, by decide, by decide⟩ (fun vs H Q E h => ?_) (fun cdv s H vs Q E hr h => ?_)
  · obtain ⟨a, ns, rfl, _⟩ := h
    rfl
  · obtain ⟨a, ns, rfl, hS, k⟩ := h
    have hr1 : Room 1 _ := hr.mono (by decide)
    have hr2 : Room 2 _ := hr.mono (by decide)
    have hr3 : Room 3 _ := hr.mono (by decide)
    have hr4 : Room 4 _ := hr.mono (by decide)
    have hr8 : Room (7 + 1) _ := hr.mono (by decide)
    have hr9 : Room 9 _ := hr
    have hu0 : (callerA.deeper (envOfC "law" (defScope sLaw) s.heap.objs.size D.f cdv)).units + 66 < cLine := by have := hr.un; omega
    have rR : CallR (cxOf CX0 P w K mg base ["_law_script", "_law_tape", "_law_turn", "_law_alphabet_here", "_law_k", "_law_products", "_law_bad", "_law_wrong", "_law_odd", "_law_place", "_law_due", "_law_handed", "_law_told", "_law_before", "_law_language", "_law_kept"] "law" (defScope sLaw) D.f cdv callerA [] s H E).nox (.builtin "repr") (fun xs H Q => ∃ (a : Addr) (d : PyData), xs = [.ref a] ∧ Dp K H (.ref a) d ∧ d.showable = true ∧ d.hasDict = false ∧ d.depth ≤ 64 ∧ d.shown.length ≤ sizeLine ∧ Q (.str d.shown) H) := GA.cr_reprD rfl hu0
    have sl := sizeLine_eq
    refine ⟨_, PSs.nox (pss_cons (ps_set (i := 1) scLaw.nd rfl (.inr rfl) (pe_call Gb hr1 (by rfl) S.begin.g S.begin.F.kp S.begin.b .nil pass0 (pa_cons (pv 0) pa_nil))) (pss_cons (ps_for PassesOwn.never rfl (pi_range1 rfl S.B.range (pa_cons pe_int pa_nil)) (pg_name (i := 2) scLaw.nd rfl (.inl rfl)) (pss_cons (ps_set (i := 3) scLaw.nd rfl (.inr rfl) (pe_call Ga hr3 (by rfl) S.alphabet.g S.alphabet.F.kp S.alphabet.b .nil pass0 (pa_cons (pv 1) pa_nil))) (pss_cons (ps_setLc (i := 5) (own := [("_law_k", 4)]) (g := gName 4) rfl scLaw.nd rfl rfl (sw_true rfl rfl rfl (by decide +kernel)) (pi_range1 rfl S.B.range (pa_cons (pe_call Gd hr1 (by rfl) S.draw.g S.draw.F.kp S.draw.b .nil pass0 (pa_cons (pv 1) (pa_cons pe_int pa_nil))) pa_nil)) (blkOk_by (N := ["_law_script", "_law_tape", "_law_turn", "_law_alphabet_here", "_law_k", "_law_products", "_law_bad", "_law_wrong", "_law_odd", "_law_place", "_law_due", "_law_handed", "_law_told", "_law_before", "_law_language", "_law_kept"]) (sc := defScope sLaw) (by decide +kernel)) (fun _ _ _ _ _ => pg_name (i := 4) scLaw.nd rfl (Or.inl rfl)) (fun _ _ _ _ _ => pts_nil) (fun _ _ _ _ _ => (pe_call Gr hr4 (by rfl) S.product.g S.product.F.kp S.product.b .nil pass0 (pa_cons (pv 1) (pa_cons (pv 3) (pa_cons pe_int pa_nil)))))) (pss_cons (ps_asg (pe_tup (pa_cons (pe_lst pa_nil) (pa_cons (pe_callTy call_list_of (by rfl) S.b_list (by decide +kernel) (pa_cons (pv 5) pa_nil)) pa_nil))) (pg_tup rfl (pgs_cons (pg_name (i := 6) scLaw.nd rfl (.inl rfl)) (pgs_cons (pg_name (i := 7) scLaw.nd rfl (.inr rfl)) pgs_nil)))) (pss_cons (ps_set (i := 8) scLaw.nd rfl (.inr rfl) (pe_lst (pa_cons pe_non (pa_cons pe_str (pa_cons (pe_lst (pa_cons pe_str (pa_cons pe_str pa_nil))) (pa_cons (pe_tup (pa_cons (pe_tup (pa_cons pe_str (pa_cons pe_str pa_nil))) pa_nil)) (pa_cons (pe_tup (pa_cons (pe_tup (pa_cons pe_str (pa_cons pe_str pa_nil))) pa_nil)) (pa_cons pe_int (pa_cons (pe_tup (pa_cons pe_non pa_nil)) (pa_cons (pe_tup (pa_cons (pe_tup (pa_cons pe_str (pa_cons (pe_ix ix_str (pv 3) pe_int (fun _ _ => rfl)) pa_nil))) (pa_cons pe_str pa_nil))) pa_nil)))))))))) (pss_cons (ps_for PassesOwn.never rfl (pi_range1 rfl S.B.range (pa_cons (pe_call Gd hr1 (by rfl) S.draw.g S.draw.F.kp S.draw.b .nil pass0 (pa_cons (pv 1) (pa_cons pe_int pa_nil))) pa_nil)) (pg_name (i := 4) scLaw.nd rfl (.inl rfl)) (pss_cons (ps_set (i := 9) scLaw.nd rfl (.inl rfl) (pe_call Gd hr1 (by rfl) S.draw.g S.draw.F.kp S.draw.b .nil pass0 (pa_cons (pv 1) (pa_cons (pe_op op_add (pe_callB call_len_seq (by rfl) S.B.len PySem.boot_len (pa_cons (pv 7) pa_nil)) pe_int) pa_nil)))) (pss_one (ps_expr (pe_bm PySem.F.plainAttrs_list PySem.F.slot_list_insert PySem.F.type_list_insert mt_insert (pv 7) (pa_cons (pv 9) (pa_cons (pe_call Gp hr2 (by rfl) S.pick.g S.pick.F.kp S.pick.b .nil pass0 (pa_cons (pv 1) (pa_cons (pv 8) pa_nil))) pa_nil))))))) (pss_cons (ps_setLc (i := 6) (own := [("_law_k", 4)]) (g := gName 4) rfl scLaw.nd rfl rfl (sw_true rfl rfl rfl (by decide +kernel)) (pi_range1 rfl S.B.range (pa_cons (pe_callB call_len_seq (by rfl) S.B.len PySem.boot_len (pa_cons (pv 7) pa_nil)) pa_nil)) (blkOk_by (N := ["_law_script", "_law_tape", "_law_turn", "_law_alphabet_here", "_law_k", "_law_products", "_law_bad", "_law_wrong", "_law_odd", "_law_place", "_law_due", "_law_handed", "_law_told", "_law_before", "_law_language", "_law_kept"]) (sc := defScope sLaw) (by decide +kernel)) (fun _ _ _ _ _ => pg_name (i := 4) scLaw.nd rfl (Or.inl rfl)) (fun _ _ _ _ _ => (pts_one (pt_cmpR (r := rInD K) (by exact op_inD (Nat.lt_of_le_of_lt (Nat.add_le_add_left (show 65 ≤ 66 by decide) _) hu0)) (pe_ix (r := rIxL K) (by exact ix_list) (pv 7) (pv 4) (fun _ _ => rfl)) (pv 8) rfl))) (fun _ _ _ _ _ => (pv 4))) (C8.pss_cut (ps_set (i := 10) scLaw.nd rfl (.inl rfl) (pe_ifExp (pt_cmpR (op_neD hr.units) (pv 6) (pe_lst pa_nil) (nomark _)) (pe_tup (pa_cons pe_str (pa_cons (pe_ix ix_list (pv 6) pe_int (fun _ _ => rfl)) pa_nil))) pe_non)) (pss_cons (ps_for PassesOwn.never rfl (pi_tup (pe_tup (pa_cons (pv 7) (pa_cons (pe_callTy call_tuple_of (by rfl) S.b_tuple (by decide +kernel) (pa_cons (pv 7) pa_nil)) pa_nil)))) (pg_name (i := 11) scLaw.nd rfl (.inl rfl)) (pss_cons (ps_set (i := 12) scLaw.nd rfl (.inl rfl) (pe_call Gm hr9 (by rfl) S.made.g S.made.F.kp S.made.b .nil pass0 (pa_cons (pv 3) (pa_cons (pv 11) pa_nil)))) (pss_one (ps_if (pw_or (pt_cmpR op_ne (pe_cmpR op_isN (pv 10) pe_non (nomark _)) (pe_callB call_isi (by rfl) S.b_isinstance (by decide +kernel) (pa_cons (pv 12) (pa_cons (pe_glob (v := V.ref S.cla.C) (by rfl) S.cla.g rfl) pa_nil))) (nomark _)) (pw_or1 (pw_and (pt_cmpR op_notN (pv 10) pe_non (nomark _)) (pw_and1 (pt_cmpR op_ne (pe_callB rR (by rfl) S.b_repr (by decide +kernel) (pa_cons (pv 12) pa_nil)) (pe_callB rR (by rfl) S.b_repr (by decide +kernel) (pa_cons (pv 10) pa_nil)) (nomark _)))).pt)).pt (pss_one (ps_ret pe_bl)) pss_nil)))) (pss_cons (ps_if (pt_cmpR op_ne (pe_call Gm hr9 (by rfl) S.made.g S.made.F.kp S.made.b .nil pass0 (pa_cons (pe_call Gp hr2 (by rfl) S.pick.g S.pick.F.kp S.pick.b .nil pass0 (pa_cons (pv 1) (pa_cons (pe_lst (pa_cons pe_str (pa_cons pe_str (pa_cons pe_str (pa_cons pe_str (pa_cons pe_str (pa_cons pe_non (pa_cons pe_int (pa_cons (pe_lst (pa_cons pe_str pa_nil)) (pa_cons (pe_tup (pa_cons pe_str pa_nil)) (pa_cons pe_bl pa_nil))))))))))) pa_nil))) (pa_cons (pv 7) pa_nil))) pe_str (nomark _)) (pss_one (ps_ret pe_bl)) pss_nil) (pss_cons (ps_if (pt_cmpR op_ne (pe_callB rR (by rfl) S.b_repr (by decide +kernel) (pa_cons (pe_call Gm hr9 (by rfl) S.made.g S.made.F.kp S.made.b .nil pass0 (pa_cons (pv 3) (pa_cons (pe_call Gp hr2 (by rfl) S.pick.g S.pick.F.kp S.pick.b .nil pass0 (pa_cons (pv 1) (pa_cons (pe_lst (pa_cons pe_non (pa_cons pe_str (pa_cons pe_str (pa_cons pe_int (pa_cons pe_bl (pa_cons pe_dnewK pa_nil))))))) pa_nil))) pa_nil))) pa_nil)) (pe_callB rR (by rfl) S.b_repr (by decide +kernel) (pa_cons (pe_tup (pa_cons pe_str (pa_cons pe_non pa_nil))) pa_nil)) (nomark _)) (pss_one (ps_ret pe_bl)) pss_nil) (pss_cons (ps_if (pt_cmpR op_ne (pe_call Gm hr9 (by rfl) S.made.g S.made.F.kp S.made.b .nil pass0 (pa_cons pe_str (pa_cons (pe_call Gp hr2 (by rfl) S.pick.g S.pick.F.kp S.pick.b .nil pass0 (pa_cons (pv 1) (pa_cons (pe_lst (pa_cons pe_non (pa_cons pe_str (pa_cons pe_int pa_nil)))) pa_nil))) pa_nil))) pe_str (nomark _)) (pss_one (ps_ret pe_bl)) pss_nil) (pss_cons (ps_set (i := 13) scLaw.nd rfl (.inl rfl) (pe_callTy call_list_of (by rfl) S.b_list (by decide +kernel) (pa_cons (pv 5) pa_nil))) (pss_cons (ps_set (i := 14) scLaw.nd rfl (.inl rfl) (pe_make L.mkr GI hr8 (by rfl) L.g L.i.b .nil pass0 (pa_cons (pv 3) (pa_cons (pv 5) pa_nil)))) (pss_cons (ps_set (i := 15) scLaw.nd rfl (.inl rfl) (pe_meth0 (pv 14) L.cl S.cla.mtp Gpr hr1 S.cla.p.b .nil pass0)) (pss_cons (ps_if (pt_cmpR (op_neD hr.units) (pv 5) (pv 13) (nomark _)) (pss_one (ps_ret pe_bl)) pss_nil) (pss_cons (ps_expr (pe_bm PySem.F.plainAttrs_list PySem.F.slot_list_append PySem.F.type_list_append mt_append (pv 5) (pa_cons pe_str pa_nil))) (pss_cons (ps_expr (pe_bm PySem.F.plainAttrs_list PySem.F.slot_list_append PySem.F.type_list_append mt_append (pe_meth0 (pv 14) L.cl S.cla.mtp Gpr hr1 S.cla.p.b .nil pass0) (pa_cons pe_str pa_nil))) (pss_one (ps_if (pw_or (pt_cmpR op_ne (pe_callB rR (by rfl) S.b_repr (by decide +kernel) (pa_cons (pe_meth0 (pv 14) L.cl S.cla.mtp Gpr hr1 S.cla.p.b .nil pass0) pa_nil)) (pe_callB rR (by rfl) S.b_repr (by decide +kernel) (pa_cons (pv 15) pa_nil)) (nomark _)) (pw_or1 (pt_cmpR op_ne (pe_meth0 (pv 14) L.cl S.cla.mta Gal hr1 S.cla.a.b .nil pass0) (pv 3) (nomark _)))).pt (pss_one (ps_ret pe_bl)) pss_nil)))))))))))))))))))) (pss_one (ps_ret pe_bl)))), ?_⟩
    refine ⟨.ref a, rfl, a, ns, rfl, hS, fun H0 t c s0' ht hc T0 => ?_⟩
    refine ⟨4, rfl, by decide, by decide, for_it walk_range (fun i σ H' => ∃ y2 y3 y4 y5 y6 y7 y8 y9 y10 y11 y12 y13 y14 y15, σ = [some (.ref a), some (.ref t), y2, y3, y4, y5, y6, y7, y8, y9, y10, y11, y12, y13, y14, y15] ∧ Tape H' t c (100000 * i)) ⟨_, _, _, _, _, _, _, _, _, _, _, _, _, _, rfl, T0⟩ (fun _ _ _ _ _ => trivial) ?_ ?_⟩
    · rintro i x0 σ G G' hi ⟨y2, y3, y4, y5, y6, y7, y8, y9, y10, y11, y12, y13, y14, y15, rfl, T⟩ ⟨rfl, rfl⟩
      refine ⟨.ref t, rfl, t, c, 100000 * i, rfl, T, by omega, fun H1 z k1 T1 al => ?_⟩
      have z1 := al.2.1
      have z3 := al.2.2.1
      refine ⟨.ref t, rfl, t, c, 6, _, rfl, T1, by omega, by decide, by decide, fun H3 r k3 T3 r0 r1 => ?_⟩
      refine ⟨r, rfl, by omega, by omega, fun O hO => ?_⟩
      have O1 := T3.ne1 hO
      have O2 := T3.ne2 hO
      have O0 := k3.gone hO
      refine lc_range (lo := 0) (n := r.toNat) (fun j H' => ∃ (us : List V) (qs : List (List Fc)), qs.length = j ∧ H' O = some (.lst us) ∧ IsL K H' us qs ∧ (∀ q ∈ qs, (∀ f ∈ q, FOk z f) ∧ q.length ≤ 4) ∧ Kp t H1 H' ∧ Tape H' t c (100000 * i + 1100 + 1000 * j)) ?_ ?_ ?_
      · exact ⟨[], [], rfl, upd_same, .nil, fun q hq => (nomatch hq), k3.put O0 O1, (T3.upd O1 O2).mono (by omega)⟩
      · rintro j M hj ⟨us, qs, ql, gO, iM, oks, kM, TM⟩
        refine ⟨rfl, yes ?_⟩
        refine ⟨.ref t, rfl, .str z, rfl, t, c, _, z, 4, rfl, TM, by omega, al, by decide, by decide, fun M1 v q k4 T4 isq okq lenq => ?_⟩
        have gO4 := k4.at gO (fun _ z => by cases z)
        refine ⟨us, gO4, ?_, us ++ [v], qs ++ [q], by rw [List.length_append, ql]; rfl, upd_same, ((iM.mono (kp_tup k4)).app (.cons isq .nil)).mono (upd_tup gO4), fun q' hq' => ?_, (kM.trans k4).put O0 O1, (T4.upd O1 O2).mono (by omega)⟩
        · rw [iM.len, ql, sizeLine_eq]
          omega
        · rcases List.mem_append.mp hq' with e | e
          · exact oks q' e
          · rw [List.mem_singleton.mp e]
            exact ⟨okq, by omega⟩
      rintro M ⟨us, qs, ql, gO, iM, oks, kM, TM⟩
      clear k1 k3 kM T1 T3 hO O0 T
      dsimp only [List.set]
      obtain ⟨c0, hc0, c0z⟩ : ∃ c0, atI z.cps.toList 0 = some c0 ∧ c0 ∈ tl z := by
        have l : 0 < z.cps.toList.length := z1
        exact ⟨_, at_cp (j := 0) rfl (List.getElem?_eq_getElem l), List.getElem_mem l⟩
      have zsz : z.length ≤ sizeLine := by rw [show z.length = (tl z).length from (Array.length_toList).symm, sizeLine_eq]; omega
      refine ⟨by show 0 ≤ sizeLine; decide, fun B hB => ?_⟩
      have s_B := same_upd (o := .lst []) hB
      have g_B : (upd M B (.lst [])) B = some (.lst []) := upd_same
      generalize upd M B (.lst []) = N0 at s_B g_B ⊢
      refine ⟨.ref O, rfl, O, us, rfl, .inl (SqL.of (s_B _ _ gO)), fun W hW => ?_⟩
      have s_W := same_upd (o := .lst us) hW
      have g_W : (upd N0 W (.lst us)) W = some (.lst us) := upd_same
      generalize upd N0 W (.lst us) = N1 at s_W g_W ⊢
      refine ⟨by show 2 ≤ sizeLine; decide, fun T0 hT0 => ?_⟩
      have s_T0 := same_upd (o := .tup [V.ref B, V.ref W]) hT0
      have g_T0 : (upd N1 T0 (.tup [V.ref B, V.ref W])) T0 = some (.tup [V.ref B, V.ref W]) := upd_same
      have n_T0 : W ≠ T0 := ne_of_none g_W hT0
      generalize upd N1 T0 (.tup [V.ref B, V.ref W]) = N2 at s_T0 g_T0 ⊢
      have g_W := s_T0 _ _ g_W
      refine ⟨T0, _, rfl, SqT.of g_T0, rfl, _, _, rfl, _, _, rfl, rfl, ?_⟩
      dsimp only [List.set]
      refine ⟨by show 2 ≤ sizeLine; decide, fun b hb => ?_⟩
      have s_b := same_upd (o := .lst [V.str "opt", V.str "a"]) hb
      have g_b : (upd N2 b (.lst [V.str "opt", V.str "a"])) b = some (.lst [V.str "opt", V.str "a"]) := upd_same
      have n_b : W ≠ b := ne_of_none g_W hb
      generalize upd N2 b (.lst [V.str "opt", V.str "a"]) = N3 at s_b g_b ⊢
      have g_W := s_b _ _ g_W
      refine ⟨by show 2 ≤ sizeLine; decide, fun i1 hi1 => ?_⟩
      have s_i1 := same_upd (o := .tup [V.str "opt", V.str "Y"]) hi1
      have g_i1 : (upd N3 i1 (.tup [V.str "opt", V.str "Y"])) i1 = some (.tup [V.str "opt", V.str "Y"]) := upd_same
      have n_i1 : W ≠ i1 := ne_of_none g_W hi1
      generalize upd N3 i1 (.tup [V.str "opt", V.str "Y"]) = N4 at s_i1 g_i1 ⊢
      have g_W := s_i1 _ _ g_W
      refine ⟨by show 1 ≤ sizeLine; decide, fun t1 ht1 => ?_⟩
      have s_t1 := same_upd (o := .tup [V.ref i1]) ht1
      have g_t1 : (upd N4 t1 (.tup [V.ref i1])) t1 = some (.tup [V.ref i1]) := upd_same
      have n_t1 : W ≠ t1 := ne_of_none g_W ht1
      generalize upd N4 t1 (.tup [V.ref i1]) = N5 at s_t1 g_t1 ⊢
      have g_W := s_t1 _ _ g_W
      refine ⟨by show 2 ≤ sizeLine; decide, fun i2 hi2 => ?_⟩
      have s_i2 := same_upd (o := .tup [V.str "star", V.str ""]) hi2
      have g_i2 : (upd N5 i2 (.tup [V.str "star", V.str ""])) i2 = some (.tup [V.str "star", V.str ""]) := upd_same
      have n_i2 : W ≠ i2 := ne_of_none g_W hi2
      generalize upd N5 i2 (.tup [V.str "star", V.str ""]) = N6 at s_i2 g_i2 ⊢
      have g_W := s_i2 _ _ g_W
      refine ⟨by show 1 ≤ sizeLine; decide, fun t2 ht2 => ?_⟩
      have s_t2 := same_upd (o := .tup [V.ref i2]) ht2
      have g_t2 : (upd N6 t2 (.tup [V.ref i2])) t2 = some (.tup [V.ref i2]) := upd_same
      have n_t2 : W ≠ t2 := ne_of_none g_W ht2
      generalize upd N6 t2 (.tup [V.ref i2]) = N7 at s_t2 g_t2 ⊢
      have g_W := s_t2 _ _ g_W
      refine ⟨by show 1 ≤ sizeLine; decide, fun t3 ht3 => ?_⟩
      have s_t3 := same_upd (o := .tup [V.non]) ht3
      have g_t3 : (upd N7 t3 (.tup [V.non])) t3 = some (.tup [V.non]) := upd_same
      have n_t3 : W ≠ t3 := ne_of_none g_W ht3
      generalize upd N7 t3 (.tup [V.non]) = N8 at s_t3 g_t3 ⊢
      have g_W := s_t3 _ _ g_W
      refine ⟨.str z, rfl, z, 0, c0, rfl, rfl, zsz, hc0, by show 2 ≤ sizeLine; decide, fun i4 hi4 => ?_⟩
      have s_i4 := same_upd (o := .tup [V.str "opt", V.str ⟨#[c0]⟩]) hi4
      have g_i4 : (upd N8 i4 (.tup [V.str "opt", V.str ⟨#[c0]⟩])) i4 = some (.tup [V.str "opt", V.str ⟨#[c0]⟩]) := upd_same
      have n_i4 : W ≠ i4 := ne_of_none g_W hi4
      generalize upd N8 i4 (.tup [V.str "opt", V.str ⟨#[c0]⟩]) = N9 at s_i4 g_i4 ⊢
      have g_W := s_i4 _ _ g_W
      refine ⟨by show 2 ≤ sizeLine; decide, fun t4 ht4 => ?_⟩
      have s_t4 := same_upd (o := .tup [V.ref i4, V.str "a"]) ht4
      have g_t4 : (upd N9 t4 (.tup [V.ref i4, V.str "a"])) t4 = some (.tup [V.ref i4, V.str "a"]) := upd_same
      have n_t4 : W ≠ t4 := ne_of_none g_W ht4
      generalize upd N9 t4 (.tup [V.ref i4, V.str "a"]) = N10 at s_t4 g_t4 ⊢
      have g_W := s_t4 _ _ g_W
      refine ⟨by show 8 ≤ sizeLine; decide, fun D0 hD0 => ?_⟩
      have s_D0 := same_upd (o := .lst [V.non, V.str "a?", V.ref b, V.ref t1, V.ref t2, V.int 0, V.ref t3, V.ref t4]) hD0
      have g_D0 : (upd N10 D0 (.lst [V.non, V.str "a?", V.ref b, V.ref t1, V.ref t2, V.int 0, V.ref t3, V.ref t4])) D0 = some (.lst [V.non, V.str "a?", V.ref b, V.ref t1, V.ref t2, V.int 0, V.ref t3, V.ref t4]) := upd_same
      have n_D0 : W ≠ D0 := ne_of_none g_W hD0
      generalize upd N10 D0 (.lst [V.non, V.str "a?", V.ref b, V.ref t1, V.ref t2, V.int 0, V.ref t3, V.ref t4]) = N11 at s_D0 g_D0 ⊢
      have g_W := s_D0 _ _ g_W
      dsimp only [List.set]
      have e12 : Same N11 N11 := Same.refl _
      have e11 := s_D0.trans e12
      have e10 := s_t4.trans e11
      have e9 := s_i4.trans e10
      have e8 := s_t3.trans e9
      have e7 := s_t2.trans e8
      have e6 := s_i2.trans e7
      have e5 := s_t1.trans e6
      have e4 := s_i1.trans e5
      have e3 := s_b.trans e4
      have e2 := s_T0.trans e3
      have e1 := s_W.trans e2
      have e0 := s_B.trans e1
      have g_B := e1 _ _ g_B
      have g_T0 := e3 _ _ g_T0
      have g_b := e4 _ _ g_b
      have g_i1 := e5 _ _ g_i1
      have g_t1 := e6 _ _ g_t1
      have g_i2 := e7 _ _ g_i2
      have g_t2 := e8 _ _ g_t2
      have g_t3 := e9 _ _ g_t3
      have g_i4 := e10 _ _ g_i4
      have g_t4 := e11 _ _ g_t4
      have g_D0 := e12 _ _ g_D0
      -- what stands, but for the list that grows
      have TN := TM.same e0
      obtain ⟨kvs, hT⟩ := TN.dk
      have W1 : W ≠ t := (TM.same s_B).ne1 hW
      have W2 : W ≠ c := (TM.same s_B).ne2 hW
      have nOW : W ≠ O := (ne_of_none (s_B _ _ gO) hW).symm
      have gON := e0 _ _ gO
      have uo : PyData.strOk (⟨#[c0]⟩ : Str) = true := by
        have := al.2.2.2 c0 c0z
        unfold PyData.strOk
        simp
        omega
      have tupE := er_tup (K := K) g_W hT
      have ltE : ∀ {b xs}, W ≠ b → N11 b = some (HO.lst xs) → er N11 W t b = some (HO.lst xs) := fun {b xs} n g => (er_at n.symm (fun q => by rw [q, hT] at g; cases g)).trans g
      have iD : IsL K (er N11 W t) us qs := (iM.mono (same_tup e0)).mono tupE
      obtain ⟨oD, oE⟩ := odd_els (K := K) (u := ⟨#[c0]⟩) al (ltE n_b g_b) (tupE _ _ (SqT.of g_i1)) (tupE _ _ (SqT.of g_t1)) (tupE _ _ (SqT.of g_i2)) (tupE _ _ (SqT.of g_t2)) (tupE _ _ (SqT.of g_t3)) (tupE _ _ (SqT.of g_i4)) (tupE _ _ (SqT.of g_t4)) (by show 1 ≤ 100000; decide)
      have dDd := ltE n_D0 g_D0
      have oDd := ltE nOW gON
      have all0 : ∀ v ∈ us, ∃ b d, El K (er N11 W t) z ⟨#[c0]⟩ v b d := fun v hv => by
        obtain ⟨j, hj⟩ := List.getElem?_of_mem hv
        obtain ⟨q, hq, isq⟩ := iD.get j v hj
        have ok := oks q (List.mem_of_getElem? hq)
        exact ⟨true, _, .inl ⟨rfl, q, isq, ok.1, by have := ok.2; omega, rfl⟩⟩
      have usl : us.length = qs.length := iD.len
      refine ⟨.ref t, rfl, t, c, 3, _, rfl, TN, by omega, by decide, by decide, fun P1 r2 k2 T2 r20 r21 => ?_⟩
      have sP1 := er_kp (er_same (H := N11) (H' := N11) (W := W) (t := t) (fun b o e _ _ => e)) k2
      have gW1 := k2.at g_W (fun _ z => by cases z)
      have nW : er N11 W t W = none := er_nW
      have nt : er N11 W t t = none := er_nt
      generalize er N11 W t = Hd at tupE ltE iD oD oE dDd oDd all0 sP1 nW nt
      clear k2 g_W
      refine ⟨r2, rfl, by omega, by omega, ?_⟩
      refine for_it (n := r2.toNat) walk_range (fun j σ H' => ∃ y4 y9 xs, σ = [some (.ref a), some (.ref t), some (.int (0 + (i : Int))), some (.str z), y4, some (.ref O), some (.ref B), some (.ref W), some (.ref D0), y9, y10, y11, y12, y13, y14, y15] ∧ H' W = some (.lst xs) ∧ xs.length ≤ 5 + j ∧ (∀ v ∈ xs, ∃ b d, El K Hd z ⟨#[c0]⟩ v b d) ∧ Same Hd H' ∧ Tape H' t c (100000 * i + 7000 + 10 * j)) ⟨_, _, us, rfl, gW1, by omega, all0, sP1, T2.mono (by omega)⟩ (fun _ _ _ _ _ => trivial) ?_ ?_
      · rintro j x0 σ P2 G2 hj ⟨y4', y9', xs, rfl, gW, xl, all, sP, TP⟩ ⟨rfl, rfl⟩
        refine ⟨.ref t, rfl, .ref W, rfl, W, xs, rfl, .inl (SqL.of gW), _, 1, rfl, rfl, t, c, _, _, rfl, TP, by omega, by omega, by omega, fun P3 pl k3 T3 p0 p1 => ?_⟩
        have gW3 := k3.at gW (fun _ z => by cases z)
        have sP3 := hd_kp nt sP k3
        dsimp only [List.set]
        refine ⟨.ref W, rfl, .inl ⟨rfl, _, SqL.of gW3⟩, .int pl, rfl, .ref t, rfl, .ref D0, rfl, t, c, _, .ref D0, rfl, T3, by omega, .inl ⟨D0, _, rfl, SqL.of (sP3 _ _ dDd), by simp, by show 8 < 2 ^ 30; decide, fun P4 y k4 T4 hy => ?_⟩⟩
        have gW4 := k4.at gW3 (fun _ z => by cases z)
        have sP4 := hd_kp nt sP3 k4
        have xll : (xs.take pl.toNat ++ [y] ++ xs.drop pl.toNat).length = xs.length + 1 := by
          rw [List.length_append, List.length_append, List.length_take, List.length_drop, List.length_singleton]
          omega
        refine ⟨W, xs, pl, y, rfl, rfl, gW4, by rw [sizeLine_eq]; omega, p0, by omega, _, _, _, rfl, upd_same, by omega, fun v hv => ?_, hd_upd nW sP4, (T4.upd W1 W2).mono (by omega)⟩
        rcases List.mem_append.mp hv with hv | hv
        · rcases List.mem_append.mp hv with hv | hv
          · exact all v (List.mem_of_mem_take hv)
          · rw [List.mem_singleton.mp hv]
            obtain ⟨d, hd⟩ := oE y hy
            exact ⟨false, d, hd⟩
        · exact all v (List.mem_of_mem_drop hv)
      rintro σ1 P2 ⟨y4', y9', xs, rfl, gW, xl, all, sP, TP⟩
      obtain ⟨bs, bl, bE⟩ := els_bs all
      refine ⟨.ref W, rfl, W, xs, rfl, .inl (SqL.of gW), (xs.length : Int), rfl, by omega, by omega, fun Bd hBd => ?_⟩
      refine lc_range (lo := 0) (n := xs.length) (fun j H' => ∃ acc : List Int, H' Bd = some (.lst (acc.map V.int)) ∧ acc.length ≤ j ∧ St bs j acc ∧ Same P2 H') ?_ ?_ ?_
      · exact ⟨[], upd_same, Nat.le_refl _, .inl ⟨rfl, fun i h => absurd h (Nat.not_lt_zero _)⟩, same_upd hBd⟩
      · rintro j N hj ⟨acc, gB, al', st, sN⟩
        obtain ⟨v, hv⟩ : ∃ v, xs[j]? = some v := ⟨_, List.getElem?_eq_getElem hj⟩
        obtain ⟨b, d, hb, el⟩ := bE j v hv
        have elN := el.same (sP.trans sN)
        refine ⟨rfl, .ref W, rfl, .int (0 + (j : Int)), rfl, W, xs, 0 + (j : Int), v, rfl, rfl, SqL.of (sN _ _ gW), at_cp (j := j) (by omega) hv, .ref D0, rfl, d, oddD ⟨#[c0]⟩, elN.dp, .lst (SqL.of ((sP.trans sN) _ _ dDd)) (DpAll.same' (sP.trans sN) oD), elN.sh al uo, odds_shaped uo, ?_⟩
        rw [elN.inn al uo]
        refine ⟨_, rfl, ?_⟩
        cases b with
        | false =>
          refine iteT ⟨_, rfl, _, gB, by rw [List.length_map, sizeLine_eq]; omega, acc ++ [(j : Int)], ?_, by rw [List.length_append]; show _ + 1 ≤ _; omega, st.bad hb, fun b' o e => (upd_ne (ne_of_none e hBd)).trans (sN _ _ e)⟩
          rw [upd_same, List.map_append, show (0 : Int) + (j : Int) = j by omega]
          rfl
        | true => exact iteF ⟨acc, gB, by omega, st.good hb, sN⟩
      rintro P3 ⟨acc, gB, al', st, s3⟩
      have sP3 := sP.trans s3
      have gW3 := s3 _ _ gW
      have TP3 := TP.same s3
      clear s3 gW TP sP
      dsimp only [List.set]
      refine ⟨fun σ H' => ∃ dv, σ = [some (.ref a), some (.ref t), some (.int (0 + (i : Int))), some (.str z), y4', some (.ref O), some (.ref Bd), some (.ref W), some (.ref D0), y9', some dv, y11, y12, y13, y14, y15] ∧ Same P3 H' ∧ DueK H' bs xs.length dv, ?_, ?_⟩
      · refine ⟨.ref Bd, rfl, by show 0 ≤ sizeLine; decide, fun l2 hl2 => ?_⟩
        have s2 := same_upd (o := .lst []) hl2
        refine ⟨intD acc, .list [], int_dp (SqL.of (s2 _ _ gB)), .lst (SqL.of upd_same) .nil, int_shaped acc, by decide +kernel, ?_⟩
        rw [int_eqv_nil]
        refine ⟨_, rfl, ?_⟩
        rcases st with ⟨rfl, g⟩ | ⟨k', rest, rfl, hk, g⟩
        · exact iteF ⟨.non, rfl, s2, .inl ⟨rfl, g⟩⟩
        · refine iteT ⟨.ref Bd, rfl, Bd, _, 0, .int (k' : Int), rfl, rfl, SqL.of (s2 _ _ gB), at_cp (j := 0) rfl rfl, by show 2 ≤ sizeLine; decide, fun q hq => ?_⟩
          exact ⟨.ref q, rfl, s2.trans (same_upd hq), .inr ⟨k', q, rfl, upd_same, hk, g⟩⟩
      clear st gB
      rintro σ2 P4 ⟨dv, rfl, s4, du⟩
      have sP4 := sP3.trans s4
      have gW4 := s4 _ _ gW3
      have TP4 := TP3.same s4
      clear s4 gW3 TP3 sP3
      -- both ways of handing them over
      refine ⟨.ref W, rfl, .ref W, rfl, W, xs, rfl, .inl ⟨SqL.of gW4, fun w2 hw2 => ?_⟩⟩
      have s5 := same_upd (o := .tup xs) hw2
      refine ⟨by show 2 ≤ sizeLine; decide, fun T5 hT5 => ?_⟩
      have s6 := same_upd (o := .tup [V.ref W, V.ref w2]) hT5
      have gT5 : (upd (upd P4 w2 (.tup xs)) T5 (.tup [V.ref W, V.ref w2])) T5 = some (.tup [V.ref W, V.ref w2]) := upd_same
      have gw5 := s6 _ _ (upd_same (H := P4) (a := w2) (o := .tup xs))
      have s56 := s5.trans s6
      generalize upd (upd P4 w2 (.tup xs)) T5 (.tup [V.ref W, V.ref w2]) = P5 at gT5 gw5 s56 ⊢
      clear s5 s6
      have xl7 : xs.length < 8 := by omega
      refine ⟨T5, rfl, ⟨_, SqT.of gT5⟩, for_it (walk_tup (xs := [V.ref W, V.ref w2])) (fun j σ H' => ∃ y11 y12, σ = [some (.ref a), some (.ref t), some (.int (0 + (i : Int))), some (.str z), y4', some (.ref O), some (.ref Bd), some (.ref W), some (.ref D0), y9', some dv, y11, y12, y13, y14, y15] ∧ Same P5 H') ⟨_, _, rfl, Same.refl _⟩ (fun _ _ _ _ ⟨_, _, _, sm⟩ => SqT.of (sm _ _ gT5)) ?_ ?_⟩
      · rintro j x0 σ Q1 Q2 hj ⟨y11', y12', rfl, sm⟩ ⟨rfl, hv⟩
        obtain ⟨ha, rfl, lt⟩ : ∃ ha, x0 = V.ref ha ∧ LT Q2 ha xs := by
          have m := List.mem_of_getElem? hv
          simp only [List.mem_cons, List.not_mem_nil, or_false] at m
          rcases m with rfl | rfl
          · exact ⟨W, rfl, .inl (sm _ _ (s56 _ _ gW4))⟩
          · exact ⟨w2, rfl, .inr (sm _ _ gw5)⟩
        have sQ := (sP4.trans s56).trans sm
        have duQ := du.same (s56.trans sm)
        rcases id duQ with ⟨rfl, g⟩ | ⟨k', q, rfl, gq, hk, g⟩
        · obtain ⟨ps, iL, okL⟩ := els_good (K := K) (H := Q2) (z := z) (xs := xs) fun v hv => by
            obtain ⟨j', hj'⟩ := List.getElem?_of_mem hv
            obtain ⟨b, d, hb, el⟩ := bE j' v hj'
            have := g j' (List.getElem?_eq_some_iff.mp hj').1
            rw [hb] at this
            cases this
            rcases el.same sQ with ⟨_, fs, p, ok, l, _⟩ | ⟨h, _⟩
            · exact ⟨fs, p, ok, l⟩
            · cases h
          have psl : ps.length = xs.length := iL.len.symm
          refine ⟨.str z, rfl, .ref ha, rfl, .str z, .ref ha, rfl, .inr ⟨z, rfl, al, .inr (.inr ⟨ha, xs, ps, rfl, lt, iL, by omega, okL, fun R2 x zs s7 La => ?_⟩)⟩⟩
          obtain ⟨dx9, q9, ys9, ex9, _, _⟩ := id La
          dsimp only [List.set]
          refine ⟨.non, rfl, rfl, .ref x, rfl, .ref x, .ref L.C, .ref L.C, .ref L.C, true, rfl, .own _, .base (TyOf.ins ex9 L.cl S.cla.ow.ha S.cla.ow.hn S.cla.ow.ht S.cla.ow.hm), S.cla.ow.me, ?_⟩
          rw [show decide (V.non = V.non) = true from decide_eq_true rfl]
          refine ⟨rfl, _, rfl, ?_⟩
          rw [decide_eq_true (p := V.bl true = V.bl true) rfl]
          refine iteF ⟨.non, rfl, rfl, _, rfl, ?_⟩
          rw [show decide (V.non = V.non) = true from decide_eq_true rfl]
          exact iteF ⟨_, _, rfl, sm.trans s7⟩
        · obtain ⟨v, hv⟩ : ∃ v, xs[k']? = some v := ⟨_, List.getElem?_eq_getElem (by rw [← bl]; exact (List.getElem?_eq_some_iff.mp hk).1)⟩
          have kl : k' < 8 := by have := (List.getElem?_eq_some_iff.mp hk).1; omega
          refine ⟨.str z, rfl, .ref ha, rfl, .str z, .ref ha, rfl, .inr ⟨z, rfl, al, .inr (.inl ⟨ha, xs, k', rfl, lt, by omega, ⟨⟨v, hv, ?_⟩, fun i' v' hi' hv' => ?_⟩, fun R2 tt s7 gt => ?_⟩)⟩⟩
          · obtain ⟨b, d, hb, el⟩ := bE k' v hv
            rw [hk] at hb
            cases hb
            exact (el.same sQ).pr al
          · obtain ⟨b, d, hb, el⟩ := bE i' v' hv'
            rw [g i' hi'] at hb
            cases hb
            exact (el.same sQ).pr al
          dsimp only [List.set]
          refine ⟨.ref q, rfl, rfl, .ref tt, rfl, .ref tt, .ref L.C, .type "tuple", .ref L.C, false, rfl, .own _, .base (.tup gt), S.t_tuple.no, ?_⟩
          have nn : decide (V.ref q = V.non) = false := decide_eq_false (by intro h; cases h)
          have gq7 := s7 _ _ gq
          have sh := prod_shown k' kl
          obtain ⟨sw, hdi⟩ := prod_show k' kl
          rw [nn]
          refine ⟨rfl, _, rfl, ?_⟩
          rw [decide_eq_true (p := V.bl false = V.bl false) rfl]
          refine iteF ⟨.ref q, rfl, rfl, _, rfl, ?_⟩
          rw [nn]
          refine iteT ⟨.ref tt, rfl, tt, .tuple [.str "product", .int (k' : Int)], rfl, .tup (SqT.of gt) (.cons (.str _) (.cons (.int _) .nil)), sw, hdi, by show 1 ≤ 64; decide, by rw [sizeLine_eq]; omega, .ref q, rfl, q, .tuple [.str "product", .int (k' : Int)], rfl, .tup (SqT.of gq7) (.cons (.str _) (.cons (.int _) .nil)), sw, hdi, by show 1 ≤ 64; decide, by rw [sizeLine_eq]; omega, rfl, _, rfl, ?_⟩
          rw [decide_eq_true rfl]
          exact iteF ⟨_, _, rfl, sm.trans s7⟩
      rintro σ3 Q2 ⟨y11', y12', rfl, sm⟩
      have sQ := (sP4.trans s56).trans sm
      have gWQ := sm _ _ (s56 _ _ gW4)
      have TQ := (TP4.same s56).same sm
      clear du bE gw5 gT5
      -- no alphabet
      refine ⟨.ref t, rfl, by show 1 ≤ sizeLine; decide, fun la hla => ?_⟩
      have sa := same_upd (o := .lst [V.str "a"]) hla
      have ga : (upd Q2 la (.lst [V.str "a"])) la = some (.lst [V.str "a"]) := upd_same
      generalize upd Q2 la (.lst [V.str "a"]) = A1 at sa ga ⊢
      refine ⟨by show 1 ≤ sizeLine; decide, fun ta hta => ?_⟩
      have sb := same_upd (o := .tup [V.str "a"]) hta
      have gb' : (upd A1 ta (.tup [V.str "a"])) ta = some (.tup [V.str "a"]) := upd_same
      have ga := sb _ _ ga
      generalize upd A1 ta (.tup [V.str "a"]) = A2 at sb ga gb' ⊢
      refine ⟨by show 10 ≤ sizeLine; decide, fun lp hlp => ?_⟩
      have sc := same_upd (o := .lst [V.str "", V.str "ba", V.str "abcd", V.str "aa", V.str "A", V.non, V.int 1, V.ref la, V.ref ta, V.bl true]) hlp
      have gp : (upd A2 lp (.lst [V.str "", V.str "ba", V.str "abcd", V.str "aa", V.str "A", V.non, V.int 1, V.ref la, V.ref ta, V.bl true])) lp = some (.lst [V.str "", V.str "ba", V.str "abcd", V.str "aa", V.str "A", V.non, V.int 1, V.ref la, V.ref ta, V.bl true]) := upd_same
      have ga := sc _ _ ga
      have gb' := sc _ _ gb'
      generalize upd A2 lp (.lst [V.str "", V.str "ba", V.str "abcd", V.str "aa", V.str "A", V.non, V.int 1, V.ref la, V.ref ta, V.bl true]) = A3 at sc ga gb' gp ⊢
      have sabc := (sa.trans sb).trans sc
      refine ⟨t, c, _, .ref lp, rfl, TQ.same sabc, by omega, .inl ⟨lp, _, rfl, SqL.of gp, by simp, by show 10 < 2 ^ 30; decide, fun R y k5 T5' hy => ?_⟩⟩
      have gaR := k5.at ga (fun _ z => by cases z)
      have gbR := k5.at gb' (fun _ z => by cases z)
      have bA : BadA K R y := by
        simp only [List.mem_cons, List.not_mem_nil, or_false] at hy
        rcases hy with rfl | rfl | rfl | rfl | rfl | rfl | rfl | rfl | rfl | rfl
        · exact .str (by decide +kernel) (by decide +kernel)
        · exact .str (by decide +kernel) (by decide +kernel)
        · exact .str (by decide +kernel) (by decide +kernel)
        · exact .str (by decide +kernel) (by decide +kernel)
        · exact .str (by decide +kernel) (by decide +kernel)
        · exact .no ⟨_, .base .non, kit_ty (by decide +kernel)⟩
        · exact .no ⟨_, .base (.int _), kit_ty (by decide +kernel)⟩
        · exact .no ⟨_, .base (.lst gaR), kit_ty (by decide +kernel)⟩
        · exact .no ⟨_, .base (.tup gbR), kit_ty (by decide +kernel)⟩
        · exact .no ⟨_, .base (.bl _), kit_ty (by decide +kernel)⟩
      refine ⟨.ref W, rfl, y, .ref W, rfl, .inl ⟨bA, fun R2 s8 => ?_⟩⟩
      refine ⟨rfl, _, rfl, ?_⟩
      rw [decide_eq_true (p := V.str "alphabet" = V.str "alphabet") rfl]
      refine iteF ?_
      have sR := (hd_kp nt ((sQ.trans sabc)) k5).trans s8
      have gWR := s8 _ _ (k5.at (sabc _ _ gWQ) (fun _ z => by cases z))
      have TR := T5'.same s8
      clear sa sb sc sabc ga gb' gp gaR gbR k5 T5' s8 sm sQ gWQ TQ hla hta hlp
      -- no list of products
      refine ⟨.str z, rfl, .ref t, rfl, fun da hda => ?_⟩
      have da1 : da ≠ t := TR.ne1 hda
      have sa := same_upd (o := .dK []) hda
      have ga : (upd R2 da (.dK [])) da = some (.dK []) := upd_same
      generalize upd R2 da (.dK []) = A1 at sa ga ⊢
      refine ⟨by show 6 ≤ sizeLine; decide, fun lp hlp => ?_⟩
      have sb := same_upd (o := .lst [V.non, V.str "", V.str "a?", V.int 0, V.bl true, V.ref da]) hlp
      have gp : (upd A1 lp (.lst [V.non, V.str "", V.str "a?", V.int 0, V.bl true, V.ref da])) lp = some (.lst [V.non, V.str "", V.str "a?", V.int 0, V.bl true, V.ref da]) := upd_same
      have ga := sb _ _ ga
      generalize upd A1 lp (.lst [V.non, V.str "", V.str "a?", V.int 0, V.bl true, V.ref da]) = A2 at sb ga gp ⊢
      have sab := sa.trans sb
      refine ⟨t, c, _, .ref lp, rfl, TR.same sab, by omega, .inl ⟨lp, _, rfl, SqL.of gp, by simp, by show 6 < 2 ^ 30; decide, fun R3 y k5 T5' hy => ?_⟩⟩
      have gaR := k5.oth da _ da1 ga
      have nl : NoLT K R3 y := by
        simp only [List.mem_cons, List.not_mem_nil, or_false] at hy
        rcases hy with rfl | rfl | rfl | rfl | rfl | rfl
        · exact noLT_of (.base .non) (kit_ty (by decide +kernel)) (kit_ty (by decide +kernel))
        · exact noLT_of (.base (.str _)) (kit_ty (by decide +kernel)) (kit_ty (by decide +kernel))
        · exact noLT_of (.base (.str _)) (kit_ty (by decide +kernel)) (kit_ty (by decide +kernel))
        · exact noLT_of (.base (.int _)) (kit_ty (by decide +kernel)) (kit_ty (by decide +kernel))
        · exact noLT_of (.base (.bl _)) (kit_ty (by decide +kernel)) (kit_ty (by decide +kernel))
        · exact noLT_of (.base (.dK gaR)) (kit_ty (by decide +kernel)) (kit_ty (by decide +kernel))
      refine ⟨.str z, y, rfl, .inr ⟨z, rfl, al, .inl ⟨nl, fun R4 tt s8 gt => ?_⟩⟩⟩
      refine ⟨tt, .tuple [.str "product", .none], rfl, .tup (SqT.of gt) (.cons (.str _) (.cons .non .nil)), pn_show.1, pn_show.2.1, by show 1 ≤ 64; decide, by rw [sizeLine_eq]; have := pn_show.2.2; omega, ?_⟩
      refine ⟨by show 2 ≤ sizeLine; decide, fun tp htp => ?_⟩
      have s9 := same_upd (o := .tup [V.str "product", V.non]) htp
      refine ⟨tp, .tuple [.str "product", .none], rfl, .tup (SqT.of upd_same) (.cons (.str _) (.cons .non .nil)), pn_show.1, pn_show.2.1, by show 1 ≤ 64; decide, by rw [sizeLine_eq]; have := pn_show.2.2; omega, rfl, _, rfl, ?_⟩
      rw [decide_eq_true rfl]
      refine iteF ?_
      have sR5 := (hd_kp nt (sR.trans sab) k5).trans (s8.trans s9)
      have TR5 := T5'.same (s8.trans s9)
      generalize upd R4 tp (.tup [V.str "product", V.non]) = R5 at sR5 TR5 ⊢
      clear sa sb sab ga gp gaR k5 T5' s8 s9 sR TR gWR hda hlp htp gt
      -- both are wrong
      refine ⟨.ref t, rfl, by show 3 ≤ sizeLine; decide, fun lp hlp => ?_⟩
      have sb := same_upd (o := .lst [V.non, V.str "ab", V.int 0]) hlp
      refine ⟨t, c, _, .ref lp, rfl, TR5.same sb, by omega, .inl ⟨lp, _, rfl, SqL.of upd_same, by simp, by show 3 < 2 ^ 30; decide, fun R6 y k5 T5' hy => ?_⟩⟩
      refine ⟨.str "ba", y, rfl, .inl ⟨.str (by decide +kernel) (by decide +kernel), fun R7 s8 => ?_⟩⟩
      refine ⟨rfl, _, rfl, ?_⟩
      rw [decide_eq_true (p := V.str "alphabet" = V.str "alphabet") rfl]
      refine iteF ?_
      have sR7 := (hd_kp nt (sR5.trans sb) k5).trans s8
      have TR7 := T5'.same s8
      clear sb k5 T5' s8 sR5 TR5 hlp
      -- copies
      have gO7 := sR7 _ _ oDd
      have iL7 : IsL K R7 us qs := iD.mono (same_tup sR7)
      dsimp only [List.set]
      refine ⟨.ref O, rfl, O, us, rfl, .inl (SqL.of gO7), fun K0 hK0 => ?_⟩
      have sk := same_upd (o := .lst us) hK0
      have gK : (upd R7 K0 (.lst us)) K0 = some (.lst us) := upd_same
      generalize upd R7 K0 (.lst us) = R8 at sk gK ⊢
      have gO8 := sk _ _ gO7
      have iL8 := iL7.mono (same_tup sk)
      refine ⟨.str z, rfl, .ref O, rfl, fun x dx hx hdx nxd => ?_⟩
      have sX : Same R8 (upd (upd R8 dx (.own x)) x (.ins L.C dx [])) := fun b o e => (upd_ne (ne_of_none e hx)).trans ((upd_ne (ne_of_none e hdx)).trans e)
      refine ⟨x, dx, O, z, us, qs, rfl, upd_same, sX _ _ gO8, iL8.mono (same_tup sX), al, by omega, fun p hp => ⟨by have := (oks p hp).2; omega, (oks p hp).1⟩, fun R9 zs kp1 La mo Lq => ⟨rfl, ?_⟩⟩
      have s9 : Same R8 R9 := fun b o e => kp1 b o (sX _ _ e) (ne_of_none e hx)
      have okp : ∀ p ∈ qs, ∀ f ∈ p, FOk z f := fun p hp => (oks p hp).1
      have zl : zs.length ≤ 5 := by
        have := nodup_len zs (qs.map red) (mo.anti al okp).2 fun q hq => by
          obtain ⟨p, hp, e⟩ := mo.sub q hq
          rw [e]
          exact List.mem_map_of_mem hp
        rw [List.length_map] at this
        omega
      have okz : ∀ q ∈ zs, (∀ f ∈ q, FOk z f) ∧ q.length ≤ 100 := fun q hq => ⟨(mo.rz okp q hq).ok, by
        obtain ⟨p, hp, e⟩ := mo.sub q hq
        rw [e]
        have := red_le p
        have := (oks p hp).2
        omega⟩
      dsimp only [List.set]
      obtain ⟨d6, q6, v6, e6, e7, e8⟩ := id La
      refine ⟨.ref x, rfl, x, d6, _, rfl, e6, flL_no _ _ (by decide) (by decide), x, z, zs, rfl, La, fun R10 l7 vs7 s10 nl7 hl7 iZ7 => ?_⟩
      have gO10 := s10 _ _ (s9 _ _ gO8)
      have gK10 := s10 _ _ (s9 _ _ gK)
      have iL10 := iL8.mono (same_tup (s9.trans s10))
      have La10 := La.same s10
      have T10 := (TR7.same sk).same (s9.trans s10)
      have nOl : O ≠ l7 := ne_of_none (s9 _ _ gO8) nl7
      obtain ⟨dx9, q9, ys9, hp9, hq9, iz9, fq9⟩ := Lq
      have nOq : O ≠ q9 := ne_of_none (sX _ _ gO8) fq9
      have hp10 := s10 _ _ hp9
      have q_is : ∀ {H : Hp} {dx q}, H x = some (.ins L.C dx9 (flL z q9)) → H x = some (.ins L.C dx (flL z q)) → q = q9 := fun {H dx q} h1 h2 => by
        rw [h1] at h2
        injection h2 with h2
        injection h2 with _ _ h2
        unfold flL at h2
        cases h2
        rfl
      clear gO7 iL7 gK sk hK0 gO8 iL8 hx hdx sX kp1 La s9 e6 e7 e8
      refine ⟨.ref O, rfl, .ref K0, rfl, .list (qs.map pD), .list (qs.map pD), .lst (SqL.of gO10) iL10.dp, .lst (SqL.of gK10) iL10.dp, ps_shaped al okp, ps_shaped al okp, ?_⟩
      rw [PySem.SeqAt.eqv_refl _ (by simp only [PyData.canLay0, (lay_ps al qs okp).1])]
      refine ⟨_, rfl, iteF ?_⟩
      refine ⟨.ref O, rfl, .inl ⟨rfl, _, SqL.of gO10⟩, O, us, .str "x", rfl, rfl, gO10, ?_⟩
      refine ⟨by rw [sizeLine_eq]; omega, ?_⟩
      have La11 : LaAt K L.C (upd R10 O (.lst (us ++ [V.str "x"]))) x z zs := La10.put gO10 (fun _ _ _ h => by cases h) (fun dx q ys h1 h2 => by rw [q_is hp10 h1]; exact nOq) (upd_tup gO10)
      have gl11 : (upd R10 O (.lst (us ++ [V.str "x"]))) l7 = some (.lst vs7) := (upd_ne (Ne.symm nOl)).trans hl7
      have iZ11 := iZ7.mono (upd_tup (K := K) (o := .lst (us ++ [V.str "x"])) gO10)
      have hp11 : (upd R10 O (.lst (us ++ [V.str "x"]))) x = _ := (upd_ne (ne_of (a := x) (b := O) hp10 gO10 (by intro z; cases z))).trans hp10
      have T11 := T10.upd (o := .lst (us ++ [V.str "x"])) O1 O2
      generalize upd R10 O (.lst (us ++ [V.str "x"])) = R11 at La11 gl11 iZ11 hp11 T11 ⊢
      clear gO10 gK10 iL10 La10 T10 hl7 iZ7 hp10 s10
      obtain ⟨d6, q6, v6, e6, _, _⟩ := id La11
      refine ⟨.ref x, rfl, x, d6, _, rfl, e6, flL_no _ _ (by decide) (by decide), x, z, zs, rfl, La11, fun R12 l8 vs8 s12 nl8 hl8 iZ8 => ?_⟩
      have La12 := La11.same s12
      have gl12 := s12 _ _ gl11
      have iZ12 := iZ11.mono (same_tup s12)
      have T12 := T11.same s12
      have hp12 := s12 _ _ hp11
      have nl : l8 ≠ l7 := (ne_of_none gl11 nl8).symm
      have vl8 : vs8.length = zs.length := iZ8.len
      refine ⟨.inl ⟨rfl, _, SqL.of hl8⟩, l8, vs8, .str "x", rfl, rfl, hl8, by rw [sizeLine_eq]; omega, ?_⟩
      have La13 : LaAt K L.C (upd R12 l8 (.lst (vs8 ++ [V.str "x"]))) x z zs := La12.put hl8 (fun _ _ _ h => by cases h) (fun dx q ys h1 h2 e => by
        obtain ⟨d6', q6', v6', e6', e7', _⟩ := id La11
        have eq : q = q6' := (q_is hp12 h1).trans (q_is hp11 e6').symm
        rw [e, eq, e7'] at nl8
        cases nl8) (upd_tup hl8)
      have gl13 : (upd R12 l8 (.lst (vs8 ++ [V.str "x"]))) l7 = some (.lst vs7) := (upd_ne nl.symm).trans gl12
      have iZ13 := iZ12.mono (upd_tup (K := K) (o := .lst (vs8 ++ [V.str "x"])) hl8)
      have T13 := T12.upd (o := .lst (vs8 ++ [V.str "x"])) (T11.ne1 nl8) (T11.ne2 nl8)
      generalize upd R12 l8 (.lst (vs8 ++ [V.str "x"])) = R13 at La13 gl13 iZ13 T13 ⊢
      clear La11 La12 gl11 gl12 iZ11 iZ12 hp11 hp12 T11 T12 hl8 nl8 iZ8 s12 e6
      -- as it was
      obtain ⟨d6, q6, v6, e6, _, _⟩ := id La13
      obtain ⟨w1, w2', w3, w4⟩ := ps_show al okz (by omega)
      refine ⟨.ref x, rfl, x, d6, _, rfl, e6, flL_no _ _ (by decide) (by decide), x, z, zs, rfl, La13, fun R14 l9 vs9 s14 nl9 hl9 iZ9 => ?_⟩
      refine ⟨l9, .list (zs.map pD), rfl, .lst (SqL.of hl9) iZ9.dp, w1, w2', w3, by rw [sizeLine_eq]; omega, .ref l7, rfl, l7, .list (zs.map pD), rfl, .lst (SqL.of (s14 _ _ gl13)) (iZ13.mono (same_tup s14)).dp, w1, w2', w3, by rw [sizeLine_eq]; omega, rfl, _, rfl, ?_⟩
      rw [decide_eq_true rfl]
      refine iteF ?_
      refine ⟨.ref x, rfl, x, d6, _, rfl, s14 _ _ e6, flL_no _ _ (by decide) (by decide), x, z, zs, rfl, La13.same s14, .str z, rfl, rfl, _, rfl, ?_⟩
      rw [decide_eq_true (p := V.str z = V.str z) rfl]
      exact iteF ⟨_, _, _, _, _, _, _, _, _, _, _, _, _, _, rfl, (T13.same s14).mono (by omega)⟩
    · rintro σ H' ⟨y2, y3, y4, y5, y6, y7, y8, y9, y10, y11, y12, y13, y14, y15, rfl, _⟩
      exact k _
end
end DW
set_option maxHeartbeats 0
namespace DW
open PySem PySem.Spec PyProof.Rows L2
theorem df {K : PySem.W.Frag} {h : Heap} {mg : Str → Option Value} {x : Str} {st : Stmt} {ps : List Str} (X : K.In h) (G : h.Ns mainGlobals mg) (hf : ∃ fd, FunD K x x (defArgs st) (defBody st) (defScope st) [] [] (He.fAd K (x, none)) fd) (hg : (He.Fa.glo x).ok K = true)
    (b : ∀ (kV doc pm : Value) (an : Option Addr) (cdv ct : Value) (us : List Value), us.length = ps.length → bindArgs (PySem.W.fnOf x x (defArgs st) (defBody st) (defScope st) .none kV doc pm an cdv ct) ⟨us, []⟩ = pure (ps.zip us)) :
    ∃ D : Df K mg x st ps, D.f = He.fAd K (x, none) := by
  obtain ⟨fd, F⟩ := hf
  exact ⟨⟨He.fAd K (x, none), fd, F, He.glo_ok X G hg, F.bindsN b⟩, rfl⟩
theorem facts {w : World} {K : PySem.W.Frag} {h : Heap} {mg : Str → Option Value} {f : Addr} (X : K.In h) (G : h.Ns mainGlobals mg) (hfa : mg ("law" : Str) = some (.ref f)) (cx : EX.SaysX R.prog fa fn xs K) :
    ∃ fd : FuncData, (∀ (s : Shared) (v : Value), BindsTo s fd ⟨[v], []⟩ [("_law_script", v)]) ∧ ∀ base : Heap, K.In base → base.Ns mainGlobals mg → GA.FnAt R.prog w K mg base f fd ["_law_script"] (spLaw K) := by
  have c := cx.d
  have e := hfa.symm.trans (He.glo_ok X G (c.fact 0 (f := .glo "law") rfl))
  cases e
  obtain ⟨D0, e0⟩ := df (st := sLaw) (ps := ["_law_script"]) X G (c.def_ 0 (d := mkD "law" sLaw) rfl) (c.fact 0 (f := .glo "law") rfl) fun _ _ _ _ _ _ us hl => match us, hl with | [_], _ => rfl
  obtain ⟨D1, e1⟩ := df (st := sWall) (ps := ["k"]) X G (c.def_ 1 (d := mkD "_wall" sWall) rfl) (c.fact 1 (f := .glo "_wall") rfl) fun _ _ _ _ _ _ us hl => match us, hl with | [_], _ => rfl
  obtain ⟨D2, e2⟩ := df (st := sIsAscending) (ps := ["letters"]) X G (c.def_ 2 (d := mkD "is_ascending" sIsAscending) rfl) (c.fact 2 (f := .glo "is_ascending") rfl) fun _ _ _ _ _ _ us hl => match us, hl with | [_], _ => rfl
  obtain ⟨D3, e3⟩ := df (st := sIsAlphabet) (ps := ["thing"]) X G (c.def_ 3 (d := mkD "is_alphabet" sIsAlphabet) rfl) (c.fact 3 (f := .glo "is_alphabet") rfl) fun _ _ _ _ _ _ us hl => match us, hl with | [_], _ => rfl
  obtain ⟨D4, e4⟩ := df (st := sIsWord) (ps := ["alphabet", "thing"]) X G (c.def_ 4 (d := mkD "is_word" sIsWord) rfl) (c.fact 4 (f := .glo "is_word") rfl) fun _ _ _ _ _ _ us hl => match us, hl with | [_, _], _ => rfl
  obtain ⟨D5, e5⟩ := df (st := sIsFactor) (ps := ["alphabet", "thing"]) X G (c.def_ 5 (d := mkD "is_factor" sIsFactor) rfl) (c.fact 5 (f := .glo "is_factor") rfl) fun _ _ _ _ _ _ us hl => match us, hl with | [_, _], _ => rfl
  obtain ⟨D6, e6⟩ := df (st := sIsProduct) (ps := ["alphabet", "thing"]) X G (c.def_ 6 (d := mkD "is_product" sIsProduct) rfl) (c.fact 6 (f := .glo "is_product") rfl) fun _ _ _ _ _ _ us hl => match us, hl with | [_, _], _ => rfl
  obtain ⟨D7, e7⟩ := df (st := sFormatFactor) (ps := ["factor"]) X G (c.def_ 7 (d := mkD "format_factor" sFormatFactor) rfl) (c.fact 7 (f := .glo "format_factor") rfl) fun _ _ _ _ _ _ us hl => match us, hl with | [_], _ => rfl
  obtain ⟨D8, e8⟩ := df (st := sFormatProduct) (ps := ["product"]) X G (c.def_ 8 (d := mkD "format_product" sFormatProduct) rfl) (c.fact 8 (f := .glo "format_product") rfl) fun _ _ _ _ _ _ us hl => match us, hl with | [_], _ => rfl
  obtain ⟨D9, e9⟩ := df (st := sLettersOf) (ps := ["factors"]) X G (c.def_ 9 (d := mkD "letters_of" sLettersOf) rfl) (c.fact 9 (f := .glo "letters_of") rfl) fun _ _ _ _ _ _ us hl => match us, hl with | [_], _ => rfl
  obtain ⟨D10, e10⟩ := df (st := sSwallows) (ps := ["factor", "other"]) X G (c.def_ 10 (d := mkD "swallows" sSwallows) rfl) (c.fact 10 (f := .glo "swallows") rfl) fun _ _ _ _ _ _ us hl => match us, hl with | [_, _], _ => rfl
  obtain ⟨D11, e11⟩ := df (st := sCovers) (ps := ["factor", "other"]) X G (c.def_ 11 (d := mkD "covers" sCovers) rfl) (c.fact 11 (f := .glo "covers") rfl) fun _ _ _ _ _ _ us hl => match us, hl with | [_, _], _ => rfl
  obtain ⟨D12, e12⟩ := df (st := sReduceProduct) (ps := ["product"]) X G (c.def_ 12 (d := mkD "reduce_product" sReduceProduct) rfl) (c.fact 12 (f := .glo "reduce_product") rfl) fun _ _ _ _ _ _ us hl => match us, hl with | [_], _ => rfl
  obtain ⟨D13, e13⟩ := df (st := sBehind) (ps := ["product", "place"]) X G (c.def_ 13 (d := mkD "behind" sBehind) rfl) (c.fact 13 (f := .glo "behind") rfl) fun _ _ _ _ _ _ us hl => match us, hl with | [_, _], _ => rfl
  obtain ⟨D14, e14⟩ := df (st := sPlaceBehind) (ps := ["product", "other", "start"]) X G (c.def_ 14 (d := mkD "place_behind" sPlaceBehind) rfl) (c.fact 14 (f := .glo "place_behind") rfl) fun _ _ _ _ _ _ us hl => match us, hl with | [_, _, _], _ => rfl
  obtain ⟨D15, e15⟩ := df (st := sIsIncluded) (ps := ["product", "other"]) X G (c.def_ 15 (d := mkD "is_included" sIsIncluded) rfl) (c.fact 15 (f := .glo "is_included") rfl) fun _ _ _ _ _ _ us hl => match us, hl with | [_, _], _ => rfl
  obtain ⟨D16, e16⟩ := df (st := sSubwordsProduct) (ps := ["word"]) X G (c.def_ 16 (d := mkD "subwords_product" sSubwordsProduct) rfl) (c.fact 16 (f := .glo "subwords_product") rfl) fun _ _ _ _ _ _ us hl => match us, hl with | [_], _ => rfl
  obtain ⟨D17, e17⟩ := df (st := sIsInside) (ps := ["product", "products"]) X G (c.def_ 17 (d := mkD "is_inside" sIsInside) rfl) (c.fact 17 (f := .glo "is_inside") rfl) fun _ _ _ _ _ _ us hl => match us, hl with | [_, _], _ => rfl
  obtain ⟨D18, e18⟩ := df (st := sSizeOfProduct) (ps := ["product"]) X G (c.def_ 18 (d := mkD "size_of_product" sSizeOfProduct) rfl) (c.fact 18 (f := .glo "size_of_product") rfl) fun _ _ _ _ _ _ us hl => match us, hl with | [_], _ => rfl
  obtain ⟨D19, e19⟩ := df (st := sByWrittenForm) (ps := ["products"]) X G (c.def_ 19 (d := mkD "by_written_form" sByWrittenForm) rfl) (c.fact 19 (f := .glo "by_written_form") rfl) fun _ _ _ _ _ _ us hl => match us, hl with | [_], _ => rfl
  obtain ⟨D20, e20⟩ := df (st := sMaximalProducts) (ps := ["products"]) X G (c.def_ 20 (d := mkD "maximal_products" sMaximalProducts) rfl) (c.fact 20 (f := .glo "maximal_products") rfl) fun _ _ _ _ _ _ us hl => match us, hl with | [_], _ => rfl
  obtain ⟨D21, e21⟩ := df (st := sFormatProducts) (ps := ["products"]) X G (c.def_ 21 (d := mkD "format_products" sFormatProducts) rfl) (c.fact 21 (f := .glo "format_products") rfl) fun _ _ _ _ _ _ us hl => match us, hl with | [_], _ => rfl
  obtain ⟨D22, e22⟩ := df (st := sBegin) (ps := ["_law_script"]) X G (c.def_ 22 (d := mkD "_law_begin" sBegin) rfl) (c.fact 22 (f := .glo "_law_begin") rfl) fun _ _ _ _ _ _ us hl => match us, hl with | [_], _ => rfl
  obtain ⟨D23, e23⟩ := df (st := sDraw) (ps := ["_law_tape", "_law_many"]) X G (c.def_ 23 (d := mkD "_law_draw" sDraw) rfl) (c.fact 23 (f := .glo "_law_draw") rfl) fun _ _ _ _ _ _ us hl => match us, hl with | [_, _], _ => rfl
  obtain ⟨D24, e24⟩ := df (st := sPick) (ps := ["_law_tape", "_law_items"]) X G (c.def_ 24 (d := mkD "_law_pick" sPick) rfl) (c.fact 24 (f := .glo "_law_pick") rfl) fun _ _ _ _ _ _ us hl => match us, hl with | [_, _], _ => rfl
  obtain ⟨D25, e25⟩ := df (st := sAlpha) (ps := ["_law_tape"]) X G (c.def_ 25 (d := mkD "_law_alphabet" sAlpha) rfl) (c.fact 25 (f := .glo "_law_alphabet") rfl) fun _ _ _ _ _ _ us hl => match us, hl with | [_], _ => rfl
  obtain ⟨D26, e26⟩ := df (st := sFactor) (ps := ["_law_tape", "_law_alphabet_here"]) X G (c.def_ 26 (d := mkD "_law_factor" sFactor) rfl) (c.fact 26 (f := .glo "_law_factor") rfl) fun _ _ _ _ _ _ us hl => match us, hl with | [_, _], _ => rfl
  obtain ⟨D27, e27⟩ := df (st := sProduct) (ps := ["_law_tape", "_law_alphabet_here", "_law_longest"]) X G (c.def_ 27 (d := mkD "_law_product" sProduct) rfl) (c.fact 27 (f := .glo "_law_product") rfl) fun _ _ _ _ _ _ us hl => match us, hl with | [_, _, _], _ => rfl
  obtain ⟨D28, e28⟩ := df (st := sLMade) (ps := ["_law_alphabet_here", "_law_products"]) X G (c.def_ 28 (d := mkD "_law_made" sLMade) rfl) (c.fact 28 (f := .glo "_law_made") rfl) fun _ _ _ _ _ _ us hl => match us, hl with | [_, _], _ => rfl
  obtain ⟨fdi, Fi⟩ := c.def_ 29 (d := ⟨("Language", some "__init__"), "__init__", "Language.__init__", defArgs sLangInit, defBody sLangInit, defScope sLangInit, [], []⟩) rfl
  obtain ⟨fd0, F0⟩ := c.def_ 30 (d := ⟨("Language", some "contains"), "contains", "Language.contains", defArgs sLangContains, defBody sLangContains, defScope sLangContains, [], []⟩) rfl
  obtain ⟨fd1, F1⟩ := c.def_ 31 (d := ⟨("Language", some "alphabet"), "alphabet", "Language.alphabet", defArgs sLangAlphabet, defBody sLangAlphabet, defScope sLangAlphabet, [], []⟩) rfl
  obtain ⟨fd2, F2⟩ := c.def_ 32 (d := ⟨("Language", some "products"), "products", "Language.products", defArgs sLangProducts, defBody sLangProducts, defScope sLangProducts, [], []⟩) rfl
  obtain ⟨fd3, F3⟩ := c.def_ 33 (d := ⟨("Language", some "is_empty"), "is_empty", "Language.is_empty", defArgs sLangEmpty, defBody sLangEmpty, defScope sLangEmpty, [], []⟩) rfl
  obtain ⟨fd4, F4⟩ := c.def_ 34 (d := ⟨("Language", some "is_full"), "is_full", "Language.is_full", defArgs sLangFull, defBody sLangFull, defScope sLangFull, [], []⟩) rfl
  obtain ⟨fd5, F5⟩ := c.def_ 35 (d := ⟨("Language", some "letters"), "letters", "Language.letters", defArgs sLangLetters, defBody sLangLetters, defScope sLangLetters, [], []⟩) rfl
  obtain ⟨fd6, F6⟩ := c.def_ 36 (d := ⟨("Language", some "__eq__"), "__eq__", "Language.__eq__", defArgs sLangEq, defBody sLangEq, defScope sLangEq, [], []⟩) rfl
  obtain ⟨fd7, F7⟩ := c.def_ 37 (d := ⟨("Language", some "__str__"), "__str__", "Language.__str__", defArgs sLangStr, defBody sLangStr, defScope sLangStr, [], []⟩) rfl
  let Cl0 : DfC K mg := ⟨He.ga K "Language", He.glo_ok X G (c.fact 45 (f := .glo "Language") rfl), He.cls_ok (c.fact 46 (f := .cls "Language") rfl), He.noat_ok (c.fact 47 (f := .noat "Language" "base") rfl), He.noat_ok (c.fact 48 (f := .noat "Language" "maximal") rfl),
    ⟨_, fdi, Fi, Fi.bindsN fun _ _ _ _ _ _ us hl => match us, hl with | [_, _, _], _ => rfl⟩, He.mkr_ok (c.fact 49 (f := .mkr "Language") rfl), ⟨_, fd0, F0, F0.bindsN fun _ _ _ _ _ _ us hl => match us, hl with | [_, _], _ => rfl⟩, He.meth_ok (c.fact 50 (f := .meth "Language" "contains") rfl)⟩
  let Cl2 : DfC2 K mg := ⟨Cl0, ⟨_, fd1, F1, F1.bindsN fun _ _ _ _ _ _ us hl => match us, hl with | [_], _ => rfl⟩, He.meth_ok (c.fact 51 (f := .meth "Language" "alphabet") rfl), ⟨_, fd2, F2, F2.bindsN fun _ _ _ _ _ _ us hl => match us, hl with | [_], _ => rfl⟩, He.meth_ok (c.fact 52 (f := .meth "Language" "products") rfl), ⟨_, fd3, F3, F3.bindsN fun _ _ _ _ _ _ us hl => match us, hl with | [_], _ => rfl⟩, He.meth_ok (c.fact 53 (f := .meth "Language" "is_empty") rfl), ⟨_, fd4, F4, F4.bindsN fun _ _ _ _ _ _ us hl => match us, hl with | [_], _ => rfl⟩, He.meth_ok (c.fact 54 (f := .meth "Language" "is_full") rfl), ⟨_, fd5, F5, F5.bindsN fun _ _ _ _ _ _ us hl => match us, hl with | [_], _ => rfl⟩, He.meth_ok (c.fact 55 (f := .meth "Language" "letters") rfl), ⟨_, fd6, F6, F6.bindsN fun _ _ _ _ _ _ us hl => match us, hl with | [_, _], _ => rfl⟩, He.meth_ok (c.fact 56 (f := .meth "Language" "__eq__") rfl), ⟨_, fd7, F7, F7.bindsN fun _ _ _ _ _ _ us hl => match us, hl with | [_], _ => rfl⟩, He.meth_ok (c.fact 57 (f := .meth "Language" "__str__") rfl)⟩
  let Cl : DfC3 K mg := ⟨Cl2, cx.own 0, cx.kty 0, cx.kty 1, cx.kty 2, cx.kty 3⟩
  obtain ⟨X0, qx0⟩ := cx.ex X G 0 (y := "InvalidAlphabet") rfl
  obtain ⟨X1, qx1⟩ := cx.ex X G 1 (y := "DownwordsError") rfl
  have msup : mg "super" = none := He.free_ok X G (c.fact 58 (f := .free "super") rfl)
  obtain ⟨Y0, qy0⟩ := EX.mkE (ok := EX.MsgOk) X G (cx.ini 0).2 (cx.ini 0).1 (by decide +kernel) (fun F doc pm ctv us h1 h2 h3 h4 h5 hl => by
      obtain ⟨n1, n2, n3, n4, n5, n6, n7⟩ := F
      dsimp only at h1 h2 h3 h4 h5
      subst h1 h2 h3 h4 h5
      match us, hl with
      | [_, _], _ => rfl) (fun F cc oc doc pm ctv od osl w base h1 h2 h3 Sp lk no => by
      obtain ⟨n1, n2, n3, n4, n5, n6, n7⟩ := F
      dsimp only at h1 h2 h3
      subst h1 h2 h3
      exact EX.init_f Sp lk msup (NdefX.nscope_by (show NdefX.nscB _ _ _ (defScope (clsS 4 0)) = true by decide +kernel)) no rfl (by decide +kernel) rfl rfl rfl (by decide) (by decide) (fun L => rfl))
  obtain ⟨Y1, qy1⟩ := EX.mkE (ok := EX.MsgOk) X G (cx.ini 1).2 (cx.ini 1).1 (by decide +kernel) (fun F doc pm ctv us h1 h2 h3 h4 h5 hl => by
      obtain ⟨n1, n2, n3, n4, n5, n6, n7⟩ := F
      dsimp only at h1 h2 h3 h4 h5
      subst h1 h2 h3 h4 h5
      match us, hl with
      | [_, _], _ => rfl) (fun F cc oc doc pm ctv od osl w base h1 h2 h3 Sp lk no => by
      obtain ⟨n1, n2, n3, n4, n5, n6, n7⟩ := F
      dsimp only at h1 h2 h3
      subst h1 h2 h3
      exact EX.init_f Sp lk msup (NdefX.nscope_by (show NdefX.nscB _ _ _ (defScope (clsS 5 0)) = true by decide +kernel)) no rfl (by decide +kernel) rfl rfl rfl (by decide) (by decide) (fun L => rfl))
  have kk0 : PySem.W.kitOne K (.ref X0.C) (.ref X1.C) = some true := by rw [qx0, qx1]; exact cx.kit 0
  have kk1 : PySem.W.kitOne K (.ref X0.C) (.ref Y0.C) = some false := by rw [qx0, qy0]; exact cx.kit 1
  have kk2 : PySem.W.kitOne K (.ref X0.C) (.ref Y1.C) = some false := by rw [qx0, qy1]; exact cx.kit 2
  have kk3 : PySem.W.kitOne K (.ref Y0.C) (.ref X1.C) = some true := by rw [qy0, qx1]; exact cx.kit 3
  have kk4 : PySem.W.kitOne K (.ref Y0.C) (.ref Y1.C) = some false := by rw [qy0, qy1]; exact cx.kit 4
  have km0 : PySem.W.exmOne K (.ref X0.C) (.ref X0.C) = some true := by rw [qx0]; exact cx.exm 0
  have km1 : PySem.W.exmOne K (.ref Y0.C) (.ref X0.C) = some false := by rw [qy0, qx0]; exact cx.exm 1
  have km2 : PySem.W.exmOne K (.ref Y0.C) (.ref Y0.C) = some true := by rw [qy0]; exact cx.exm 2
  have b := FunD.bindsA (ps := ["_law_script"]) D0.F fun _ _ _ _ _ _ us hl => match us, hl with | [_], _ => rfl
  refine ⟨D0.fd, fun s v => b s [v] rfl, fun base _ _ => ?_⟩
  have q := ok_law (P := R.prog) (w := w) (base := base) D0 ⟨D1, D2, D3, D4, D5, D6, D7, D8, D9, D10, D11, D12, D13, D14, D15, D16, D17, D18, D19, D20, D21, D22, D23, D24, D25, D26, D27, D28, ⟨He.free_ok X G (c.fact 33 (f := .free "len") rfl), He.free_ok X G (c.fact 38 (f := .free "range") rfl), He.free_ok X G (c.fact 35 (f := .free "sorted") rfl), He.free_ok X G (c.fact 36 (f := .free "set") rfl)⟩, He.free_ok X G (c.fact 29 (f := .free "all") rfl), He.free_ok X G (c.fact 30 (f := .free "zip") rfl), He.free_ok X G (c.fact 31 (f := .free "isinstance") rfl), He.free_ok X G (c.fact 32 (f := .free "str") rfl), He.free_ok X G (c.fact 34 (f := .free "tuple") rfl), He.free_ok X G (c.fact 37 (f := .free "reversed") rfl), He.free_ok X G (c.fact 39 (f := .free "list") rfl), He.free_ok X G (c.fact 40 (f := .free "repr") rfl), He.free_ok X G (c.fact 41 (f := .free "enumerate") rfl), He.int_ok X G (c.fact 42 (f := .int "MOST_LETTERS" 3) rfl), He.str_ok X G (c.fact 43 (f := .str "EMPTY_FORM" "-") rfl), He.str_ok X G (c.fact 44 (f := .str "NO_WORDS" "none") rfl), Cl, X0, X1, Y0, Y1, (cx.kty 4), kk0, kk1, kk2, kk3, kk4, km0, km1, km2⟩
  rw [e0] at q
  exact q
end DW
open PySem PySem.W PySem.Calls PyProof.Rows
theorem PySem.Challenge.cw_downwords_k14_languages_made_holds : PySem.Challenge.rw_downwords_k14_languages_made.Holds := by
  w_on; o_law
  refine HandSHeadRun.head_any (r := OpenLaw.row PySem.Challenge.rw_downwords_k14_languages_made) (q := view (OpenLaw.row PySem.Challenge.rw_downwords_k14_languages_made).prog [41]) (H := DW.hk) (ob := DW.ob) (M := 4000) (loose := DW.names) (d := HandSHeadRun.topDef (OpenLaw.row PySem.Challenge.rw_downwords_k14_languages_made).prog 41) (kwd := []) DW.ob_eq
    (by kernel_rfl) (fun s => by kernel_rfl) DW.run (by kernel_rfl) (by kernel_rfl) (by kernel_rfl) (by rfl) (by first | assumption | decide +kernel) (by decide +kernel) ⟨rfl, rfl, rfl, rfl, rfl, by decide +kernel⟩ ?hw ?hc
  case hw => w_witness2
  case hc =>
    refine GA.walkAt (l := PySem.Challenge.rw_downwords_k14_languages_made) (n := 63) (x := "_law_script") rfl (by decide) (by kernel_rfl) ?F
    intro w mg fa h Y G hmg0
    obtain ⟨K, KX, c⟩ := Y
    have hmg : mg ("law" : PySem.Str) = some (.ref fa) := by
      have e : (HandSHeadRun.topDef (OpenLaw.row PySem.Challenge.rw_downwords_k14_languages_made).prog 41).name = ("law" : PySem.Str) := by kernel_rfl
      rw [← e]
      exact hmg0
    obtain ⟨fd, hb, hF⟩ := DW.facts (w := w) KX G hmg c
    exact ⟨K, fd, DW.spLaw K, KX, hb, fun H a ns hl _ hS => ⟨a, ns, rfl, hS, fun _ => rfl⟩, hF⟩
