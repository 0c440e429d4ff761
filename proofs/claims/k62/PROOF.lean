import PyProof.Rows.All
import Wide.All
import OpenK.AllK
import Wide.FinOn
import HandS.List
import HandS.SetTxt0
import HandS.SetFor
import HandS.Strs
import PyProof.CollectStr
import HandS.Deep
import HandS.Text
import PyProof.ListStr
import KE.KRevSl
import HandS.Iter
import HandS.Walk
import KE.GoesMore
import KE.GoesEnum
import KE.GoesZip
import KE.KeyNested
import KE.KDictKeyed
import PyProof.DictMoreH
import PyProof.DictRoadsH
import HandS.ForMost
import HandS.SetKeys
import HandS.SortKw
import HandS.RaiseMore
import KE.SortKeyHeap
import KE.KDictCopyH
import KE.KDictSum
import KE.SortData
import HandS.More
import HandS.DictComp
import PyProof.DictFindH
import HandS.TupSets
import HandS.SetBool
import KE.LtSeq
import PyProof.FString2
import KE.KExcSuper
import HandS.Nested
import HandS.Exc
import HandS.ExcOwn
import HandS.ExcInit
import KE.KExcIs
import HandS.FStr
import HandS.ExcField
import HandS.HeadHook1
import HandS.HeadHook2
import HandS.ExcIs
import HandS.TryMany
import KE.KTryMore
import HandS.Flow
import HandS.Small
import HandS.Codes
import HandS.Defaults
import HandS.WordsExc
import HandS.IsInst
import KE.KStateDown
import Lean
import HandS.Head0
import HandS.Head1
import HandS.Head2
import HandS.HeadEnd
import PySem.Challenge.RW_downwords_k62_invalid_grammars
set_option Elab.async false
set_option linter.all false
set_option maxRecDepth 100000
set_option maxHeartbeats 2000000
/-! Sets of texts: set(list of texts), set(text), sorted(set). -/
namespace TX
open PySem PySem.Spec PyProof.Rows L2 PySem.Froz

/-! ### lists -/
theorem perm_of_sub {α : Type} [DecidableEq α] : ∀ (l ks : List α), l.Nodup → (∀ x ∈ l, x ∈ ks) → ks.length ≤ l.length → ks.Perm l
  | [], ks, _, _, hl => by
    have e : ks = [] := List.length_eq_zero_iff.mp (Nat.le_zero.mp hl)
    rw [e]
  | x :: l, ks, nd, sub, hl => by
    obtain ⟨hx, nd'⟩ := List.nodup_cons.mp nd
    have hk : x ∈ ks := sub x List.mem_cons_self
    have p1 : ks.Perm (x :: ks.erase x) := List.perm_cons_erase hk
    have l1 : (ks.erase x).length = ks.length - 1 := List.length_erase_of_mem hk
    have sub' : ∀ y ∈ l, y ∈ ks.erase x := fun y hy => by
      have ne : y ≠ x := fun e => hx (e ▸ hy)
      exact (List.mem_erase_of_ne ne).mpr (sub y (List.mem_cons_of_mem _ hy))
    have p2 := perm_of_sub l (ks.erase x) nd' sub' (by rw [l1]; rw [List.length_cons] at hl; omega)
    exact p1.trans (p2.cons x)

/-! ### the set's state -/
structure Ok (P : Program) (w : World) (D : SD) (l : List Str) : Prop where
  tx : TxOk P w D l
  up : Ris D.2.2.place.toList
  led : w.params.followText "set-order" = true ∨ D.2.2.led = true
  nd : l.Nodup
def At (P : Program) (w : World) (h : Heap) (a : Addr) (l : List Str) : Prop := ∃ D : SD, h.get? a = some (sObj "set" D) ∧ Ok P w D l

section
variable {P : Program} {w : World} {A : Around} {E : Value → Shared → Prop} {s : Shared}
theorem At.move {h h' : Heap} {a : Addr} {l : List Str} (x : At P w h a l) (k : ∀ o, h.get? a = some o → h'.get? a = some o) : At P w h' a l := by
  obtain ⟨D, hD, o⟩ := x
  exact ⟨D, k _ hD, o⟩
theorem tail_up {ep : Nat} {es : Array (Int × Value)} {t : SetTable} {b : Bool} (r : Ris t.place.toList) : Ris (tailTx ep es t b).2.2.place.toList := by
  unfold tailTx
  by_cases c : (!b && t.tooFull) = true
  · rw [if_pos c]
    exact relayAll_ris _ _ _
  · rw [if_neg c]
    exact r
theorem tail_led {ep : Nat} {es : Array (Int × Value)} {t : SetTable} {b : Bool} : (tailTx ep es t b).2.2.led = t.led := by
  unfold tailTx
  by_cases c : (!b && t.tooFull) = true
  · rw [if_pos c]
    exact relayAll_led _ _ _
  · rw [if_neg c]
def dull (t : SetTable) : SetTable := if t.plain = true then { t with plain := false } else t
theorem dull_place (t : SetTable) : (dull t).place = t.place := by
  unfold dull
  by_cases c : t.plain = true
  · rw [if_pos c]
  · rw [if_neg c]
theorem dull_led (t : SetTable) : (dull t).led = t.led := by
  unfold dull
  by_cases c : t.plain = true
  · rw [if_pos c]
  · rw [if_neg c]
theorem Ok.add {D : SD} {l : List Str} {k : Str} (u : Tok) (o : Ok P w D l) (hk : k ∉ l) : Ok P w (addTx (hashStr w k) (.str k u) D) (k :: l) := by
  obtain ⟨es, ep, t⟩ := D
  have r1 : Ris (layNew t es (hashStr w k) (.str k u)).2.1.place.toList := layNew_ris t es _ _ o.up
  have l1 : (layNew t es (hashStr w k) (.str k u)).2.1.led = t.led := layNew_led t es _ _
  have e : addTx (hashStr w k) (.str k u) (es, ep, t) = tailTx ep (layNew t es (hashStr w k) (.str k u)).1 (dull (layNew t es (hashStr w k) (.str k u)).2.1) (layNew t es (hashStr w k) (.str k u)).2.2.1 := rfl
  refine ⟨add_ok u o.tx, ?_, ?_, List.nodup_cons.mpr ⟨hk, o.nd⟩⟩
  · rw [e]
    exact tail_up (by rw [dull_place]; exact r1)
  · refine o.led.imp id fun z => ?_
    rw [e, tail_led, dull_led, l1]
    exact z
theorem add_old {a : Addr} {T : String} {D : SD} {l : List Str} {k : Str} {u : Tok} {Q : Bool → Shared → Prop} (ho : s.heap.get? a = some (sObj T D)) (o : TxOk P w D l) (hk : k ∈ l) (hb : l.length < scanBound) (h : Q false s) :
    wpAny (model P w) A (setAddHashed a (.str k u) (hashStr w k)) Q E s := by
  obtain ⟨es, ep, t⟩ := D
  have dd : (sObj T (es, ep, t)).data = .set es ep t := rfl
  have ft : t.fits es.size = true := o.fit
  have el : ElemsOf (strKind P w) es.toList := o.el
  have z : es.size = l.length := o.sz
  have b0 : es.size < scanBound := by omega
  have ky : (strKind P w).is k (.str k u) = true := is_str k u
  obtain ⟨e0, he0, q0⟩ := (o.mem k).mp hk
  unfold setAddHashed setAddHashedIn
  refine wpAny_holding (wpAny_bind (wpAny_setState_of ho dd ft ?_))
  dsimp only
  rw [byScan_of rfl b0 el]
  simp only [↓reduceIte]
  unfold setAddByScan
  refine wpAny_bind (wpAny_bind (wpAny_rule (wpAny_bind (wpAny_setScan_of (knd := strKind P w) (k := k) ky ho dd ft el ?_))))
  cases fi : List.findIdx? (fun e => (strKind P w).is k e.2) es.toList with
  | some j =>
    dsimp only
    exact wpAny_pure (wpAny_pure h)
  | none =>
    have c := List.findIdx?_eq_none_iff.mp fi e0 he0
    rw [q0] at c
    cases c

/-! ### the loop that fills it -/
theorem fill {I : Addr} {fp wr : List Addr} {G : Array GenState → Array GenState → Prop} {n : Nat} {Pv : Nat → Value → Prop} {St : Nat → Shared → Prop} {R : Result → Shared → Prop}
    (W : WalksS P w A.in1 I fp wr G n Pv St) (a : Addr) (ha : a ∉ fp) (xs : List Str) (hn : n = xs.length) (hb : xs.length + 1 < scanBound) (hv : ∀ i v, Pv i v → ∃ k t, xs[i]? = some k ∧ v = .str k t) :
    ∀ (m i : Nat) (s : Shared), n - i = m → i ≤ n → St i s → (∃ l, At P w s.heap a l ∧ l.length ≤ i ∧ ∀ k, k ∈ l ↔ k ∈ xs.take i) →
      (∀ s' l, Moved (a :: wr) G s s' → At P w s'.heap a l → (∀ k, k ∈ l ↔ k ∈ xs) → l.length ≤ n → R (.ok (.ret .none)) s') →
      codeAny (model P w) A (.builtin "set.update.loop" ⟨[.ref a, .ref I], []⟩) R s := by
  have aw : a ∉ wr := fun q => ha (W.sub _ q)
  have ww : ∀ b ∈ wr, b ∈ a :: wr := fun b q => List.mem_cons_of_mem _ q
  intro m
  induction m with
  | zero =>
    intro i s em hi st ⟨l, hA, hl, mem⟩ hR
    obtain rfl : i = n := by omega
    refine codeAny_builtin F.entry_set_update_loop ?_
    rw [Around.under_plainId F.plain_set_update_loop _]
    show wpAny _ A.in1 (pyNext (.ref I) >>= _) _ _ s
    refine wpAny_bind (W.done s _ _ st fun s' mv => ?_)
    show wpAny _ A.in1 (ret Value.none) _ _ s'
    have et : xs.take i = xs := List.take_of_length_le (by omega)
    rw [et] at mem
    exact wpAny_pure (hR s' l (mv.mono ww) (hA.move fun o e => mv.heap a o aw e) mem hl)
  | succ m ih =>
    intro i s em hi st ⟨l, hA, hl, mem⟩ hR
    have lt : i < n := by omega
    refine codeAny_builtin F.entry_set_update_loop ?_
    rw [Around.under_plainId F.plain_set_update_loop _]
    show wpAny _ A.in1 (pyNext (.ref I) >>= _) _ _ s
    refine wpAny_bind (W.item i s _ _ lt st fun v s1 hP st1 mv => ?_)
    obtain ⟨k, t, hk, rfl⟩ := hv i v hP
    obtain ⟨D, hD, oD⟩ := hA.move (h' := s1.heap) fun o e => mv.heap a o aw e
    show wpAny _ A.in1 (holding [Value.str k t] (setAdd a (.str k t)) >>= _) _ _ s1
    refine wpAny_bind (wpAny_holding ?_)
    unfold setAdd
    refine wpAny_holding (wpAny_bind ((strKind P w).pyHash (k := k) (is_str k t) ?_))
    have tk : xs.take (i + 1) = xs.take i ++ [k] := by rw [List.take_add_one, hk] <;> rfl
    by_cases kl : k ∈ l
    · refine add_old (s := { s1 with toks := s1.toks + 1 }) hD oD.tx kl (by omega) ?_
      refine wpAny_pure ⟨plainId_quiet F.plain_set_update_loop _, ih (i + 1) _ (by omega) lt (W.frame _ s1 _ _ st1 (Nat.le_succ _) fun b _ o e => e) ⟨l, ⟨D, hD, oD⟩, by omega, fun j => ?_⟩ fun s2 l2 mv2 hA2 mem2 hl2 => ?_⟩
      · rw [tk, List.mem_append, List.mem_singleton, ← mem j]
        exact ⟨.inl, fun q => q.elim id fun e => e ▸ kl⟩
      · exact hR s2 l2 (Moved.trans W.gtrans ((mv.mono ww).then_heap (Nat.le_succ _) fun b o _ e => e) mv2) hA2 mem2 hl2
    · refine add_x (s := { s1 with toks := s1.toks + 1 }) hD oD.tx kl (by omega) ?_
      have hg : (s1.heap.update a (fun _ => sObj "set" (addTx (hashStr w k) (.str k t) D))).get? a = some (sObj "set" (addTx (hashStr w k) (.str k t) D)) := get_upd _ hD rfl
      have ot : ∀ b o, b ≠ a → s1.heap.get? b = some o → (s1.heap.update a (fun _ => sObj "set" (addTx (hashStr w k) (.str k t) D))).get? b = some o :=
        fun b o ne e => (Heap.get?_update_other _ _ (Ne.symm ne)).trans e
      refine wpAny_pure ⟨plainId_quiet F.plain_set_update_loop _, ih (i + 1) _ (by omega) lt (W.frame _ s1 _ _ st1 (Nat.le_succ _) fun b q o e => ?_) ⟨k :: l, ⟨_, hg, oD.add t kl⟩, by rw [List.length_cons]; omega, fun j => ?_⟩ fun s2 l2 mv2 hA2 mem2 hl2 => ?_⟩
      · exact ot b o (fun z => ha (z ▸ q)) e
      · rw [tk, List.mem_append, List.mem_singleton, ← mem j, List.mem_cons]
        exact Or.comm
      · refine hR s2 l2 (Moved.trans W.gtrans ((mv.mono ww).then_heap (Nat.le_succ _) fun b o q e => ?_) mv2) hA2 mem2 hl2
        exact ot b o (fun z => q (z ▸ List.mem_cons_self)) e
end

/-! ### set(v) -/
abbrev fresh (w : World) : Obj := { cls := .type "set", dict := none, data := .set #[] 0 (.fresh 0 0 (!w.params.followText "set-order")) }
theorem fresh_ok {P : Program} {w : World} : Ok P w (#[], 0, .fresh 0 0 (!w.params.followText "set-order")) [] where
  tx := TxOk.nil (by rfl)
  up := List.Pairwise.nil
  led := by
    show _ ∨ (!w.params.followText "set-order") = true
    cases w.params.followText "set-order"
    · exact .inr rfl
    · exact .inl rfl
  nd := List.nodup_nil
theorem at_fresh {P : Program} {w : World} {h : Heap} {a : Addr} (e : h.get? a = some (fresh w)) : At P w h a [] := ⟨(#[], 0, .fresh 0 0 (!w.params.followText "set-order")), e, fresh_ok⟩

section
variable {P : Program} {w : World} {A : Around} {E : Value → Shared → Prop} {s : Shared}
/-- what set(v) leaves: a new object, all else as it was -/
def Left (P : Program) (w : World) (s : Shared) (xs : List Str) (s' : Shared) : Prop :=
  ∃ h' tk l, s' = { s with heap := h', toks := tk } ∧ At P w h' s.heap.objs.size l ∧ (∀ k, k ∈ l ↔ k ∈ xs) ∧ l.length ≤ xs.length ∧ ∀ b o, s.heap.get? b = some o → h'.get? b = some o
set_option maxHeartbeats 4000000 in
theorem call_set_of {v : Value} {xs : List Str} {Q : Value → Shared → Prop}
    (hI : ∀ A' : Around, A'.handled = A.handled → wpAny (model P w) A' (Builtin.«set.__init__» ⟨[.ref s.heap.objs.size, v], []⟩) (fun f s2 => f = .done (.ret .none) ∧ Left P w s xs s2) E { s with heap := s.heap.push (fresh w) })
    (h : ∀ s', Left P w s xs s' → Q (.ref s.heap.objs.size) s') :
    wpAny (model P w) A (call (.type "set") [v]) Q E s := by
  obtain ⟨c, tl, hmro⟩ := F.called_set.mro
  have hmade := F.called_set.made
  have hsub := F.called_set.sub
  refine wpAny_call (codeAny_of_tree ?_)
  show wpAny _ _ (callAny (.type "set") _) _ _ _
  refine wpAny_pure ⟨Code.quiet_builtin _ (by decide +kernel), codeAny_builtin F.entry_type_call ?_⟩
  rw [Around.under_plain (weight_type_call_type "set" [v] []) rfl]
  have h1 := F.called_set.notType
  have h2 := F.called_set.canCreate
  have hct := F.typeCall_set_1 v
  repeat (any_goals (first | assumption | wp_step))
  refine codeAny_mono (code_set_led1 v (E := E) (Q₁ := fun obj s₁ => obj = .ref s.heap.objs.size ∧ s₁ = { s with heap := s.heap.push (fresh w) }) ⟨rfl, rfl⟩) fun r s₁ hr => ?_
  cases r with
  | error e => exact hr
  | ok fl =>
    cases fl with
    | ret obj =>
      obtain ⟨rfl, rfl⟩ := hr
      have hS : (s.heap.push (fresh w)).get? s.heap.objs.size = some (fresh w) := Heap.get?_push_size _ rfl
      have hT : Shared.TypeIs { s with heap := s.heap.push (fresh w) } (.ref s.heap.objs.size) "set" := ⟨_, hS, rfl⟩
      have hli := F.called_set.init.lookup
      have hbi := F.called_set.init.bind (.ref s.heap.objs.size)
      repeat (any_goals (first | assumption | wp_step))
      refine codeAny_mono (codeAny_call_builtin (R := wants (fun r s₂ => r = .none ∧ Left P w s xs s₂) E) F.called_set.init.plain F.entry_set_init (check_set_init_1 hT ?_)) fun r₂ s₂ hr₂ => ?_
      · refine wpAny_mono (hI A.in1.in1 (by simp)) (fun f s2 q => ?_) fun e s2 q => q
        obtain ⟨rfl, q⟩ := q
        exact ⟨rfl, q⟩
      · cases r₂ with
        | error e => exact hr₂
        | ok fl₂ =>
          cases fl₂ with
          | ret r =>
            obtain ⟨rfl, hL⟩ := hr₂
            repeat (any_goals (first | assumption | wp_step))
            exact h _ hL
          | _ => exact hr₂.elim
    | _ => exact hr.elim
theorem left_of {a : Addr} {wr : List Addr} {xs l : List Str} {s s1 s' : Shared} (ea : a = s.heap.objs.size) (hw : ∀ b ∈ wr, s.heap.objs.size ≤ b) (k1 : ∀ b o, s.heap.get? b = some o → s1.heap.get? b = some o)
    (eg : s1.gens = s.gens) (ed : s1.drawn = s.drawn) (eo : s1.os = s.os) (mv : Moved (a :: wr) (fun x y => y = x) s1 s') (hA : At P w s'.heap a l) (mem : ∀ k, k ∈ l ↔ k ∈ xs) (hl : l.length ≤ xs.length) : Left P w s xs s' := by
  obtain ⟨h', g', d', tk', os'⟩ := s'
  have e1 : g' = s.gens := mv.gens.trans eg
  have e2 : d' = s.drawn := mv.drawn.trans ed
  have e3 : os' = s.os := mv.os.trans eo
  subst e1 e2 e3 ea
  refine ⟨h', tk', l, rfl, hA, mem, hl, fun b o e => ?_⟩
  have lt : b < s.heap.objs.size := Heap.lt_size e
  refine mv.heap b o (fun z => ?_) (k1 b o e)
  rcases List.mem_cons.mp z with z | z
  · exact absurd z (Nat.ne_of_lt lt)
  · exact absurd (hw b z) (Nat.not_le_of_lt lt)
set_option maxHeartbeats 4000000 in
theorem init_list {l : Addr} {items : Array Value} {xs : List Str} (hh : A.handled = none) (hl : s.heap.IsList l items) (hi : StrsAre items.toList xs) (hb : xs.length + 1 < scanBound) :
    wpAny (model P w) A (Builtin.«set.__init__» ⟨[.ref s.heap.objs.size, .ref l], []⟩) (fun f s2 => f = .done (.ret .none) ∧ Left P w s xs s2) E { s with heap := s.heap.push (fresh w) } := by
  have hsz : xs.length = items.size := by rw [← StrsAre.len_eq hi, Array.length_toList]
  have hv : ∀ (i : Nat) (v : Value), items[i]? = some v → ∃ k t, xs[i]? = some k ∧ v = .str k t := fun i v q => by
    have hi' : i < xs.length := by rw [hsz]; exact (Array.getElem?_eq_some_iff.mp q).1
    obtain ⟨t, e⟩ := SS.strs_at hi i v (by rw [Array.getElem?_toList]; exact q)
    refine ⟨xs[i], t, List.getElem?_eq_getElem hi', ?_⟩
    rw [e, List.getD_eq_getElem?_getD, List.getElem?_eq_getElem hi'] <;> rfl
  have hS : (s.heap.push (fresh w)).get? s.heap.objs.size = some (fresh w) := Heap.get?_push_size _ rfl
  have hT : Shared.TypeIs { s with heap := s.heap.push (fresh w) } (.ref s.heap.objs.size) "set" := ⟨_, hS, rfl⟩
  obtain ⟨ol, hol, hcl, nl, hdl⟩ := id hl
  obtain ⟨ocls, odict, odata, oslots⟩ := ol
  simp only at hcl hdl
  subst hcl; subst hdl
  have hol1 : (s.heap.push (fresh w)).get? l = some { cls := .type "list", dict := odict, data := .seq items nl, slots := oslots } := Heap.get?_push_of_some _ hol
  have f1 := F.sub_list_set
  have f2 := F.sub_list_frozenset
  have f3 : (Value.type "list" == Value.type "dict") = false := by decide
  have hl1 : (s.heap.push (fresh w)).IsList l items := ⟨_, hol1, rfl, nl, rfl⟩
  have lS : l < s.heap.objs.size := Heap.lt_size hol
  have nI : l ≠ (s.heap.push (fresh w)).objs.size := by
    rw [Heap.size_push]
    exact Nat.ne_of_lt (Nat.lt_succ_of_lt lS)
  have nS : s.heap.objs.size ∉ [(s.heap.push (fresh w)).objs.size, l] := by
    rw [Heap.size_push]
    intro q
    rcases List.mem_cons.mp q with q | q
    · exact absurd q (Nat.ne_of_lt (Nat.lt_succ_self _))
    · exact absurd (List.mem_singleton.mp q) (Nat.ne_of_gt lS)
  have z1 : (s.heap.push (fresh w)).objs.size = s.heap.objs.size + 1 := Heap.size_push ..
  unfold Builtin.«set.__init__» noKeywords Builtin.Frozenset.updateFrom
  generalize ePI : pyIter = PI
  wp_walk
  subst ePI
  refine wpAny_pyIter_list hl1 ?_
  refine wpAny_bind (wpAny_runValue ?_)
  refine fill ((Walks.list (by simp [hh]) _ l nI items).toS) s.heap.objs.size nS xs hsz.symm hb hv (items.size - 0) 0 _ rfl (Nat.zero_le _)
    ⟨⟨_, Heap.get?_push_size _ rfl, rfl, rfl⟩, hl1.push _⟩ ⟨[], at_fresh (Heap.get?_push_of_some _ hS), Nat.le_refl _, fun k => by simp⟩ fun s' m mv hA mem hm => ?_
  show wpAny _ _ _ _ _ _
  refine wpAny_pure ?_
  show wpAny _ _ (ret Value.none) _ _ _
  refine wpAny_pure ⟨rfl, left_of (wr := [_]) rfl ?_ ?k1 ?e1 ?e2 ?e3 mv hA mem (by omega)⟩
  case k1 => exact fun b o e => Heap.get?_push_of_some _ (Heap.get?_push_of_some _ e)
  case e1 => rfl
  case e2 => rfl
  case e3 => rfl
  intro b q
  rw [List.mem_singleton.mp q]
  show _ ≤ (s.heap.push (fresh w)).objs.size
  rw [z1]
  exact Nat.le_succ _
set_option maxHeartbeats 4000000 in
theorem init_text {x : Str} {t : Tok} (hh : A.handled = none) (hb : x.length + 1 < scanBound) :
    wpAny (model P w) A (Builtin.«set.__init__» ⟨[.ref s.heap.objs.size, .str x t], []⟩) (fun f s2 => f = .done (.ret .none) ∧ Left P w s (x.cps.toList.map fun c => (⟨#[c]⟩ : Str)) s2) E { s with heap := s.heap.push (fresh w) } := by
  have hsz : (x.cps.toList.map fun c => (⟨#[c]⟩ : Str)).length = x.cps.size := by rw [List.length_map, Array.length_toList]
  have hx : x.length = x.cps.size := rfl
  have hv : ∀ (i : Nat) (v : Value), SignAt x i v → ∃ k t, (x.cps.toList.map fun c => (⟨#[c]⟩ : Str))[i]? = some k ∧ v = .str k t := fun i v ⟨c, u, q, e⟩ => by
    refine ⟨⟨#[c]⟩, u, ?_, e⟩
    rw [List.getElem?_map, Array.getElem?_toList, q] <;> rfl
  have hS : (s.heap.push (fresh w)).get? s.heap.objs.size = some (fresh w) := Heap.get?_push_size _ rfl
  have hT : Shared.TypeIs { s with heap := s.heap.push (fresh w) } (.ref s.heap.objs.size) "set" := ⟨_, hS, rfl⟩
  have hTx : Shared.TypeIs { s with heap := s.heap.push (fresh w) } (.str x t) "str" := typeIs_str _ x t
  have f1 := PySem.F.sub_str_set
  have f2 := PySem.F.sub_str_frozenset
  have f3 : (Value.type "str" == Value.type "dict") = false := by decide
  have z1 : (s.heap.push (fresh w)).objs.size = s.heap.objs.size + 1 := Heap.size_push ..
  unfold Builtin.«set.__init__» noKeywords Builtin.Frozenset.updateFrom
  generalize ePI : pyIter = PI
  wp_walk
  subst ePI
  refine wpAny_pyIter_str fun o St W st => ?_
  refine wpAny_bind (wpAny_runValue ?_)
  refine fill ((W _ (by simp [hh])).toS) s.heap.objs.size (by rw [z1]; simp) _ hsz.symm (by rw [hsz, ← hx]; exact hb) hv (x.cps.size - 0) 0 _ rfl (Nat.zero_le _)
    st ⟨[], at_fresh (Heap.get?_push_of_some _ hS), Nat.le_refl _, fun k => by simp⟩ fun s' m mv hA mem hm => ?_
  show wpAny _ _ _ _ _ _
  refine wpAny_pure ?_
  show wpAny _ _ (ret Value.none) _ _ _
  refine wpAny_pure ⟨rfl, left_of (wr := [_]) rfl ?_ ?k1 ?e1 ?e2 ?e3 mv hA mem (by rw [hsz]; exact hm)⟩
  case k1 => exact fun b o e => Heap.get?_push_of_some _ (Heap.get?_push_of_some _ e)
  case e1 => rfl
  case e2 => rfl
  case e3 => rfl
  intro b q
  rw [List.mem_singleton.mp q]
  show _ ≤ (s.heap.push (fresh w)).objs.size
  rw [z1]
  exact Nat.le_succ _

/-! ### sorted(set) -/
theorem texts_of {es : List (Int × Value)} (el : ElemsOf (strKind P w) es) : ∀ vs : List Value, (∀ v ∈ vs, v ∈ es.map (·.2)) → ∃ ks : List Str, StrsAre vs ks ∧ (∀ k, k ∈ ks ↔ ∃ v ∈ vs, (strKind P w).is k v = true) ∧ ks.length = vs.length
  | [], _ => ⟨[], .nil, fun k => by simp, rfl⟩
  | v :: vs, h => by
    obtain ⟨ks, h1, h2, h3⟩ := texts_of el vs fun u q => h u (List.mem_cons_of_mem _ q)
    obtain ⟨e, he, ev⟩ := List.mem_map.mp (h v List.mem_cons_self)
    obtain ⟨⟨k, hk, _⟩, _⟩ := el e he
    rw [ev] at hk
    obtain ⟨t, rfl⟩ := Value.isStrOf_shape hk
    refine ⟨k :: ks, .cons k t h1, fun j => ?_, by rw [List.length_cons, List.length_cons, h3]⟩
    rw [List.mem_cons, h2 j]
    constructor
    · rintro (q | ⟨u, hu, q⟩)
      · exact ⟨_, List.mem_cons_self, by rw [q]; exact hk⟩
      · exact ⟨u, List.mem_cons_of_mem _ hu, q⟩
    · rintro ⟨u, hu, q⟩
      rcases List.mem_cons.mp hu with z | z
      · rw [z] at q
        exact .inl ((strKind P w).inj _ _ _ q hk)
      · exact .inr ⟨u, z, q⟩
theorem sorted_at {a : Addr} {l : List Str} {Q : Value → Shared → Prop} (R : At P w s.heap a l) (hh : A.handled = none) (h64 : l.length < 64)
    (hQ : ∀ s' p (out : Array Value) (c : Nat) (ys : List Str), (∀ b o, s.heap.get? b = some o → s'.heap.get? b = some o) → s'.gens = s.gens → s'.os = s.os → s.heap.objs.size ≤ p →
      s'.heap.get? p = some (seqObj "list" out c) → StrsAre out.toList ys → ys.Perm l → sortedS ys = true → Q (.ref p) s') :
    wpAny (model P w) A (call (.builtin "sorted") [.ref a]) Q E s := by
  obtain ⟨⟨es, ep, t⟩, ho, ok⟩ := R
  have ft : t.fits es.size = true := ok.tx.fit
  have z : es.size = l.length := ok.tx.sz
  have sb : es.size < scanBound := by
    unfold scanBound
    omega
  refine Calls.call_function_entry kind_sorted plain_sorted entry_sorted (args_sorted1 _) ?_
  unfold Builtin.«sorted»
  refine wpAny_bind (m := checkCount "sorted" 1 1 _) (wpAny_pure ?_)
  refine wpAny_bind (collect_set (A := A.in1) hh ⟨_, ho, rfl, rfl⟩ ft sb ok.up ok.led fun s1 vs k1 hz g1 o1 pm => ?_)
  obtain ⟨ks, hS, mem, hlen⟩ := texts_of ok.tx.el vs fun v hv => pm.mem_iff.mp hv
  have vl : vs.length = l.length := by rw [pm.length_eq, List.length_map, Array.length_toList]; exact z
  have pk : ks.Perm l := perm_of_sub l ks ok.nd (fun k hk => by
    obtain ⟨e, he, q⟩ := (ok.tx.mem k).mp hk
    exact (mem k).mpr ⟨e.2, pm.mem_iff.mpr (List.mem_map.mpr ⟨e, he, rfl⟩), q⟩) (by omega)
  refine wpAny_bind (wpAny_newList ?_ (by rw [vl, sizeLine_eq]; omega))
  have hoL : (s1.heap.push (seqObj "list" vs.toArray 0)).get? s1.heap.objs.size = some (seqObj "list" vs.toArray 0) := Heap.get?_push_size _ rfl
  refine wpAny_bind (wpAny_holding (wpAny_call_entry slot_list_sort ⟨_, hoL, rfl⟩ entry_list_sort
    (list_sort_treeK strKind_oneLt hoL hS.keysOf (fun v₁ v₂ rest e => keyKind_strs (by rw [← e]; exact hS)) (by rw [vl]; exact h64) fun st' hp hs => ?_) (args_list_sort _)))
  obtain ⟨ys, y1, y2, y3⟩ := sorted_out_str hS hp hs
  obtain ⟨c, hc⟩ := sortedHeap_at (vs := vs) (out := Array.map (fun x => x.snd) (arrOf st')) hoL
  refine ⟨_, rfl, wpAny_pure ⟨_, rfl, hQ _ s1.heap.objs.size _ c ys (fun b u e => ?_) g1 o1 hz hc y1 (y2.trans pk) y3⟩⟩
  have q := k1 b u e
  have lt := Heap.lt_size q
  show (sortedHeap (s1.heap.push (seqObj "list" vs.toArray 0)) s1.heap.objs.size vs _).get? b = some u
  rw [sortedHeap_old (Nat.ne_of_lt lt) (by rw [Heap.size_push]; exact Nat.lt_succ_of_lt lt)]
  exact Heap.get?_push_of_some _ q
end

/-! ### over the layer -/
def SetTx (P : Program) (w : World) (a : Addr) (l : List Str) : HO := .ext fun h => At P w h a l
theorem setTx_new {P : Program} {w : World} {H : Hp} {h : Heap} {a : Addr} {l : List Str} (R : At P w h a l) : ObjOk P w H h a (SetTx P w a l) := by
  have ⟨D, hD, _⟩ := R
  exact ⟨R, ⟨_, hD⟩, fun h1 h2 p k => At.move p k⟩
section
variable {X : Cx}
/-- set(xs), xs a list of texts -/
def rSetL (K : PySem.W.Frag) (P : Program) (w : World) : List V → Hp → VK → Prop := fun xs H Q => ∃ (l : Addr) (ss : List Str), xs = [V.ref l] ∧ SqL K H l (ss.map V.str) ∧ ss.length + 1 < scanBound ∧
  ∀ (a : Addr) (ls : List Str), H a = none → ls.Nodup → (∀ k, k ∈ ls ↔ k ∈ ss) → ls.length ≤ ss.length → Q (.ref a) (upd H a (SetTx P w a ls))
theorem At.nd {P : Program} {w : World} {h : Heap} {a : Addr} {l : List Str} (x : At P w h a l) : l.Nodup := by
  obtain ⟨D, _, o⟩ := x
  exact o.nd
theorem cr_setL (hc : X.calm = true) : CallR X (.type "set") (rSetL X.K X.prog X.w) := by
  intro pins s σ H xs us Q I r h
  obtain ⟨l, ss, rfl, hs, hb, q⟩ := h
  obtain ⟨its, rv, hl, _⟩ := I.list hs
  rw [Vals.ref1 r]
  have hn : H s.heap.objs.size = none := I.hok.fresh (Nat.le_refl _)
  refine call_set_of (xs := ss) (fun A' e => init_list (e.trans (I.ok.hd hc)) hl.isList rv.strs hb) fun s' L => ?_
  obtain ⟨h', tk, ls, rfl, hA, mem, hlen, kp⟩ := L
  exact ⟨.ref s.heap.objs.size, upd H s.heap.objs.size (SetTx X.prog X.w s.heap.objs.size ls), I.laid (t' := tk) kp (Nat.le_refl _) (setTx_new hA), rfl, q _ ls hn hA.nd mem hlen⟩
def signs (x : Str) : List Str := x.cps.toList.map fun c => (⟨#[c]⟩ : Str)
/-- set(x), x a text -/
def rSetT (P : Program) (w : World) : List V → Hp → VK → Prop := fun xs H Q => ∃ (x : Str), xs = [V.str x] ∧ x.length + 1 < scanBound ∧
  ∀ (a : Addr) (ls : List Str), H a = none → ls.Nodup → (∀ k, k ∈ ls ↔ k ∈ signs x) → ls.length ≤ x.length → Q (.ref a) (upd H a (SetTx P w a ls))
theorem cr_setT (hc : X.calm = true) : CallR X (.type "set") (rSetT X.prog X.w) := by
  intro pins s σ H xs us Q I r h
  obtain ⟨x, rfl, hb, q⟩ := h
  obtain ⟨t, rfl⟩ : ∃ t, us = [Value.str x t] := by
    cases r with
    | cons r1 r2 =>
      cases r2
      obtain ⟨t, rfl⟩ := r1
      exact ⟨t, rfl⟩
  have hn : H s.heap.objs.size = none := I.hok.fresh (Nat.le_refl _)
  refine call_set_of (xs := x.cps.toList.map fun c => (⟨#[c]⟩ : Str)) (fun A' e => init_text (e.trans (I.ok.hd hc)) hb) fun s' L => ?_
  obtain ⟨h', tk, ls, rfl, hA, mem, hlen, kp⟩ := L
  rw [List.length_map, Array.length_toList] at hlen
  exact ⟨.ref s.heap.objs.size, upd H s.heap.objs.size (SetTx X.prog X.w s.heap.objs.size ls), I.laid (t' := tk) kp (Nat.le_refl _) (setTx_new hA), rfl, q _ ls hn hA.nd mem hlen⟩
/-- sorted(found) of texts, fewer than 64 -/
def rSortTx (P : Program) (w : World) : List V → Hp → VK → Prop := fun vs H Q => ∃ (a : Addr) (l : List Str), vs = [V.ref a] ∧ H a = some (SetTx P w a l) ∧ l.length < 64 ∧
  ∀ (ys : List Str) (p : Addr), ys.Perm l → sortedS ys = true → H p = none → Q (.ref p) (upd H p (.lst (ys.map V.str)))
theorem cr_sortTx (hc : X.calm = true) : CallR X (.builtin "sorted") (rSortTx X.prog X.w) := by
  intro pins s σ H vs us Q I r h
  obtain ⟨a, l, rfl, ha, h64, q⟩ := h
  have R : At X.prog X.w s.heap a l := (I.hok a _ ha).1
  rw [Vals.ref1 r]
  refine sorted_at R (I.ok.hd hc) h64 fun s' p out c ys k g o hp hg hi pm so => ?_
  have hlen : (ys.map V.str).length ≤ sizeLine := by
    rw [List.length_map, pm.length_eq, sizeLine_eq]
    omega
  have hn : H p = none := I.hok.fresh hp
  have J : Inv X pins σ (upd H p (.lst (ys.map V.str))) { s with heap := s'.heap, gens := s'.gens, drawn := s'.drawn, toks := s'.toks } :=
    I.call (ch := []) (Un.laid k hp hn) (I.hok.laid k hp ⟨hlen, out.toList, c, vals_of_strs hi, hg⟩) (by rw [g]; exact I.bare) (fun _ z => nomatch z)
  have e : s' = { s with heap := s'.heap, gens := s'.gens, drawn := s'.drawn, toks := s'.toks } := by
    cases s'
    cases s
    cases o
    rfl
  rw [e]
  exact ⟨.ref p, _, J, rfl, q ys p pm so hn⟩
end
end TX
namespace DW
open PySem PySem.Spec PyProof.Rows L2
def topS (i : Nat) : Stmt := PySem.Challenge.pw_downwords_k62_invalid_grammars.main.body.getD i (.Pass ⟨0, 0, 0, 0⟩)
abbrev sIsAscending : Stmt := topS 6
abbrev sIsAlphabet : Stmt := topS 7
abbrev sIsSymbol : Stmt := topS 12
abbrev sSymbolsAmong : Stmt := topS 13
abbrev sIsProduction : Stmt := topS 14
abbrev sBegin : Stmt := topS 17
abbrev sDraw : Stmt := topS 18
abbrev sPick : Stmt := topS 19
abbrev sAlpha : Stmt := topS 20
abbrev sLItems : Stmt := topS 21
abbrev sLBad : Stmt := topS 22
abbrev sLGood : Stmt := topS 23
abbrev sLTold : Stmt := topS 24
abbrev sLaw : Stmt := topS 25
end DW
/-! sorted(text); x in a tuple, by data -/
namespace ST
open PySem PySem.Spec PyProof.Rows L2
section
variable {P : Program} {w : World} {A : Around} {E : Value → Shared → Prop} {s : Shared}
theorem signs_are {x : Str} {acc : Array Value} (h : ItemsOf (SignAt x) acc x.cps.size) : StrsAre acc.toList (TX.signs x) := by
  have main : ∀ (vs : List Value) (cs : List Nat), vs.length = cs.length → (∀ (j : Nat) (v : Value), vs[j]? = some v → ∃ (c : Nat) (u : Tok), cs[j]? = some c ∧ v = .str ⟨#[c]⟩ u) → StrsAre vs (cs.map fun c => (⟨#[c]⟩ : Str)) := by
    intro vs
    induction vs with
    | nil =>
      intro cs hl _
      have e : cs = [] := List.length_eq_zero_iff.mp hl.symm
      rw [e]
      exact .nil
    | cons v vs ih =>
      intro cs hl h
      cases cs with
      | nil => cases hl
      | cons c cs =>
        obtain ⟨c', u, e1, e2⟩ := h 0 v rfl
        cases e1
        subst e2
        exact .cons _ u (ih cs (Nat.succ.inj hl) fun j v hj => h (j + 1) v hj)
  refine main acc.toList x.cps.toList (by rw [Array.length_toList, Array.length_toList, h.1]) fun j v hj => ?_
  obtain ⟨c, u, e1, e2⟩ := h.2 j v (by simpa using hj)
  exact ⟨c, u, by simpa using e1, e2⟩
end
section
variable {X : Cx}
def rSortT : List V → Hp → VK → Prop := fun vs H Q => ∃ x : Str, vs = [V.str x] ∧ x.length < 64 ∧
  ∀ (ys : List Str) (p : Addr), ys.Perm (TX.signs x) → sortedS ys = true → H p = none → Q (.ref p) (upd H p (.lst (ys.map V.str)))
theorem cr_sortT (hc : X.calm = true) : CallR X (.builtin "sorted") rSortT := by
  intro pins s σ H vs us Q I r h
  obtain ⟨x, rfl, h64, q⟩ := h
  obtain ⟨t, rfl⟩ : ∃ t, us = [Value.str x t] := by
    cases r with
    | cons r1 r2 =>
      cases r2
      obtain ⟨t, rfl⟩ := r1
      exact ⟨t, rfl⟩
  have h64' : x.cps.size < 64 := h64
  refine Calls.call_function_entry kind_sorted plain_sorted entry_sorted (args_sorted1 _) ?_
  unfold Builtin.«sorted»
  refine wpAny_bind (m := checkCount "sorted" 1 1 _) (wpAny_pure ?_)
  refine wpAny_bind (wpAny_collect_str (A := X.A.in1) (I.ok.hd hc) x t (fun s1 acc k1 g1 d1 o1 items => ?_) (by rw [sizeLine_eq]; omega))
  have e1 : s1 = { s with heap := s1.heap, toks := s1.toks } := by
    cases s1
    cases s
    cases g1
    cases d1
    cases o1
    rfl
  have J : Inv X pins σ H s1 := by
    rw [e1]
    exact I.kept k1
  have hS := signs_are items
  have vl : acc.toList.length < 64 := by rw [Array.length_toList, items.1]; exact h64
  refine wpAny_bind (wpAny_newList ?_ (by rw [sizeLine_eq]; omega))
  have hoL : (s1.heap.push (seqObj "list" acc.toList.toArray 0)).get? s1.heap.objs.size = some (seqObj "list" acc.toList.toArray 0) := Heap.get?_push_size _ rfl
  refine wpAny_bind (wpAny_holding (wpAny_call_entry slot_list_sort ⟨_, hoL, rfl⟩ entry_list_sort
    (list_sort_treeK strKind_oneLt hoL hS.keysOf (fun v₁ v₂ rest e => keyKind_strs (by rw [← e]; exact hS)) vl fun st' hp hs => ?_) (args_list_sort _)))
  obtain ⟨ys, y1, y2, y3⟩ := sorted_out_str hS hp hs
  obtain ⟨c, hc⟩ := sortedHeap_at (vs := acc.toList) (out := Array.map (fun x => x.snd) (arrOf st')) hoL
  have hlen : (ys.map V.str).length ≤ sizeLine := by
    rw [List.length_map, y2.length_eq, sizeLine_eq]
    unfold TX.signs
    rw [List.length_map, Array.length_toList]
    omega
  refine ⟨_, rfl, wpAny_pure ⟨_, rfl, ?_⟩⟩
  refine ⟨.ref s1.heap.objs.size, upd H s1.heap.objs.size (.lst (ys.map V.str)), J.laid (t' := s1.toks) (fun b u e => ?_) (Nat.le_refl _) ⟨hlen, _, c, vals_of_strs y1, hc⟩, rfl, q ys _ y2 y3 (J.hok.fresh (Nat.le_refl _))⟩
  have lt := Heap.lt_size e
  show (sortedHeap (s1.heap.push (seqObj "list" acc.toList.toArray 0)) s1.heap.objs.size acc.toList _).get? b = some u
  rw [sortedHeap_old (Nat.ne_of_lt lt) (by rw [Heap.size_push]; exact Nat.lt_succ_of_lt lt)]
  exact Heap.get?_push_of_some _ e
def rInT (K : PySem.W.Frag) : R2 := fun x y H Q => ∃ d ds, Dp K H x d ∧ Dp K H y (.tuple ds) ∧ SeqAt.shaped d = true ∧ SeqAt.shaped (.tuple ds) = true ∧ Q (.bl (ds.any fun z => PyData.eqv z d)) H
theorem op_inT (hu : X.A.units + 65 < cLine) : OpR X (compareOp .In) (rInT X.K) := by
  intro pins s σ H x y v u Q I rx ry h
  obtain ⟨d, ds, hd, he, sd, se, q⟩ := h
  obtain ⟨as, r1⟩ := Dp.reads I d x v hd rx
  obtain ⟨bs, r2⟩ := Dp.reads I (.tuple ds) y u he ry
  exact SeqAt.in_tuple_reads r2 r1 (SeqAt.canLay_of_shaped se) (SeqAt.canLay_of_shaped sd) (room_in_shaped sd hu) ⟨.bl _, H, I, rfl, q⟩
end
end ST
/-! list(text); text[::-1] as a text of the same length -/
namespace R1
open PySem PySem.Spec PyProof.Rows L2
theorem texts_in : ∀ l : List Value, (∀ v ∈ l, ∃ z t, v = .str z t) → ∃ ss : List Str, Vals (ss.map V.str) l
  | [], _ => ⟨[], .nil⟩
  | v :: l, h => by
    obtain ⟨ss, r⟩ := texts_in l fun u hu => h u (List.mem_cons_of_mem _ hu)
    obtain ⟨z, t, rfl⟩ := h v List.mem_cons_self
    exact ⟨z :: ss, .cons ⟨t, rfl⟩ r⟩
section
variable {X : Cx}
theorem cr_listT (hc : X.calm = true) : CallR X (.type "list") (fun xs H Q => ∃ x : Str, xs = [.str x] ∧ x.length ≤ sizeLine ∧ ∀ p (ss : List Str), H p = none → Q (.ref p) (upd H p (.lst (ss.map V.str)))) := by
  intro pins s σ H xs us Q I r h
  obtain ⟨x, rfl, hb, q⟩ := h
  obtain ⟨t, rfl⟩ : ∃ t, us = [Value.str x t] := by
    cases r with
    | cons r1 r2 =>
      cases r2
      obtain ⟨t, rfl⟩ := r1
      exact ⟨t, rfl⟩
  refine call_list_str (I.ok.hd hc) x t (hn := hb) fun h' tk acc c hk hS hacc => ?_
  obtain ⟨ss, rv⟩ := texts_in acc.toList fun v hv => by
    obtain ⟨j, hj⟩ := List.getElem?_of_mem hv
    obtain ⟨c, u, _, e⟩ := hacc.2 j v (by simpa using hj)
    exact ⟨_, u, e⟩
  have hl : (ss.map V.str).length ≤ sizeLine := by
    rw [rv.length, Array.length_toList, hacc.1]
    exact hb
  exact ⟨.ref s.heap.objs.size, upd H s.heap.objs.size (.lst (ss.map V.str)), I.laid (t' := tk) hk (Nat.le_refl _) ⟨hl, acc.toList, c, rv, hS⟩, rfl, q _ ss (I.hok.fresh (Nat.le_refl _))⟩
def tRevT (te : TE) : TE := fun σ H Q => te σ H fun x H1 => ∃ z : Str, x = .str z ∧ z.length ≤ sizeLine ∧ ∀ y : Str, y.length ≤ z.length → (∀ c ∈ y.cps.toList, c ∈ z.cps.toList) → Q (.str y) H1
theorem pe_revT {e : Expr} {te : TE} {k : Nat} {p1 p2 p3 pos : Pos} (he : PE X e te) : PE X (.Subscript e (.Slice none none (some (.UnaryOp .USub (.Constant (.int 1) k p1) p2)) p3) pos) (tRevT te) := by
  refine ⟨fun pins s σ H Q I h => ?_⟩
  refine Subscript_ (thn (he.run pins s σ H _ I h) fun v s1 ⟨x, H1, I1, r1, q1⟩ => ?_)
  obtain ⟨z, ex, hz, q⟩ := q1
  subst ex
  obtain ⟨t, rfl⟩ := r1
  have hst : PO X (some (.UnaryOp .USub (.Constant (.int 1) k p1) p2)) (tPart (tUn (rU fun i => .int (-i)) (tC (.int 1)))) := po_some (pe_un un_neg pe_int)
  refine wpAny_Slice (thn (po_none.run pins s1 σ H1 (fun o H2 => o = none ∧ H2 = H1) I1 ⟨rfl, rfl⟩) fun vl s2 ⟨l, H2, I2, pl, el, e2⟩ => ?_)
  subst el e2
  refine thn (po_none.run pins s2 σ H2 (fun o H3 => o = none ∧ H3 = H2) I2 ⟨rfl, rfl⟩) fun vu s3 ⟨u, H3, I3, pu, eu, e3⟩ => ?_
  subst eu e3
  refine thn (hst.run pins s3 σ H3 (fun o H4 => o = some (-1) ∧ H4 = H3) I3 ⟨1, rfl, -1, rfl, rfl, rfl⟩) fun vs s4 ⟨o, H4, I4, ps, eo, e4⟩ => ?_
  subst eo e4
  obtain ⟨l1, rfl, el⟩ := IsPart.raw pl
  obtain ⟨u1, rfl, eu⟩ := IsPart.raw pu
  obtain ⟨st1, rfl, es⟩ := IsPart.raw ps
  have I5 : Inv X pins σ H4 { s4 with heap := s4.heap.push { cls := .type "slice", data := .fields #[partValue l1, partValue u1, partValue st1] } } := I4.kept (t' := s4.toks) fun b ob q => Heap.get?_push_of_some _ q
  show wpAny (model X.prog X.w) X.A (subscriptTail e (.Slice none none (some (.UnaryOp .USub (.Constant (.int 1) k p1) p2)) p3) (.str z t) (.ref s4.heap.objs.size)) (EP X pins σ Q) X.xe { s4 with heap := s4.heap.push { cls := .type "slice", data := .fields #[partValue l1, partValue u1, partValue st1] } }
  refine tail_any (ops := [.str z t, .ref s4.heap.objs.size]) (typeIs_str _ _ _) (F.slot_str_getitem.lookup) ?_ (by with_unfolding_all rfl)
  refine wpAny_getItem_str_slice (l := l1) (u := u1) (st := st1) ⟨_, Heap.get?_push_size _ rfl, rfl, rfl⟩ (by rw [es]; rfl) ?_
  have e0 : sliceMade z t l1 u1 st1 = .str ⟨(((List.range z.length).map fun k => z.length - 1 - k).filterMap (z.cps[·]?)).toArray⟩ := by
    unfold sliceMade slicePicked
    rw [el, eu, es]
    show (if ((-1 : Int) == 1 && _) = true then _ else _) = _
    rw [if_neg (by simp)]
    show Made.str ⟨((sliceRange ((z.length : Int) - 1) (-1) (-1)).filterMap (z.cps[·]?)).toArray⟩ = _
    rw [PySem.W.krv_sliceRange]
  rw [e0]
  have hl : (⟨(((List.range z.length).map fun k => z.length - 1 - k).filterMap (z.cps[·]?)).toArray⟩ : Str).length ≤ z.length := by
    show (((List.range z.length).map fun k => z.length - 1 - k).filterMap (z.cps[·]?)).toArray.size ≤ _
    rw [List.size_toArray]
    refine Nat.le_trans (List.length_filterMap_le _ _) ?_
    rw [List.length_map, List.length_range]
    exact Nat.le_refl _
  have hm : ∀ c ∈ (⟨(((List.range z.length).map fun k => z.length - 1 - k).filterMap (z.cps[·]?)).toArray⟩ : Str).cps.toList, c ∈ z.cps.toList := fun c hc => by
    have hc' : c ∈ ((List.range z.length).map fun k => z.length - 1 - k).filterMap (z.cps[·]?) := by simpa using hc
    obtain ⟨i, _, hi⟩ := List.mem_filterMap.mp hc'
    rw [← Array.getElem?_toList] at hi
    exact List.mem_of_getElem? hi
  exact ⟨Nat.le_trans hl hz, .str _, H4, I5.tok _, ⟨_, rfl⟩, q _ hl hm⟩
end
end R1
/-! text[::-1] -/
namespace R1
open PySem PySem.Spec PyProof.Rows L2
section
variable {X : Cx}
def tRevS (te : TE) : TE := fun σ H Q => te σ H fun x H1 => ∃ z : Str, x = .str z ∧ z.length ≤ sizeLine ∧ Q (.str ⟨z.cps.toList.reverse.toArray⟩) H1
theorem pe_revS {e : Expr} {te : TE} {k : Nat} {p1 p2 p3 pos : Pos} (he : PE X e te) : PE X (.Subscript e (.Slice none none (some (.UnaryOp .USub (.Constant (.int 1) k p1) p2)) p3) pos) (tRevS te) := by
  refine ⟨fun pins s σ H Q I h => ?_⟩
  refine Subscript_ (thn (he.run pins s σ H _ I h) fun v s1 ⟨x, H1, I1, r1, q1⟩ => ?_)
  obtain ⟨z, ex, hz, q⟩ := q1
  subst ex
  obtain ⟨t, rfl⟩ := r1
  have hst : PO X (some (.UnaryOp .USub (.Constant (.int 1) k p1) p2)) (tPart (tUn (rU fun i => .int (-i)) (tC (.int 1)))) := po_some (pe_un un_neg pe_int)
  refine wpAny_Slice (thn (po_none.run pins s1 σ H1 (fun o H2 => o = none ∧ H2 = H1) I1 ⟨rfl, rfl⟩) fun vl s2 ⟨l, H2, I2, pl, el, e2⟩ => ?_)
  subst el e2
  refine thn (po_none.run pins s2 σ H2 (fun o H3 => o = none ∧ H3 = H2) I2 ⟨rfl, rfl⟩) fun vu s3 ⟨u, H3, I3, pu, eu, e3⟩ => ?_
  subst eu e3
  refine thn (hst.run pins s3 σ H3 (fun o H4 => o = some (-1) ∧ H4 = H3) I3 ⟨1, rfl, -1, rfl, rfl, rfl⟩) fun vs s4 ⟨o, H4, I4, ps, eo, e4⟩ => ?_
  subst eo e4
  obtain ⟨l1, rfl, el⟩ := IsPart.raw pl
  obtain ⟨u1, rfl, eu⟩ := IsPart.raw pu
  obtain ⟨st1, rfl, es⟩ := IsPart.raw ps
  have I5 : Inv X pins σ H4 { s4 with heap := s4.heap.push { cls := .type "slice", data := .fields #[partValue l1, partValue u1, partValue st1] } } := I4.kept (t' := s4.toks) fun b ob q => Heap.get?_push_of_some _ q
  show wpAny (model X.prog X.w) X.A (subscriptTail e (.Slice none none (some (.UnaryOp .USub (.Constant (.int 1) k p1) p2)) p3) (.str z t) (.ref s4.heap.objs.size)) (EP X pins σ Q) X.xe { s4 with heap := s4.heap.push { cls := .type "slice", data := .fields #[partValue l1, partValue u1, partValue st1] } }
  refine tail_any (ops := [.str z t, .ref s4.heap.objs.size]) (typeIs_str _ _ _) (F.slot_str_getitem.lookup) ?_ (by with_unfolding_all rfl)
  refine wpAny_getItem_str_slice (l := l1) (u := u1) (st := st1) ⟨_, Heap.get?_push_size _ rfl, rfl, rfl⟩ (by rw [es]; rfl) ?_
  have e0 : sliceMade z t l1 u1 st1 = .str ⟨(((List.range z.length).map fun k => z.length - 1 - k).filterMap (z.cps[·]?)).toArray⟩ := by
    unfold sliceMade slicePicked
    rw [el, eu, es]
    show (if ((-1 : Int) == 1 && _) = true then _ else _) = _
    rw [if_neg (by simp)]
    show Made.str ⟨((sliceRange ((z.length : Int) - 1) (-1) (-1)).filterMap (z.cps[·]?)).toArray⟩ = _
    rw [PySem.W.krv_sliceRange]
  rw [e0]
  have er : (⟨(((List.range z.length).map fun k => z.length - 1 - k).filterMap (z.cps[·]?)).toArray⟩ : Str) = ⟨z.cps.toList.reverse.toArray⟩ := by
    have e1 : ((List.range z.length).map fun k => z.length - 1 - k).filterMap (z.cps[·]?) = z.cps.toList.reverse := by
      rw [PySem.W.krv_range, List.filterMap_reverse]
      show ((List.range z.cps.size).filterMap (z.cps[·]?)).reverse = _
      rw [PySem.W.krv_all]
    rw [e1]
  rw [er]
  have hl : (⟨z.cps.toList.reverse.toArray⟩ : Str).length ≤ z.length := by
    show z.cps.toList.reverse.toArray.size ≤ z.cps.size
    rw [List.size_toArray, List.length_reverse, Array.length_toList]
    exact Nat.le_refl _
  exact ⟨Nat.le_trans hl hz, .str _, H4, I5.tok _, ⟨_, rfl⟩, q⟩
end
end R1
/-! enumerate(tuple) -/
namespace EN
open PySem PySem.Spec PyProof.Rows L2
theorem meets_new1 {v : Value} {o : Obj} {H : Heap → Prop} (B : Begins v o H) :
    Meets (Builtin.«enumerate.__new__» ⟨[.type "enumerate", v], []⟩) (fun _ R s => H s.heap ∧
      R (.ok (.ret (.ref (s.heap.push o).objs.size))) { s with heap := (s.heap.push o).push { cls := .type "enumerate", data := .fields #[.none, .bool false, .ref s.heap.objs.size, rawInt 0, .none, .none] } }) :=
  .of_wp fun prog w A R s h => by
    obtain ⟨hp, g, d, tk, os⟩ := s
    obtain ⟨h1, h⟩ := h
    have hsub := sub_enumerate
    have q1 : ∀ {A' : Around} {E : Value → Shared → Prop} {Q : Value → Shared → Prop}, Q (.ref hp.objs.size) ⟨hp.push o, g, d, tk, os⟩ → wpAny (model prog w) A' (pyIter v) Q E ⟨hp, g, d, tk, os⟩ :=
      fun q => B.iter prog w _ _ ⟨hp, g, d, tk, os⟩ _ h1 q
    wp_walk using q1
    refine wpAny_stack_any fun st => wpAny_pure ?_
    split
    · rename_i c _ _ _ _ _
      cases (c == Value.type "enumerate")
      · wp_walk using q1
        exact ⟨_, rfl, h⟩
      · wp_walk using q1
        exact ⟨_, rfl, h⟩
    · wp_walk using q1
      exact ⟨_, rfl, h⟩
section
variable {prog : Program} {w : World} {A : Around} {E : Value → Shared → Prop} {s : Shared}
theorem begins1 {v : Value} {o : Obj} {H : Heap → Prop} {Q : Value → Shared → Prop} (B : Begins v o H) (h1 : H s.heap)
    (h : ∀ h', IsEnum h' (s.heap.objs.size + 1) s.heap.objs.size 0 .none → h'.get? s.heap.objs.size = some o → h'.objs.size = s.heap.objs.size + 2 →
      (∀ b o, s.heap.get? b = some o → h'.get? b = some o) → Q (.ref (s.heap.objs.size + 1)) { s with heap := h' }) :
    wpAny (model prog w) A (call (.type "enumerate") [v]) Q E s := by
  refine callType_new F.called_enumerate (by decide) (F.typeCall_enumerate_1 _) (F.newCall_enumerate_1 _) (fun obj => F.args_object_init_2 obj _) F.entry_enumerate_new
    (meets_new1 B) ⟨h1, ?_⟩
  have hz : (s.heap.push o).objs.size = s.heap.objs.size + 1 := Heap.size_push ..
  show _ ∧ _
  rw [hz]
  have he : IsEnum ((s.heap.push o).push { cls := .type "enumerate", data := .fields #[.none, .bool false, .ref s.heap.objs.size, rawInt 0, .none, .none] }) (s.heap.objs.size + 1) s.heap.objs.size 0 .none := by
    have := Heap.get?_push_size (s.heap.push o) (o := { cls := .type "enumerate", data := .fields #[.none, .bool false, .ref s.heap.objs.size, rawInt 0, .none, .none] }) rfl
    rw [hz] at this
    exact this
  exact ⟨⟨_, he, rfl⟩, h _ he (Heap.get?_push_of_some _ (Heap.get?_push_size _ B.free)) (by rw [Heap.size_push, hz]) fun b o x => Heap.get?_push_of_some _ (Heap.get?_push_of_some _ x)⟩
end
/-- the tuple at a, its items with their places in new pairs -/
def ItT (K : PySem.W.Frag) (a : Addr) : It :=
  ⟨fun i H => ∃ (xs : List V) (x : V), SqT K H a xs ∧ xs[i]? = some x, fun i H v H' => ∃ T x, v = .ref T ∧ H T = none ∧ H' = upd H T (.tup [.int (i : Nat), x]) ∧ ∀ xs, SqT K H a xs → xs[i]? = some x, fun i H => ∃ xs : List V, SqT K H a xs ∧ xs.length = i⟩
theorem ne_iter {h : Heap} {it a : Addr} {i : Nat} {its : Array Value} (h1 : h.IsTupleIter it a i) (h2 : h.IsTuple a its) : a ≠ it := fun e => by
  subst e
  obtain ⟨o, ho, hc, _⟩ := h1
  obtain ⟨o', ho', hc', _⟩ := h2
  rw [ho] at ho'
  cases ho'
  rw [hc] at hc'
  injection hc' with q
  exact absurd q (by decide)
theorem turn_T {P : Program} {w : World} {K : PySem.W.Frag} {elts : List Expr} {kk : Nat} {tpos : Pos} (a e it : Addr) (nea : e ≠ a) :
    Turn P w K (.Tuple elts kk tpos) (ItT K a) [e, it] e (fun i h => (∃ old, IsEnum h e it ((i : Nat) : Int) old) ∧ h.IsTupleIter it a i ∧ e ≠ it) where
  mem := by simp
  obj := fun i h st b hb => by
    obtain ⟨⟨old, he⟩, ⟨o, ho, hc, hd⟩, _⟩ := st
    have e' : b = e ∨ b = it := by simpa using hb
    rcases e' with z | z
    · rw [z]; exact ⟨_, he, fun v q => nomatch q⟩
    · rw [z]; exact ⟨o, ho, fun v q => by rw [hd] at q; cases q⟩
  keep := fun i h h' st k => let ⟨⟨old, he⟩, hi, hne⟩ := st; ⟨⟨old, k e (by simp) _ he⟩, hi.at fun o q => k it (by simp) o q, hne⟩
  item := by
    intro X hP hw hK hc i pins s σ H E I hf st hg
    subst hP hw hK
    obtain ⟨⟨old, he⟩, hit, hne⟩ := st
    obtain ⟨xs, x, hq, hx⟩ := hg
    obtain ⟨its, rv, p, hz⟩ := I.tuple hq
    obtain ⟨u, hu, ru⟩ := rv.get hx
    have hel : e < s.heap.objs.size := Heap.lt_size he
    have hil : it < s.heap.objs.size := by obtain ⟨_, q, _⟩ := hit; exact Heap.lt_size q
    have p' : s.heap.IsTuple a its.toArray := p
    have lt : i < its.toArray.size := by
      rw [List.size_toArray]
      exact (List.getElem?_eq_some_iff.mp hu).1
    refine wpAny_pyNext_enum_itemD (Draws.tuple (A := X.A.in1) (I.ok.hd hc) it a (ne_iter hit p') its.toArray) he ⟨hit, p'⟩ lt hne (by simp [hne, nea]) fun x' h' tk px ho st' hT hsz hk => ?_
    have ex : x' = u := by
      rw [List.getElem?_toArray, hu] at px
      exact (Option.some.inj px).symm
    subst ex
    refine ⟨_, rfl, wpAny_letOwnedTupleGo_enum (s := { s with heap := h', toks := tk + 1 }) ho fun h'' he' sb => ?_⟩
    have hT2 : h''.get? s.heap.objs.size = some { cls := .type "tuple", data := .seq #[.int i tk, x'] } := (sb.2 _ (Nat.ne_of_gt hel)).trans hT
    have new : ObjOk X.prog X.w (upd H s.heap.objs.size (.tup [.int (i : Nat), x])) h'' s.heap.objs.size (.tup [.int (i : Nat), x]) :=
      ⟨by show 2 ≤ sizeLine; decide, [.int i tk, x'], .cons ⟨_, rfl⟩ (.cons ru .nil), ⟨_, hT2, rfl, _, rfl⟩⟩
    have I1 : Inv X pins σ (upd H s.heap.objs.size (.tup [.int (i : Nat), x])) { s with heap := h'', toks := tk + 1 } :=
      I.turnedNew (ch := [e, it]) (fun b ob hb q => (sb.2 b (fun z => hb (by simp [z]))).trans (hk b ob (fun z => hb (by simp [z])) (fun z => hb (by simp [z])) q)) hf (Nat.le_refl _) new
    refine ⟨.ref s.heap.objs.size, _, I1, rfl, ⟨_, x, rfl, I.hok.fresh (Nat.le_refl _), rfl, fun ys hy => by rw [I.tuple_inj hy hq]; exact hx⟩, ⟨⟨x', ?_⟩, st'.1.at fun o q => (sb.2 it (Ne.symm hne)).trans q, hne⟩, fun b hb => ?_⟩
    · have e1 : ((i + 1 : Nat) : Int) = (i : Int) + 1 := by omega
      rw [e1]
      exact he'
    · have hb' : b < s.heap.objs.size := by
        have e' : b = e ∨ b = it := by simpa using hb
        rcases e' with z | z
        · rw [z]; exact hel
        · rw [z]; exact hil
      rw [upd_ne (Nat.ne_of_lt hb')]
      exact (hf b hb).1
  done := by
    intro X hP hw hK hc i pins s σ H E I hf st hg
    subst hP hw hK
    obtain ⟨⟨old, he⟩, hit, hne⟩ := st
    obtain ⟨xs, hq, hx⟩ := hg
    obtain ⟨its, rv, p, hz⟩ := I.tuple hq
    have p' : s.heap.IsTuple a its.toArray := p
    obtain ⟨f0, f1, f2, f3, f4, f5⟩ := hf it (by simp)
    have hl := rv.length
    have ei : i = its.toArray.size := by rw [List.size_toArray]; omega
    exact wpAny_pyNext_enum_endD (Draws.tuple (A := X.A.in1) (I.ok.hd hc) it a (ne_iter hit p') its.toArray) he (by rw [← ei]; exact ⟨hit, p'⟩) fun h' eb => ⟨rfl, I.turned (t' := s.toks) (fun b o hb q => eb b o hb q) f0 f1 f3 f4 f5⟩
  self := fun A i s Q E st h => let ⟨⟨_, he⟩, _⟩ := st; wpAny_pyIter_enum he h
def iEnT (K : PySem.W.Frag) (ta : TA) : TI := fun σ H R => ta σ H fun vs H1 => ∃ a xs, vs = [.ref a] ∧ SqT K H1 a xs ∧ R (ItT K a) H1
theorem pi_enT {X : Cx} {e : Expr} {ta : TA} {p pos tpos : Pos} {elts : List Expr} {kk : Nat} (hg : Gl X "enumerate") (hm : X.mg "enumerate" = none) (ha : PA X [e] ta) (hs : starEach [e] X.env = [(false, eval e X.env)] := by rfl) :
    PI X (.Tuple elts kk tpos) (.Call (.Name "enumerate" p) [e] [] pos) (iEnT X.K ta) := by
  refine ⟨fun pins s σ H R I h => ?_⟩
  refine Call_ (ld_blt I hg hm boot_enumerate (PyProof.Rows.callWith_type1 (thn (ha.run pos pins s σ H _ I h) fun us s1 ⟨vs, H1, I1, r1, q1⟩ => ?_) hs rfl))
  obtain ⟨a, xs, ex, hq, q⟩ := q1
  subst ex
  cases r1 with
  | cons r rr =>
    cases rr
    cases r
    obtain ⟨its, rv, p', hz⟩ := I1.tuple hq
    have p2 : s1.heap.IsTuple a its.toArray := p'
    have al : a < s1.heap.objs.size := by
      obtain ⟨_, h0, _⟩ := p2
      exact Heap.lt_size h0
    refine begins1 (begins_tuple a its.toArray) p2 fun h' he hit hsz hk => wpAny_pyIter_enum he ?_
    have I2 : Inv X pins σ H1 { s1 with heap := h' } := I1.kept (t' := s1.toks) hk
    refine ⟨s1.heap.objs.size + 1, [s1.heap.objs.size + 1, s1.heap.objs.size], _, _, H1, rfl, I2, turn_T a (s1.heap.objs.size + 1) s1.heap.objs.size (fun z => absurd (z ▸ al) (Nat.not_lt.mpr (Nat.le_succ _))), ⟨⟨.none, he⟩, ⟨_, hit, rfl, rfl⟩, Nat.succ_ne_self _⟩, fun b hb => ?_, q⟩
    have e' : b = s1.heap.objs.size + 1 ∨ b = s1.heap.objs.size := by simpa using hb
    have hle : s1.heap.objs.size ≤ b := by
      rcases e' with z | z
      · rw [z]; exact Nat.le_add_right _ _
      · rw [z]; exact Nat.le_refl _
    exact I1.fpOk hle (I1.hok.fresh hle)
theorem walk_T {K : PySem.W.Frag} {a : Addr} {xs : List V} : Walk (ItT K a) xs.length (fun H => SqT K H a xs) (YPair (fun i => some (.int (i : Nat))) (fun i => xs[i]?)) := by
  refine ⟨fun i _ hi q => ⟨xs, xs[i], q, by simp [hi]⟩, fun _ q => ⟨xs, q, rfl⟩, fun i H v H' _ q y => ?_⟩
  obtain ⟨T, x, h1, h2, h3, h4⟩ := y
  exact ⟨T, .int (i : Nat), x, h1, h2, h3, rfl, h4 xs q⟩
end EN
/-! zip(text, text) -/
namespace ZX
open PySem PySem.Spec PyProof.Rows L2
/-- the signs of two texts, side by side, in new pairs -/
def Itx (x y : Str) : It :=
  ⟨fun i _ => i < x.cps.size ∧ i < y.cps.size,
    fun i H v H' => ∃ (T : Addr) (c d : Nat), v = .ref T ∧ H T = none ∧ H' = upd H T (.tup [.str ⟨#[c]⟩, .str ⟨#[d]⟩]) ∧ x.cps[i]? = some c ∧ y.cps[i]? = some d,
    fun i _ => i = min x.cps.size y.cps.size⟩
theorem turn_zipX {P : Program} {w : World} {K : PySem.W.Frag} {elts : List Expr} {kk : Nat} {tpos : Pos} {x y : Str} {t u : Tok} {z TI TO i1 i2 : Addr} (S : ZipSep2 z TI TO i1 i2 [i1] [i2]) :
    Turn P w K (.Tuple elts kk tpos) (Itx x y) [z, TI, TO, i1, i2] z (fun i h => IsZip h z TI TO .none ∧ IsTupOf2 h TI (.ref i1) (.ref i2) ∧ (∃ a b, IsTupOf2 h TO a b) ∧ h.IsStrIter i1 (strIterType x) x t i ∧ h.IsStrIter i2 (strIterType y) y u i) where
  mem := by simp
  obj := fun i h st c hc => by
    obtain ⟨hz, hTI, ⟨a, b, hTO⟩, ⟨o1, e1, _, d1⟩, ⟨o2, e2, _, d2⟩⟩ := st
    have e' : c = z ∨ c = TI ∨ c = TO ∨ c = i1 ∨ c = i2 := by simpa using hc
    rcases e' with q | q | q | q | q
    · rw [q]; exact ⟨_, hz, fun v q => nomatch q⟩
    · rw [q]; exact ⟨_, hTI, fun v q => nomatch q⟩
    · rw [q]; exact ⟨_, hTO, fun v q => nomatch q⟩
    · rw [q]; exact ⟨o1, e1, fun v q => by rw [d1] at q; cases q⟩
    · rw [q]; exact ⟨o2, e2, fun v q => by rw [d2] at q; cases q⟩
  keep := fun i h h' st k => by
    obtain ⟨hz, hTI, ⟨a, b, hTO⟩, ⟨o1, e1, r1⟩, ⟨o2, e2, r2⟩⟩ := st
    exact ⟨k z (by simp) _ hz, k TI (by simp) _ hTI, ⟨a, b, k TO (by simp) _ hTO⟩, ⟨o1, k i1 (by simp) _ e1, r1⟩, ⟨o2, k i2 (by simp) _ e2, r2⟩⟩
  item := by
    intro X hP hw hK hc i pins s σ H E I hf st hg
    subst hP hw hK
    obtain ⟨hz, hTI, ⟨a0, b0, hTO⟩, h1, h2⟩ := st
    have hzl : z < s.heap.objs.size := Heap.lt_size hz
    refine wpAny_pyNext_zipD2_item S (Draws.text (A := X.A.in1) (I.ok.hd hc) i1 x t) (Draws.text (A := X.A.in1) (I.ok.hd hc) i2 y u) hz hTI hTO h1 h2 hg.1 hg.2 fun v1 v2 h' tk p1 p2 z' TO' h1' h2' hT hsz hk => ?_
    obtain ⟨c, tc, hc1, rfl⟩ := p1
    obtain ⟨d, td, hd1, rfl⟩ := p2
    refine ⟨_, rfl, wpAny_letOwnedTupleGo_zip (s := { s with heap := h', toks := tk }) z' fun h'' z'' sb => ?_⟩
    have hT2 : h''.get? s.heap.objs.size = some { cls := .type "tuple", data := .seq #[.str ⟨#[c]⟩ tc, .str ⟨#[d]⟩ td] } := (sb.2 _ (Nat.ne_of_gt hzl)).trans hT
    have new : ObjOk X.prog X.w (upd H s.heap.objs.size (.tup [.str ⟨#[c]⟩, .str ⟨#[d]⟩])) h'' s.heap.objs.size (.tup [.str ⟨#[c]⟩, .str ⟨#[d]⟩]) :=
      ⟨by show 2 ≤ sizeLine; decide, [.str ⟨#[c]⟩ tc, .str ⟨#[d]⟩ td], .cons ⟨_, rfl⟩ (.cons ⟨_, rfl⟩ .nil), ⟨_, hT2, rfl, _, rfl⟩⟩
    have I1 : Inv X pins σ (upd H s.heap.objs.size (.tup [.str ⟨#[c]⟩, .str ⟨#[d]⟩])) { s with heap := h'', toks := tk } :=
      I.turnedNew (t' := tk) (ch := [z, TI, TO, i1, i2]) (fun c o hb q => (sb.2 c (fun q' => hb (by simp [q']))).trans (hk c o (fun q' => hb (by simp [q'])) (fun q' => hb (by simp [q'])) (fun q' => hb (by simp [q'])) (fun q' => hb (by simp [q'])) q)) hf (Nat.le_refl _) new
    have st' : ∀ {a : Addr} {ty : String} {v : Str} {tv : Tok} {n : Nat}, a ≠ z → h'.IsStrIter a ty v tv n → h''.IsStrIter a ty v tv n := fun n ⟨o, e, r⟩ => ⟨o, (sb.2 _ n).trans e, r⟩
    refine ⟨.ref s.heap.objs.size, _, I1, rfl, ⟨_, c, d, rfl, I.hok.fresh (Nat.le_refl _), rfl, hc1, hd1⟩, ⟨z'', ?_, ⟨.str ⟨#[c]⟩ tc, .str ⟨#[d]⟩ td, ?_⟩, st' S.zi1.symm h1', st' S.zi2.symm h2'⟩, fun b hb => ?_⟩
    · exact (sb.2 _ S.TIz).trans (hk _ _ S.TIz S.TITO S.TIi1 S.TIi2 hTI)
    · exact (sb.2 _ S.TOz).trans TO'
    · have hlt : b < s.heap.objs.size := by
        have e' : b = z ∨ b = TI ∨ b = TO ∨ b = i1 ∨ b = i2 := by simpa using hb
        rcases e' with q | q | q | q | q
        · rw [q]; exact hzl
        · rw [q]; exact Heap.lt_size hTI
        · rw [q]; exact Heap.lt_size hTO
        · rw [q]; obtain ⟨_, e1, _⟩ := h1; exact Heap.lt_size e1
        · rw [q]; obtain ⟨_, e2, _⟩ := h2; exact Heap.lt_size e2
      rw [upd_ne (Nat.ne_of_lt hlt)]
      exact (hf b hb).1
  done := by
    intro X hP hw hK hc i pins s σ H E I hf st hg
    subst hP hw hK
    obtain ⟨hz, hTI, ⟨a0, b0, hTO⟩, h1, h2⟩ := st
    have hg' : i = min x.cps.size y.cps.size := hg
    exact wpAny_pyNext_zipD2_end S (Draws.text (A := X.A.in1) (I.ok.hd hc) i1 x t) (Draws.text (A := X.A.in1) (I.ok.hd hc) i2 y u) hz hTI hTO h1 h2 (by omega) (by omega) (by omega) fun h' tk hk => ⟨rfl, I.turnedL (t' := tk) (ch := [z, TI, TO, i1, i2]) (fun c o hb q =>
      hk c o (fun q' => hb (by simp [q'])) (fun q' => hb (by simp [q'])) (fun q' => hb (by simp [q'])) (fun q' => hb (by simp [q'])) q) hf⟩
  self := fun A i s Q E st h => wpAny_pyIter_zip st.1 h
theorem sep_new (n : Addr) : ZipSep2 (n + 4) (n + 2) (n + 3) n (n + 1) [n] [n + 1] := by
  constructor <;> simp <;> omega
def iZipX (ta : TA) : TI := fun σ H R => ta σ H fun vs H1 => ∃ x y : Str, vs = [.str x, .str y] ∧ R (Itx x y) H1
theorem pi_zipX {X : Cx} {e e2 : Expr} {ta : TA} {p pos tpos : Pos} {elts : List Expr} {kk : Nat} (hg : Gl X "zip") (hm : X.mg "zip" = none) (ha : PA X [e, e2] ta)
    (hs : starEach [e, e2] X.env = (false, eval e X.env) :: starEach [e2] X.env := by rfl) (hpl : (backTo pos (starEach [e2] X.env)).any (·.1) = false := by rfl) :
    PI X (.Tuple elts kk tpos) (.Call (.Name "zip" p) [e, e2] [] pos) (iZipX ta) := by
  refine ⟨fun pins s σ H R I h => ?_⟩
  refine Call_ (ld_blt I hg hm PyProof.Rows.boot_zip (PyProof.Rows.callWith_type1 (thn (ha.run pos pins s σ H _ I h) fun us s1 ⟨vs, H1, I1, r1, q1⟩ => ?_) hs hpl))
  obtain ⟨x, y, ex, q⟩ := q1
  subst ex
  cases r1 with
  | cons r rr =>
    cases rr with
    | cons r' rr =>
      cases rr
      obtain ⟨t, rfl⟩ := r
      obtain ⟨u, rfl⟩ := r'
      refine zip_begins2 (begins_text x t) (begins_text y u) trivial trivial fun h' hz hTI hTO h1 h2 hsz hk => wpAny_pyIter_zip hz ?_
      have I2 : Inv X pins σ H1 { s1 with heap := h' } := I1.kept (t' := s1.toks) hk
      refine ⟨s1.heap.objs.size + 4, [s1.heap.objs.size + 4, s1.heap.objs.size + 2, s1.heap.objs.size + 3, s1.heap.objs.size, s1.heap.objs.size + 1], _, _, H1, rfl, I2, turn_zipX (sep_new s1.heap.objs.size), ⟨hz, hTI, ⟨_, _, hTO⟩, ⟨_, h1, rfl, rfl⟩, ⟨_, h2, rfl, rfl⟩⟩, fun c hcm => ?_, q⟩
      have e' : c = s1.heap.objs.size + 4 ∨ c = s1.heap.objs.size + 2 ∨ c = s1.heap.objs.size + 3 ∨ c = s1.heap.objs.size ∨ c = s1.heap.objs.size + 1 := by simpa using hcm
      have hle : s1.heap.objs.size ≤ c := by
        rcases e' with z | z | z | z | z
        · rw [z]; exact Nat.le_add_right _ _
        · rw [z]; exact Nat.le_add_right _ _
        · rw [z]; exact Nat.le_add_right _ _
        · rw [z]; exact Nat.le_refl _
        · rw [z]; exact Nat.le_add_right _ _
      exact I1.fpOk hle (I1.hok.fresh hle)
theorem walk_zipX {x y : Str} : Walk (Itx x y) (min x.cps.size y.cps.size) (fun _ => True) (Itx x y).yld :=
  ⟨fun i _ hi _ => ⟨by omega, by omega⟩, fun _ _ => rfl, fun _ _ _ _ _ _ y => y⟩
end ZX
/-! dicts whose keys are tuples at any depth (to eight): of numbers, texts, None and such tuples -/
namespace ND
open PySem PySem.Spec PyProof.Rows L2
set_option autoImplicit false
/-! ### keys -/
mutual
inductive NK (K : PySem.W.Frag) (H : Hp) : NestedKey → V → Prop
  | none : NK K H .none .non
  | num (i : Int) : NK K H (.num i) (.int i)
  | text (x : Str) : NK K H (.text x) (.str x)
  | tup {a : Addr} {vs : List V} {ks : List NestedKey} : SqT K H a vs → NKs K H ks vs → NK K H (.tup ks) (.ref a)
inductive NKs (K : PySem.W.Frag) (H : Hp) : List NestedKey → List V → Prop
  | nil : NKs K H [] []
  | cons {k : NestedKey} {v : V} {ks : List NestedKey} {vs : List V} : NK K H k v → NKs K H ks vs → NKs K H (k :: ks) (v :: vs)
end
mutual
theorem NK.mono {K : PySem.W.Frag} {H H' : Hp} (m : ∀ b xs, SqT K H b xs → SqT K H' b xs) : ∀ (k : NestedKey) (v : V), NK K H k v → NK K H' k v
  | .none, _, h => by cases h; exact .none
  | .num i, _, h => by cases h; exact .num i
  | .text x, _, h => by cases h; exact .text x
  | .tup ks, _, h => by
    cases h with
    | tup q r => exact .tup (m _ _ q) (NKs.mono m ks _ r)
theorem NKs.mono {K : PySem.W.Frag} {H H' : Hp} (m : ∀ b xs, SqT K H b xs → SqT K H' b xs) : ∀ (ks : List NestedKey) (vs : List V), NKs K H ks vs → NKs K H' ks vs
  | [], _, h => by cases h; exact .nil
  | k :: ks, _, h => by
    cases h with
    | cons a r => exact .cons (NK.mono m k _ a) (NKs.mono m ks _ r)
end
section
variable {X : Cx} {pins : List (Addr × Obj)} {σ : L2.St} {H : Hp} {s : Shared}
mutual
theorem nk_is (I : Inv X pins σ H s) : ∀ (k : NestedKey) (v : V) (u : Value), NK X.K H k v → RelV v u → NestedIs s.heap k u
  | .none, _, u, h, r => by
    cases h
    obtain rfl : u = Value.none := r
    exact .none
  | .num i, _, u, h, r => by
    cases h
    obtain ⟨t, rfl⟩ : ∃ t, u = Value.int i t := r
    exact .int i t
  | .text x, _, u, h, r => by
    cases h
    obtain ⟨t, rfl⟩ : ∃ t, u = Value.str x t := r
    exact .text x t
  | .tup ks, _, u, h, r => by
    cases h with
    | @tup a vs _ q rest =>
      obtain rfl : u = Value.ref a := r
      obtain ⟨its, rv, ⟨o, ho, hc, n, hd⟩, _⟩ := I.tuple q
      exact .tup ho hc hd (by simpa using nks_is I ks vs its rest rv)
theorem nks_is (I : Inv X pins σ H s) : ∀ (ks : List NestedKey) (vs : List V) (us : List Value), NKs X.K H ks vs → Vals vs us → NestedAll s.heap ks us
  | [], _, us, h, r => by
    cases h
    cases r
    exact .nil
  | k :: ks, _, us, h, r => by
    cases h with
    | cons a rest =>
      cases r with
      | cons ra rr => exact .cons (nk_is I k _ _ a ra) (nks_is I ks _ _ rest rr)
end
end
/-! ### the dict -/
abbrev Ent : Type := NestedKey × Addr × V
abbrev Raw : Type := NestedKey × Addr × Value
def KN : List Ent → List Raw → Prop := Paired fun (p : Ent) (q : Raw) => p.1 = q.1 ∧ p.2.1 = q.2.1 ∧ RelV p.2.2 q.2.2
def DO (P : Program) (w : World) (d : Addr) (kvs : List Ent) : HO := .ext fun h => (d == sysModules) = false ∧ kvs.length ≤ sizeLine ∧ ∃ xs : List Raw, KN kvs xs ∧
  ∃ (o : Obj) (es : Array DictEntry) (ep : Nat), h.get? d = some o ∧ o.ExactDict ∧ o.data = .dict es ep ∧ es.toList = xs.map (entryOfKey (nestedKind P w)) ∧ (xs.map (·.1)).Nodup
def KOks (K : PySem.W.Frag) (H : Hp) (kvs : List Ent) : Prop := ∀ p ∈ kvs, NK K H p.1 (.ref p.2.1) ∧ p.1.depth ≤ 8
theorem KOks.mono {K : PySem.W.Frag} {H H' : Hp} {kvs : List Ent} (h : KOks K H kvs) (m : ∀ b xs, SqT K H b xs → SqT K H' b xs) : KOks K H' kvs := fun p hp => ⟨NK.mono m _ _ (h p hp).1, (h p hp).2⟩
def valN (kvs : List Ent) (k : NestedKey) : Option V := (kvs.find? fun p => decide (p.1 = k)).map (·.2.2)
def setN (k : NestedKey) (v : V) (p : Ent) : Ent := if p.1 = k then (p.1, p.2.1, v) else p
def putN (kvs : List Ent) (k : NestedKey) (b : Addr) (v : V) : List Ent := if (valN kvs k).isSome = true then kvs.map (setN k v) else kvs ++ [(k, b, v)]
theorem KN.len : ∀ {kvs : List Ent} {xs : List Raw}, KN kvs xs → kvs.length = xs.length
  | _, _, .nil => rfl
  | _, _, .cons _ r => by rw [List.length_cons, List.length_cons, KN.len r]
theorem KN.val {k : NestedKey} : ∀ {kvs : List Ent} {xs : List Raw}, KN kvs xs → RelO (valN kvs k) ((atKey xs k).map (·.2))
  | _, _, .nil => by exact True.intro
  | _, _, @Paired.cons _ _ _ p q ps qs h r => by
    have ih := KN.val (k := k) r
    unfold valN atKey at ih ⊢
    by_cases c : p.1 = k
    · rw [List.find?_cons_of_pos (by exact decide_eq_true c), List.find?_cons_of_pos (by rw [← h.1]; exact decide_eq_true c)]
      exact h.2.2
    · rw [List.find?_cons_of_neg (by simpa using c), List.find?_cons_of_neg (by rw [← h.1]; simpa using c)]
      exact ih
theorem KN.rep {k : NestedKey} {v : V} {r : Value} (rv : RelV v r) : ∀ {kvs : List Ent} {xs : List Raw}, KN kvs xs → KN (kvs.map (setN k v)) (xs.map (putAt k r))
  | _, _, .nil => .nil
  | _, _, @Paired.cons _ _ _ p q ps qs h t => by
    refine .cons ?_ (KN.rep rv t)
    unfold setN putAt
    by_cases c : p.1 = k
    · rw [if_pos c, if_pos (by rw [← h.1]; exact c)]
      exact ⟨h.1, h.2.1, rv⟩
    · rw [if_neg c, if_neg (by rw [← h.1]; exact c)]
      exact h
theorem KN.snoc {p : Ent} {q : Raw} (h : p.1 = q.1 ∧ p.2.1 = q.2.1 ∧ RelV p.2.2 q.2.2) : ∀ {kvs : List Ent} {xs : List Raw}, KN kvs xs → KN (kvs ++ [p]) (xs ++ [q])
  | _, _, .nil => .cons h .nil
  | _, _, .cons a r => .cons a (KN.snoc h r)
theorem KN.put {k : NestedKey} {b : Addr} {v : V} {r : Value} (rv : RelV v r) {kvs : List Ent} {xs : List Raw} (h : KN kvs xs) : KN (putN kvs k b v) (storedH xs k b r) := by
  have e := (KN.val (k := k) h).isSome_eq
  rw [Option.isSome_map] at e
  unfold putN storedH
  rw [e]
  by_cases q : (atKey xs k).isSome = true
  · rw [if_pos q, if_pos q]
    exact h.rep rv
  · rw [if_neg q, if_neg q]
    exact h.snoc ⟨rfl, rfl, rv⟩
theorem putN_len (kvs : List Ent) (k : NestedKey) (b : Addr) (v : V) : (putN kvs k b v).length ≤ kvs.length + 1 := by
  unfold putN
  split
  · rw [List.length_map]
    omega
  · rw [List.length_append]
    exact Nat.le_refl _
theorem putN_ok {K : PySem.W.Frag} {H : Hp} {kvs : List Ent} {k : NestedKey} {b : Addr} {v : V} (h : KOks K H kvs) (hk : NK K H k (.ref b)) (hd : k.depth ≤ 8) : KOks K H (putN kvs k b v) := by
  unfold putN
  split
  · intro p hp
    obtain ⟨q, hq, rfl⟩ := List.mem_map.mp hp
    unfold setN
    split
    · exact h q hq
    · exact h q hq
  · intro p hp
    rcases List.mem_append.mp hp with q | q
    · exact h p q
    · rw [List.mem_singleton.mp q]
      exact ⟨hk, hd⟩
theorem do_new {P : Program} {w : World} {H : Hp} {h : Heap} {d : Addr} {kvs : List Ent} {xs : List Raw} (hs : (d == sysModules) = false) (hl : kvs.length ≤ sizeLine) (r : KN kvs xs) (dd : h.DictOfH (nestedKind P w) d xs) : ObjOk P w H h d (DO P w d kvs) := by
  obtain ⟨o, es, ep, h1, h2, h3, h4, _, h5⟩ := dd
  refine ⟨⟨hs, hl, xs, r, o, es, ep, h1, h2, h3, h4, h5⟩, ⟨o, h1⟩, ?_⟩
  rintro g1 g2 ⟨hs, hl, xs, r, o, es, ep, h1, h2⟩ kk
  exact ⟨hs, hl, xs, r, o, es, ep, kk o h1, h2⟩
section
variable {X : Cx} {pins : List (Addr × Obj)} {σ : L2.St} {H : Hp} {s : Shared} {d b : Addr} {kvs : List Ent} {k : NestedKey} {A : Around} {E : Value → Shared → Prop}
theorem do_at (I : Inv X pins σ H s) (e : Rd H d (DO X.prog X.w d kvs)) (ko : KOks X.K H kvs) : (d == sysModules) = false ∧ kvs.length ≤ sizeLine ∧ ∃ xs : List Raw, KN kvs xs ∧ s.heap.DictOfH (nestedKind X.prog X.w) d xs := by
  obtain ⟨⟨hs, hl, xs, r, o, es, ep, h1, h2, h3, h4, h5⟩, _, _⟩ := e.ok I.hok
  refine ⟨hs, hl, xs, r, o, es, ep, h1, h2, h3, h4, ?_, h5⟩
  have all : ∀ {l : List Ent} {m : List Raw}, KN l m → KOks X.K H l → ∀ x ∈ m, (nestedKind X.prog X.w).is s.heap x.1 x.2.1 := by
    intro l m q
    induction q with
    | nil => intro _ x hx; exact nomatch hx
    | @cons p q ps qs hq t ih =>
      intro ok x hx
      rcases List.mem_cons.mp hx with z | z
      · subst z
        obtain ⟨h1, h2⟩ := ok p List.mem_cons_self
        refine ⟨?_, by rw [← hq.1]; exact h2⟩
        rw [← hq.1, ← hq.2.1]
        exact nk_is I _ _ _ h1 rfl
      · exact ih (fun p hp => ok p (List.mem_cons_of_mem _ hp)) x z
  exact all r ko
theorem key_at (I : Inv X pins σ H s) (hk : NK X.K H k (.ref b)) (hd : k.depth ≤ 8) : (nestedKind X.prog X.w).is s.heap k b := ⟨nk_is I _ _ _ hk rfl, hd⟩
theorem room_at (hu : A.units + 9 < cLine) : (nestedKind X.prog X.w).room A.in1 := by
  show A.in1.units + 8 < cLine
  have : A.in1.units ≤ A.units + 1 := by first | exact Nat.le_refl _ | (unfold Around.in1; simp)
  omega
end
/-! ### rules -/
/-- {} -/
def tNewN (P : Program) (w : World) : TE := fun _ H Q => ∀ p, H p = none → Q (.ref p) (upd H p (DO P w p []))
theorem pe_dnewN {X : Cx} {pos : Pos} : PE X (.Dict [] [] pos) (tNewN X.prog X.w) := ⟨fun pins s σ H Q I h => by
  refine wpAny_Dict_empty ⟨.ref s.heap.objs.size, upd H s.heap.objs.size (DO X.prog X.w s.heap.objs.size []), ?_, rfl, h _ (I.hok.fresh (Nat.le_refl _))⟩
  refine I.laid (t' := s.toks) (fun _ _ q => Heap.get?_push_of_some _ q) (Nat.le_refl _) ?_
  exact do_new (xs := []) (beq_eq_false_iff_ne.mpr (Ne.symm (Nat.ne_of_lt I.big))) (Nat.zero_le _) .nil (Heap.DictOfH.new s.heap)⟩
/-- what is asked of a dict and a key -/
structure At (X : Cx) (H : Hp) (d b : Addr) (kvs : List Ent) (k : NestedKey) : Prop where
  dic : Rd H d (DO X.prog X.w d kvs)
  oks : KOks X.K H kvs
  key : NK X.K H k (.ref b)
  dep : k.depth ≤ 8
section
variable {X : Cx} {o i value e f : Expr} {td ty tv tx : TE} {pos pos' apos cpos : Pos}
def tGetN (X : Cx) (td ty : TE) : TE := fun σ H Q => td σ H fun x H1 => ty σ H1 fun y H2 => ∃ (d b : Addr) (kvs : List Ent) (k : NestedKey) (v : V), x = .ref d ∧ y = .ref b ∧ At X H2 d b kvs k ∧ valN kvs k = some v ∧ Q v H2
theorem pe_dgetN (hu : X.A.units + 9 < cLine) (ho : PE X o td) (hi : PE X i ty) (hs : NoSl i) : PE X (.Subscript o i pos) (tGetN X td ty) := by
  refine ⟨fun pins s σ H Q I h => ?_⟩
  refine subD_of PySem.F.slot_dict_getitem.lookup hs (thn (ho.run pins s σ H _ I h) fun u s1 ⟨x, H1, I1, rx, q1⟩ => thn (hi.run pins s1 σ H1 _ I1 q1) fun iv s2 ⟨y, H2, I2, ry, d, b, kvs, k, v, ex, ey, g, hv, q2⟩ => ?_)
  subst ex ey
  obtain rfl : u = Value.ref d := rx
  obtain rfl : iv = Value.ref b := ry
  obtain ⟨_, _, xs, r, dd⟩ := do_at I2 g.dic g.oks
  obtain ⟨w', hw, rw'⟩ := RelO.some_of (v := v) (o := (atKey xs k).map (·.2)) (by rw [← hv]; exact r.val)
  obtain ⟨p, hp, hp2⟩ := Option.map_eq_some_iff.mp hw
  refine ⟨dd.typeIs, wpAny_getItem_heap (room_at hu) (key_at I2 g.key g.dep) dd hp ?_⟩
  rw [hp2]
  exact ⟨v, H2, I2.tok _, rw', q2⟩
def rInN (X : Cx) (neg : Bool) : R2 := fun y x H Q => ∃ (d b : Addr) (kvs : List Ent) (k : NestedKey), x = .ref d ∧ y = .ref b ∧ At X H d b kvs k ∧ Q (.bl (if neg = true then !(valN kvs k).isSome else (valN kvs k).isSome)) H
theorem op_inN (hu : X.A.units + 9 < cLine) : OpR X (compareOp .In) (rInN X false) := by
  intro pins s σ H y x iv u Q I ry rx h
  obtain ⟨d, b, kvs, k, ex, ey, g, q⟩ := h
  subst ex ey
  obtain rfl : u = Value.ref d := rx
  obtain rfl : iv = Value.ref b := ry
  obtain ⟨hs, _, xs, r, dd⟩ := do_at I g.dic g.oks
  refine wpAny_in_heap (room_at hu) (key_at I g.key g.dep) hs dd ?_
  have z := (KN.val (k := k) r).isSome_eq
  rw [Option.isSome_map] at z
  exact ⟨.bl (valN kvs k).isSome, H, I.tok _, by rw [z]; rfl, q⟩
theorem op_notInN (hu : X.A.units + 9 < cLine) : OpR X (compareOp .NotIn) (rInN X true) := by
  intro pins s σ H y x iv u Q I ry rx h
  obtain ⟨d, b, kvs, k, ex, ey, g, q⟩ := h
  subst ex ey
  obtain rfl : u = Value.ref d := rx
  obtain rfl : iv = Value.ref b := ry
  obtain ⟨hs, _, xs, r, dd⟩ := do_at I g.dic g.oks
  refine wpAny_notIn_heap (room_at hu) (key_at I g.key g.dep) hs dd ?_
  have z := (KN.val (k := k) r).isSome_eq
  rw [Option.isSome_map] at z
  exact ⟨.bl (!(valN kvs k).isSome), H, I.tok _, by rw [z]; rfl, q⟩
def sPutN (X : Cx) (td ty tv : TE) : TS := fun D σ H => tv σ H fun v H1 => td σ H1 fun x H2 => ty σ H2 fun y H3 => ∃ (d b : Addr) (kvs : List Ent) (k : NestedKey), x = .ref d ∧ y = .ref b ∧ H3 d = some (DO X.prog X.w d kvs) ∧ KOks X.K H3 kvs ∧ NK X.K H3 k (.ref b) ∧ k.depth ≤ 8 ∧ kvs.length < sizeLine ∧
  D.nx σ (upd H3 d (DO X.prog X.w d (putN kvs k b v)))
theorem ps_dputN (hu : X.A.units + 9 < cLine) (ho : PE X o td) (hi : PE X i ty) (hv : PE X value tv) (hs : swapsWith value (some (.Subscript o i pos')) pos.line X.env = pure false) : PS X (.Assign [.Subscript o i pos'] value pos) (sPutN X td ty tv) := by
  refine ⟨fun pins s σ H D I h => ?_⟩
  refine wpAny_Assign_Subscript (thn (hv.run pins s σ H _ I h) fun r s1 ⟨v, H1, I1, rv, q1⟩ => thn (ho.run pins s1 σ H1 _ I1 q1) fun u s2 ⟨x, H2, I2, rx, q2⟩ => thn (hi.run pins s2 σ H2 _ I2 q2) fun iv s3 ⟨y, H3, I3, ry, d, b, kvs, k, ex, ey, hd, ok, hk, dp, hl, q3⟩ => ?_) hs
  subst ex ey
  obtain rfl : u = Value.ref d := rx
  obtain rfl : iv = Value.ref b := ry
  obtain ⟨h1, _, xs, rel, dd⟩ := do_at I3 (.inl hd) ok
  have hz : xs.length ≤ sizeLine := by
    rw [← rel.len]
    omega
  refine wpAny_setItem_heap (hsz := hz) (room_at hu) (key_at I3 hk dp) dd fun h' dd' same => ⟨σ, _, ?_, q3⟩
  have pl := putN_len kvs k b v
  have he : ∃ q, h'.get? d = some q := by
    obtain ⟨q, _, _, hq, _⟩ := dd'
    exact ⟨q, hq⟩
  exact d_write I3 (by rw [hd]; exact True.intro) same he (do_new h1 (by omega) (rel.put rv) dd')
def tSetdN (X : Cx) (td ty tx : TE) : TE := fun σ H Q => td σ H fun x H1 => ∃ d kvs0, x = .ref d ∧ H1 d = some (DO X.prog X.w d kvs0) ∧ KOks X.K H1 kvs0 ∧ ty σ H1 fun y H2 => tx σ H2 fun z H3 => ∃ (b : Addr) (kvs : List Ent) (k : NestedKey), y = .ref b ∧
  H3 d = some (DO X.prog X.w d kvs) ∧ KOks X.K H3 kvs ∧ NK X.K H3 k (.ref b) ∧ k.depth ≤ 8 ∧ kvs.length < sizeLine ∧ (∀ v, valN kvs k = some v → Q v H3) ∧ (valN kvs k = none → Q z (upd H3 d (DO X.prog X.w d (putN kvs k b z))))
theorem pe_dsetdN (hu : X.A.units + 9 < cLine) (ho : PE X o td) (he : PE X e ty) (hf : PE X f tx) (m : M2 X o "setdefault" apos e f cpos) : PE X (.Call (.Attribute o "setdefault" apos) [e, f] [] cpos) (tSetdN X td ty tx) := by
  refine ⟨fun pins s σ H Q I h => ?_⟩
  refine wpAny_Call_method m.base m.few m.line PySem.F.plainAttrs_dict PySem.F.slot_dict_setdefault PySem.F.type_dict_setdefault (thn (ho.run pins s σ H _ I h) fun u s1 ⟨x, H1, I1, rx, d, kvs0, ex, hd0, ok0, q1⟩ => ?_)
  subst ex
  obtain rfl : u = Value.ref d := rx
  obtain ⟨_, _, xs0, _, dd0⟩ := do_at I1 (.inl hd0) ok0
  refine ⟨dd0.typeIs, fun b0 q => ?_, ?_⟩
  · cases q
    obtain ⟨o0, _, _, z1, z2, _⟩ := dd0
    exact ⟨o0, z1, z2.2.1⟩
  rw [m.trees]
  refine Calls.callWith_builtin rfl (Calls.evalArgs_plain (Calls.spliced_cons (thn (he.run pins s1 σ H1 _ I1 q1) fun iv s2 ⟨y, H2, I2, ry, q2⟩ =>
    Calls.spliced_cons (thn (hf.run pins s2 σ H2 _ I2 q2) fun fv s3 ⟨z, H3, I3, rz, b, kvs, k, ey, hd, ok, hk, dp, hl, q3, q4⟩ => Calls.spliced_nil ?_))))
  subst ey
  obtain rfl : iv = Value.ref b := ry
  obtain ⟨h1, _, xs, rel, dd⟩ := do_at I3 (.inl hd) ok
  have hz : xs.length ≤ sizeLine := by
    rw [← rel.len]
    omega
  have rv := KN.val (k := k) rel
  refine call_setdefault_heap (hsz := hz) (room_at hu) (key_at I3 hk dp) h1 dd (fun p hp => ?_) fun hn h' dd' same => ?_
  · rw [hp] at rv
    cases hval : valN kvs k with
    | none => rw [hval] at rv; exact rv.elim
    | some v =>
      rw [hval] at rv
      exact ⟨v, H3, I3.tok _, rv, q3 v hval⟩
  · have hval : valN kvs k = none := by
      rw [hn] at rv
      cases hval : valN kvs k with
      | none => rfl
      | some v => rw [hval] at rv; exact rv.elim
    have pl := putN_len kvs k b z
    have he : ∃ q, h'.get? d = some q := by
      obtain ⟨q, _, _, hq, _⟩ := dd'
      exact ⟨q, hq⟩
    exact ⟨z, _, d_write I3 (by rw [hd]; exact True.intro) same he (do_new h1 (by omega) (rel.put rz) dd'), rz, q4 hval⟩
end
end ND
namespace ND
open PySem PySem.Spec PyProof.Rows L2
set_option autoImplicit false
/-! ### walking over the keys -/
/-- the keys of the locked dict, in their order: each its own tuple -/
def ItN (P : Program) (w : World) (d : Addr) (ob : Obj) (kvs : List Ent) : L2.It :=
  ⟨fun n H => H d = some (.frz ob (DO P w d kvs)) ∧ n < kvs.length, fun n H x H' => H' = H ∧ ∃ p, kvs[n]? = some p ∧ x = .ref p.2.1, fun n H => H d = some (.frz ob (DO P w d kvs)) ∧ kvs.length ≤ n⟩
theorem KN.get : ∀ {kvs : List Ent} {xs : List Raw}, KN kvs xs → ∀ (n : Nat) (p : Ent), kvs[n]? = some p → ∃ q, xs[n]? = some q ∧ p.1 = q.1 ∧ p.2.1 = q.2.1 ∧ RelV p.2.2 q.2.2
  | _, _, .nil, n, p, h => by simp at h
  | _, _, .cons a r, 0, p, h => by
    have e := Option.some.inj h
    subst e
    exact ⟨_, rfl, a⟩
  | _, _, .cons a r, n + 1, p, h => KN.get r n p h
theorem locked_at {X : Cx} {pins : List (Addr × Obj)} {σ : L2.St} {H : Hp} {s : Shared} {d : Addr} {ob : Obj} {kvs : List Ent} (I : Inv X pins σ H s) (h : H d = some (.frz ob (DO X.prog X.w d kvs))) :
    (d == sysModules) = false ∧ s.heap.get? d = some ob ∧ ob.ExactDict ∧ ∃ (es : Array DictEntry) (ep : Nat), ob.data = .dict es ep ∧ es.size = kvs.length ∧
      ∀ (n : Nat) (p : Ent), kvs[n]? = some p → ∃ en : DictEntry, es[n]? = some en ∧ en.key = .ref p.2.1 := by
  obtain ⟨at1, ⟨hs, _, xs, rel, o1, es, ep, at2, ex, dt, he, _⟩, _⟩ := I.hok d _ h
  rw [at1] at at2
  cases at2
  refine ⟨hs, at1, ex, es, ep, dt, ?_, fun n p hp => ?_⟩
  · rw [size_of_entries he, rel.len]
  · obtain ⟨q, hq, _, e2, _⟩ := KN.get rel n p hp
    have z := entry_at he n
    rw [hq] at z
    exact ⟨_, z, by rw [e2]; rfl⟩
theorem same_data {ob : Obj} {es es' : Array DictEntry} {ep ep' : Nat} (h : ob.data = .dict es ep) (h' : ob.data = .dict es' ep') : es' = es ∧ ep' = ep := by
  rw [h'] at h
  cases h
  exact ⟨rfl, rfl⟩
theorem turn_keysN {P : Program} {w : World} {K : PySem.W.Frag} {tg : Expr} {d : Addr} {ob : Obj} {es : Array DictEntry} {ep : Nat} {kvs : List Ent} (itr : Addr) (hob : ob.data = .dict es ep) : Turn P w K tg (ItN P w d ob kvs) [itr] itr (fun n h => h.IsKeyIter itr d n kvs.length ep) where
  mem := by simp
  obj := fun n h st b hb => by
    obtain rfl : b = itr := by simpa using hb
    obtain ⟨oi, z, _, dd⟩ := st
    exact ⟨oi, z, fun v q => by rw [dd] at q; cases q⟩
  keep := fun n h h' st kk => st.at fun oi z => kk itr (by simp) oi z
  item := by
    intro X hP hw hK hc n pins s σ H E I hf st hg
    subst hP hw hK
    obtain ⟨hd, hn⟩ := hg
    obtain ⟨g0, g1, g2, g3, g4, g5⟩ := hf itr (by simp)
    obtain ⟨_, atd, _, es', ep', dt', sz, ent⟩ := locked_at I hd
    obtain ⟨rfl, rfl⟩ := same_data hob dt'
    have hp : kvs[n]? = some kvs[n] := List.getElem?_eq_getElem hn
    obtain ⟨en, hen, hkey⟩ := ent n _ hp
    refine next_key_item st atd dt' sz hen fun h' st' sb => ?_
    have J : Inv X pins σ H { s with heap := h' } := I.turned (t' := s.toks) (fun b u hb z => (sb.2 b hb).trans z) g0 g1 g3 g4 g5
    obtain ⟨oi, z, cc, dd⟩ := id st'
    refine ⟨en.key, rfl, go_of (s := { s with heap := h' }) z cc dd (by decide) ⟨.ref kvs[n].2.1, H, J, hkey, ⟨rfl, kvs[n], hp, rfl⟩, st', fun b hb => (hf b hb).1⟩⟩
  done := by
    intro X hP hw hK hc n pins s σ H E I hf st hg
    subst hP hw hK
    obtain ⟨hd, hn⟩ := hg
    obtain ⟨g0, g1, g2, g3, g4, g5⟩ := hf itr (by simp)
    obtain ⟨_, atd, _, es', ep', dt', sz, ent⟩ := locked_at I hd
    obtain ⟨rfl, rfl⟩ := same_data hob dt'
    exact next_key_end (I.ok.hd hc) st atd dt' sz hn fun h' eb => ⟨rfl, I.turned (t' := s.toks) (fun b u hb z => eb b u hb z) g0 g1 g3 g4 g5⟩
  self := fun A n s Q E st h => by
    refine wpAny_pyIter_slot st.typeIs PySem.F.slot_dict_keyiterator_iter (wpAny_call_entry PySem.F.slot_dict_keyiterator_iter st.typeIs PySem.F.entry_dict_keyiterator_iter ?_ (PySem.F.args_dict_keyiterator_iter_1 _))
    show wpAny _ _ (ret (.ref itr)) _ _ s
    exact wpAny_pure ⟨_, rfl, "dict_keyiterator", _, st.typeIs, PySem.F.slot_dict_keyiterator_next.lookup, h⟩
def iKeysN (X : Cx) (td : TE) : TI := fun σ H R => td σ H fun x H1 => ∃ (d : Addr) (ob : Obj) (kvs : List Ent), x = .ref d ∧ H1 d = some (.frz ob (DO X.prog X.w d kvs)) ∧ R (ItN X.prog X.w d ob kvs) H1
theorem pi_keysN {X : Cx} {tg e : Expr} {td : TE} (he : PE X e td) : PI X tg e (iKeysN X td) := by
  refine ⟨fun pins s σ H R I h => ?_⟩
  refine thn (he.run pins s σ H _ I h) fun u s1 ⟨x, H1, J, rx, d, ob, kvs, ex, hd, q⟩ => ?_
  subst ex
  obtain rfl : u = Value.ref d := rx
  obtain ⟨hs, atd, exd, es, ep, dt, sz, _⟩ := locked_at J hd
  refine iter_keys hs atd exd dt (pi_one (tk := s1.toks) J _ (turn_keysN _ dt) ⟨_, Heap.get?_push_size _ rfl, rfl, ?_⟩ q)
  rw [sz] <;> rfl
theorem walk_keysN {P : Program} {w : World} {d : Addr} {ob : Obj} {kvs : List Ent} : Walk (ItN P w d ob kvs) kvs.length (fun H => H d = some (.frz ob (DO P w d kvs))) (fun n H x H' => H' = H ∧ ∃ p, kvs[n]? = some p ∧ x = .ref p.2.1) :=
  ⟨fun _ _ hn q => ⟨q, hn⟩, fun _ q => ⟨q, Nat.le_refl _⟩, fun _ _ _ _ _ _ y => y⟩
end ND
/-! sorted(xs, key=f): f a def of the program whose promise gives a text and leaves all as it was -/
namespace SK
open PySem PySem.Spec PyProof.Rows L2 PySem.W
set_option autoImplicit false
def leG (g : V → Str) : V → V → Bool := dataLe false fun x => PyData.str (g x)
def Rx (u : Value) (x : V) : Prop := RelV x u
theorem each_vals : ∀ {xs : List V} {us : List Value}, Vals xs us → EachIs Rx us xs
  | _, _, .nil => .nil
  | _, _, .cons h r => .cons h (each_vals r)
theorem vals_each : ∀ {xs : List V} {us : List Value}, EachIs Rx us xs → Vals xs us
  | _, _, .nil => .nil
  | _, _, .cons h r => .cons h (vals_each r)
theorem nf {a q : Addr} {n : Nat} (h1 : a < n) (h2 : n ≤ q) : q ≠ a := fun e => absurd (Nat.lt_of_lt_of_le h1 h2) (by rw [e]; exact Nat.lt_irrefl _)
structure Fresh (X : Cx) (pins : List (Addr × Obj)) (H : Hp) (q : Addr) : Prop where
  non : H q = none
  loc : q ≠ X.env.locals
  fs : q ∉ X.fs
  new : X.s_0.heap.objs.size ≤ q
  cel : ∀ x c, X.env.cells.lookup x = some c → c ≠ q
  pin : ∀ p ∈ X.pn ++ pins, p.1 ≠ q
section
variable {X : Cx} {pins : List (Addr × Obj)} {σ : L2.St} {H : Hp} {s : Shared}
theorem fresh_of (I : Inv X pins σ H s) {q : Addr} (h : s.heap.objs.size ≤ q) : Fresh X pins H q where
  non := I.hok.fresh h
  loc := nf I.lt h
  fs := I.nofs h
  new := Nat.le_trans I.sz h
  cel := fun x c hc => by
    obtain ⟨v, o, ho, _⟩ := I.cell x c hc
    exact (nf (Heap.lt_size ho) h).symm
  pin := fun p hp => (nf (Heap.lt_size (I.pin p hp).1) h).symm
/-- the key store of the sort: pinned with what it holds; the list itself: tracked to the object -/
def here (a : Addr) (o : Obj) : HO := .ext fun h => h.get? a = some o
theorem here_ok {P : Program} {w : World} {h : Heap} {a : Addr} {o : Obj} (e : h.get? a = some o) : ObjOk P w H h a (here a o) := ⟨e, ⟨o, e⟩, fun _ _ z k => k o z⟩
theorem here_at {P : Program} {w : World} {h : Heap} {a : Addr} {o : Obj} (x : HOk P w H h) (e : H a = some (here a o)) : h.get? a = some o := (x a _ e).1
theorem seq_list {vs : Array Value} {n : Nat} : (seqObj "list" vs n) = ({ cls := .type "list", data := .seq vs n } : Obj) := rfl
theorem sort_core {a f : Addr} {fd : FuncData} {k tk0 : Nat} {pn : Str} {sp : Sp} {xs : List V} {vs : List Value} {g : V → Str} {hC : Heap} {Q : Value → Shared → Prop} {E' : Value → Shared → Prop} (I : Inv X pins σ H s) (keepC : ∀ b u, s.heap.get? b = some u → hC.get? b = some u) (ha : s.heap.objs.size ≤ a) (at0 : hC.get? a = some (seqObj "list" vs.toArray 0)) (rv : Vals xs vs) (hL : xs.length ≤ sizeLine)
    (F : FnOk X.prog X.w X.K X.mg X.base CX0 k f fd [pn] sp) (hr : Room (k + 2) X.A) (hb : Binds X.K fd [pn] []) (hu : X.A.units + 4 < cLine)
    (hsp : ∀ x ∈ xs, ∀ H', Same H H' → sp [x] H' (fun v H2 => v = .str (g x) ∧ Same H' H2) (fun _ _ _ => False))
    (fin : ∀ (H2 : Hp) (q : Addr) (s2 : Shared), Inv X pins σ H2 s2 → Same H H2 → H q = none → H2 q = some (.lst (xs.mergeSort (leG g))) → Q (.ref q) s2) :
    wpAny (model X.prog X.w) X.A.in1.in1 (Builtin.«list.sort» ⟨[.ref a], [(Str.ofString "key", .ref f)]⟩) (fun f s' => f = .done (.ret .none) ∧ Q (.ref a) s') E' { s with heap := hC, toks := tk0 } := by
  have vl : xs.length = vs.length := rv.length
  rw [ksk_t1]
  obtain ⟨e1, at1⟩ : ∃ e1, (hC.update a (Obj.mapSeq fun _ => (#[] : Array Value))).get? a = some (seqObj "list" #[] e1) := ⟨_, get?_update_seq at0 fun _ => #[]⟩
  generalize eh : hC.update a (Obj.mapSeq fun _ => (#[] : Array Value)) = hA at at1
  have keepA : ∀ b u, s.heap.get? b = some u → hA.get? b = some u := fun b u q => by
    rw [← eh, Heap.get?_update_ne _ _ _ _ (nf (Heap.lt_size q) ha).symm]
    exact keepC b u q
  unfold ksk_tree
  refine wpAny_bind (listItems_at (s := { s with heap := hC, toks := tk0 }) at0 rfl ?_)
  refine wpAny_bind (listUpdate_at (s := { s with heap := hC, toks := tk0 }) at0 rfl ?_ (by rw [List.size_toArray, ← vl]; exact hL) (Nat.zero_le _))
  show wpAny _ _ _ _ _ { s with toks := tk0, heap := hC.update a (Obj.mapSeq fun _ => (#[] : Array Value)) }
  rw [eh]
  refine wpAny_bind (seqEpoch_at (s := { s with heap := hA, toks := tk0 }) at1 rfl ?_)
  refine wpAny_bind (wpAny_newTuple ?_ (by show vs.length ≤ _; rw [← vl]; exact hL))
  refine wpAny_bind (wpAny_newList ?_ (Nat.zero_le _))
  refine wpAny_holding ?_
  -- the heap with the list emptied, the tuple laid
  generalize eT : hA.push (seqObj "tuple" vs.toArray 0) = hT
  have atT : hT.get? a = some (seqObj "list" #[] e1) := by
    rw [← eT]
    exact Heap.get?_push_of_some _ at1
  have I1 : Inv X pins σ (upd H a (here a (seqObj "list" #[] e1))) { s with heap := hT, toks := tk0 } := by
    refine I.laid (fun b u q => ?_) ha (here_ok atT)
    rw [← eT]
    exact Heap.get?_push_of_some _ (keepA b u q)
  have Ha : H a = none := I.hok.fresh ha
  have sm1 : Same H (upd H a (here a (seqObj "list" #[] e1))) := fun b o q => by
    rw [upd_ne (ne_of_none q Ha)]
    exact q
  generalize eH1 : upd H a (here a (seqObj "list" #[] e1)) = H1 at I1 sm1
  have H1a : H1 a = some (here a (seqObj "list" #[] e1)) := by
    rw [← eH1]
    exact upd_same
  have fr := fresh_of I1 (Nat.le_refl _)
  show wpAny _ _ (ksk_rest a (.ref f) false vs.toArray e1 (.ref hT.objs.size)) _ _ { s with heap := hT.push (seqObj "list" #[] 0), toks := tk0 }
  have hTs : hT.objs.size = ({ s with heap := hT, toks := tk0 } : Shared).heap.objs.size := rfl
  generalize eS : hT.objs.size = kS at fr ⊢
  have ka : kS ≠ a := nf (Heap.lt_size atT) (Nat.le_of_eq eS)
  have I2 : Inv X ((kS, seqObj "list" #[] 0) :: pins) σ H1 { s with heap := hT.push (seqObj "list" #[] 0), toks := tk0 } := by
    have J : Inv X pins σ H1 { s with heap := hT.push (seqObj "list" #[] 0), toks := tk0 } := I1.kept (t' := tk0) fun b u q => Heap.get?_push_of_some _ q
    refine J.pins_of fun p hp => ?_
    rcases List.mem_cons.mp hp with e | e
    · rw [e]
      refine ⟨?_, fr.non, fr.loc, fr.fs, fun v z => by cases z⟩
      rw [← eS]
      exact Heap.get?_push_size _ rfl
    · exact J.pin p (List.mem_append_right _ e)
  unfold ksk_rest
  refine wpAny_bind (wpAny_rule ?_)
  first
    | rw [List.forIn_toArray]
    | (rw [← Array.forIn_toList]; simp only [List.toList_toArray])
  refine wpAny_bind (ksk_fold (fun n s' => ∃ (Hn : Hp) (kA : Array Value) (e : Nat), Inv X ((kS, seqObj "list" kA e) :: pins) σ Hn s' ∧ Same H1 Hn ∧ Vals ((xs.take n).map fun x => V.str (g x)) kA.toList) vs 0 _ ⟨H1, #[], 0, I2, Same.refl _, .nil⟩ ?turn ?over)
  case turn =>
    rintro j u s' hj ⟨Hn, kA, e, J, sm, rk⟩
    simp only [Nat.zero_add] at rk ⊢
    have jl : j < vs.length := (List.getElem?_eq_some_iff.mp hj).1
    obtain ⟨x, hx, rx⟩ : ∃ x, xs[j]? = some x ∧ RelV x u := by
      have hx : xs[j]? = some (xs[j]'(by omega)) := List.getElem?_eq_getElem (by omega)
      obtain ⟨u', hu', ru'⟩ := rv.get hx
      rw [hj] at hu'
      cases hu'
      exact ⟨_, hx, ru'⟩
    have xm : x ∈ xs := List.mem_of_getElem? hx
    have hrun : wpAny (model X.prog X.w) X.A.in1.in1 (call (.ref f) [u]) (fun v s2 => EP X ((kS, seqObj "list" kA e) :: pins) σ (fun v H2 => v = .str (g x) ∧ Same Hn H2) v s2) (fun _ _ => False) s' := by
      have hr2 : Room k X.A.in1.in1 := (show Room (k + 1) X.A.in1 from Room.in1 hr).in1
      refine wpAny_call (codeAny_mono (F.run X.A.in1.in1 X.stack s' Hn ⟨[u], []⟩ [u] [x] (fun v H2 => v = .str (g x) ∧ Same Hn H2) (fun _ _ _ => False) hr2 J.env0.in1.in1 ?_ (.cons rx .nil) (hsp x xm Hn (sm1.trans sm))) fun r s2 hq => ?_)
      · have b1 := hb s' [u] J.kIn rfl
        rw [List.append_nil] at b1
        exact b1
      · cases r with
        | error er => exact (hq : False)
        | ok fl =>
          cases fl with
          | ret v => exact J.after hq
          | next => exact False.elim hq
          | brk => exact False.elim hq
          | cont => exact False.elim hq
    refine wpAny_bind (wpAny_attempt (wpAny_mono hrun (fun v s2 hv => ?_) fun _ _ z => z.elim))
    obtain ⟨y, H2, J2, ry, ey, sm2⟩ := hv
    subst ey
    have pk := J2.pin (kS, seqObj "list" kA e) (List.mem_append_right _ List.mem_cons_self)
    have kl : kA.size ≤ vs.length := by
      have q1 := rk.length
      rw [List.length_map, List.length_take] at q1
      have q2 : kA.toList.length = kA.size := Array.length_toList
      omega
    obtain ⟨c2, hc2⟩ : ∃ c2, (s2.heap.update kS (Obj.mapSeq (·.push v))).get? kS = some (seqObj "list" (kA.push v) c2) := ⟨_, get?_update_seq pk.1 (·.push v)⟩
    have sb := Heap.SameBut.update s2.heap kS (Obj.mapSeq (·.push v))
    try dsimp only
    refine wpAny_bind (listUpdate_at pk.1 rfl ?_ (by rw [← vl] at kl; omega) (by rw [Array.size_push, ← vl] at *; omega))
    refine wpAny_pure ⟨rfl, H2, kA.push v, c2, ?_, sm.trans sm2, ?_⟩
    · have J3 : Inv X pins σ H2 s2 := J2.pins_of fun p hp => J2.pin p (List.mem_append_right _ (List.mem_cons_of_mem _ hp))
      have J4 := J3.turned (t' := s2.toks) (h' := s2.heap.update kS (Obj.mapSeq (·.push v))) (it := kS) (fun b o hb q => (sb.2 b hb).trans q) pk.2.1 fr.loc (.inr fr.new) fr.cel fr.pin
      refine J4.pins_of fun p hp => ?_
      rcases List.mem_cons.mp hp with q | q
      · rw [q]
        exact ⟨hc2, pk.2.1, fr.loc, fr.fs, fun v z => by cases z⟩
      · exact J4.pin p (List.mem_append_right _ q)
    · rw [List.take_add_one, hx, List.map_append, Array.toList_push]
      exact rk.append (.cons ry .nil)
  case over =>
    rintro s' ⟨Hn, kA, e, J, sm, rk⟩
    simp only [Nat.zero_add] at rk
    rw [← vl, List.take_length] at rk
    have pk := J.pin (kS, seqObj "list" kA e) (List.mem_append_right _ List.mem_cons_self)
    have ata : s'.heap.get? a = some (seqObj "list" #[] e1) := here_at J.hok (sm _ _ H1a)
    have ksz : kA.size = vs.length := by
      have q1 := rk.length
      rw [List.length_map] at q1
      have q2 : kA.toList.length = kA.size := Array.length_toList
      omega
    have eachK : EachIs (fun v d => ∃ as, Reads s'.heap v d as) kA.toList (xs.map fun x => PyData.str (g x)) := by
      have gen : ∀ (ys : List V) (us : List Value), Vals (ys.map fun x => V.str (g x)) us → EachIs (fun v d => ∃ as, Reads s'.heap v d as) us (ys.map fun x => PyData.str (g x)) := by
        intro ys
        induction ys with
        | nil =>
          intro us r
          cases r
          exact .nil
        | cons y ys ih =>
          intro us r
          cases r with
          | cons ry rr =>
            obtain ⟨t, rfl⟩ := ry
            exact .cons ⟨[], .str _ _⟩ (ih _ rr)
      exact gen xs _ rk
    have alikeK : AllAlike (xs.map fun x => PyData.str (g x)) := by
      intro d hd d' hd'
      obtain ⟨b, _, rfl⟩ := List.mem_map.mp hd
      obtain ⟨c, _, rfl⟩ := List.mem_map.mp hd'
      simp [alike]
    have sortK : Sortable (xs.map fun x => PyData.str (g x)) := by
      refine .inr fun d hd => ?_
      obtain ⟨b, _, rfl⟩ := List.mem_map.mp hd
      exact ⟨by simp, fun ys => by simp⟩
    have unitK : ∀ d ∈ xs.map (fun x => PyData.str (g x)), X.A.in1.in1.units + d.depth < cLine := by
      intro d hd
      obtain ⟨b, _, rfl⟩ := List.mem_map.mp hd
      have u1 : X.A.in1.in1.units ≤ X.A.units + 2 := by first | exact Nat.le_refl _ | simp [Around.in1]
      simp only [PyData.depth]
      omega
    try dsimp only
    refine wpAny_bind (listItems_at pk.1 rfl ?_)
    have hid : (hideAll s'.heap [kS]).get? kS = none := hideAll_none _ (by simp)
    refine keyH_end (κ := dataKind s'.heap (xs.map fun x => PyData.str (g x))) (h₁ := hideAll s'.heap [kS]) (fun b o _ q => of_hideAll _ q) hid pk.1 ata ka (SortsAt.data (s := s') eachK alikeK sortK unitK) ksz (by rw [← vl]; exact hL) fun h3 tk c kp at3 => ⟨rfl, ?_⟩
    have eo : EachIs Rx (sortVals (dataKind s'.heap (xs.map fun x => PyData.str (g x))) false kA.toList vs) (xs.mergeSort (leG g)) :=
      keyedOut_each (rev := false) (fun x : V => PyData.str (g x)) ⟨s'.heap, kA.toList, alikeK, rfl, eachK⟩ (each_vals rv)
    generalize sortVals (dataKind s'.heap (xs.map fun x => PyData.str (g x))) false kA.toList vs = out at at3 eo
    -- the key store is let go, then the list takes the items
    have J3 : Inv X pins σ Hn s' := J.pins_of fun p hp => J.pin p (List.mem_append_right _ (List.mem_cons_of_mem _ hp))
    have back : (h3.update a fun _ => seqObj "list" #[] e1).get? a = some (seqObj "list" #[] e1) := by
      exact Heap.get?_update_self _ at3 rfl
    have J4 := J3.turned (t' := tk) (h' := h3.update a fun _ => seqObj "list" #[] e1) (it := kS) (fun b o hb q => ?_) pk.2.1 fr.loc (.inr fr.new) fr.cel fr.pin
    · have lenO : (xs.mergeSort (leG g)).length ≤ sizeLine := by
        rw [List.length_mergeSort]
        exact hL
      have J5 := J4.write (t' := tk) (x := a) (e := a) (h' := h3) (o := .lst (xs.mergeSort (leG g))) (by rw [sm _ _ H1a]; exact True.intro) (.inl rfl) (fun b u hb q => ?_) ⟨_, at3⟩ ⟨lenO, out, c, vals_each eo, at3⟩
      · refine fin _ a _ J5 (fun b o q => ?_) Ha upd_same
        rw [upd_ne (ne_of_none q Ha)]
        exact sm _ _ (sm1 _ _ q)
      · rw [Heap.get?_update_ne _ _ _ _ hb] at q
        exact q
    · by_cases ba : b = a
      · rw [ba] at q ⊢
        rw [ata] at q
        rw [← Option.some.inj q]
        exact back
      · rw [Heap.get?_update_ne _ _ _ _ ba]
        refine kp b o ba ?_
        exact hideAll_get [kS] q (by simpa using hb)
theorem sorted_fn {l f : Addr} {fd : FuncData} {k : Nat} {pn : Str} {sp : Sp} {xs : List V} {vs : List Value} {g : V → Str} {Q : Value → Shared → Prop} {E : Value → Shared → Prop} (I : Inv X pins σ H s) (hl : s.heap.IsList l vs.toArray) (rv : Vals xs vs) (hL : xs.length ≤ sizeLine)
    (F : FnOk X.prog X.w X.K X.mg X.base CX0 k f fd [pn] sp) (hr : Room (k + 2) X.A) (hb : Binds X.K fd [pn] []) (hu : X.A.units + 4 < cLine)
    (hsp : ∀ x ∈ xs, ∀ H', Same H H' → sp [x] H' (fun v H2 => v = .str (g x) ∧ Same H' H2) (fun _ _ _ => False))
    (fin : ∀ (H2 : Hp) (q : Addr) (s2 : Shared), Inv X pins σ H2 s2 → Same H H2 → H q = none → H2 q = some (.lst (xs.mergeSort (leG g))) → Q (.ref q) s2) :
    wpAny (model X.prog X.w) X.A (call (.builtin "sorted") [.ref l] [(Str.ofString "key", .ref f)]) Q E s := by
  refine sorted_of_sort hl (by rw [← rv.length]; exact hL) (ksk_s1 _ _) (fun _ => ksk_l1 _ _) fun E' => ?_
  exact sort_core I (fun b u q => copyHeap_old q) (Nat.le_succ _) (copyHeap_at s.heap vs) rv hL F hr hb hu hsp fin
end
end SK
namespace SK
open PySem PySem.Spec PyProof.Rows L2 PySem.W
set_option autoImplicit false
/-- a tuple is read in one way -/
def TInj (K : PySem.W.Frag) (H : Hp) : Prop := ∀ (a : Addr) (xs ys : List V), SqT K H a xs → SqT K H a ys → xs = ys
def tSortFn (K : PySem.W.Frag) (sp : Sp) (t : TA) : TE := fun σ H Q => t σ H fun vs H1 => TInj K H1 → ∃ (l : Addr) (xs : List V) (g : V → Str), vs = [.ref l] ∧ SqL K H1 l xs ∧
  (∀ x ∈ xs, ∀ H', Same H1 H' → sp [x] H' (fun v H2 => v = .str (g x) ∧ Same H' H2) (fun _ _ _ => False)) ∧ ∀ H2 p, Same H1 H2 → H1 p = none → H2 p = some (.lst (xs.mergeSort (leG g))) → Q (.ref p) H2
section
variable {X : Cx} {p p2 pos kpos : Pos} {e : Expr} {t : TA} {k : Nat} {f : Addr} {fd : FuncData} {pn fn : Str} {sp : Sp}
theorem pe_sortedFn (F : FnOk X.prog X.w X.K X.mg X.base CX0 k f fd [pn] sp) (hr : Room (k + 2) X.A) (hb : Binds X.K fd [pn] []) (hgs : Gl X "sorted") (hms : X.mg "sorted" = none) (hgf : Gl X fn) (hmf : X.mg fn = some (.ref f)) (ha : PA X [e] t)
    (hdb : (fn == ("__debug__" : Str)) = false := by decide) (he : backTo pos (starEach [e] X.env) = (false, eval e X.env) :: backTo pos (starEach [] X.env) := by rfl) (hpl : (backTo pos (starEach [e] X.env)).any (·.1) = false := by rfl) :
    PE X (.Call (.Name "sorted" p) [e] [⟨some "key", .Name fn p2, kpos⟩] pos) (tSortFn X.K sp t) := by
  refine ⟨fun pins s σ H Q I h => ?_⟩
  refine wpAny_Call_Name_kw (ld_blt I hgs hms (u := .builtin "sorted") (by decide +kernel) ?_)
  refine PyProof.Rows.callWith_kw (thn (ha.run pos pins s σ H _ I h) fun us s1 ⟨vs, H1, J, r1, q1⟩ => ?_) he hpl (by rfl) (by rfl)
  show wpAny _ _ (evalAll [do let v ← eval (.Name fn p2) X.env; standAt pos; pure v]) _ _ s1
  refine wpAny_evalAll_cons (wpAny_bind (ld_glob J hgf hmf (wpAny_bind (wpAny_standAt (wpAny_pure (wpAny_evalAll_nil ?_)))) hdb))
  obtain ⟨l, xs, g, rfl, hs, hsp, q⟩ := q1 fun a xs ys h1 h2 => J.tuple_inj h1 h2
  obtain ⟨its, rv, hl, hz⟩ := J.list hs
  rw [Vals.ref1 r1]
  show wpAny _ _ (call (.builtin "sorted") [.ref l] [(Str.ofString "key", .ref f)]) _ _ _
  exact sorted_fn J hl.isList rv hz F hr hb (by have := hr.units; omega) hsp fun H2 a s2 J2 sm hn ha => ⟨.ref a, H2, J2, rfl, q H2 a sm hn ha⟩
end
end SK
/-! sorted(d, reverse=b), sorted(d, key=f), list(d): d a dict with tuple keys -/
namespace ND
open PySem PySem.Spec PyProof.Rows L2 PySem.W PySem.Calls
set_option autoImplicit false
def keyRefs (kvs : List Ent) : List Value := kvs.map fun p => Value.ref p.2.1
def keyVs (kvs : List Ent) : List V := kvs.map fun p => V.ref p.2.1
theorem keyVals : ∀ kvs : List Ent, Vals (keyVs kvs) (keyRefs kvs)
  | [] => .nil
  | _ :: r => .cons rfl (keyVals r)
section
variable {X : Cx} {pins : List (Addr × Obj)} {σ : L2.St} {H : Hp} {s : Shared} {d : Addr} {kvs : List Ent}
theorem raw_at (I : Inv X pins σ H s) (hd : Rd H d (DO X.prog X.w d kvs)) : (d == sysModules) = false ∧ kvs.length ≤ sizeLine ∧ ∃ (es : Array DictEntry) (ep : Nat), s.heap.DictRaw d es ep ∧ es.size = kvs.length ∧ ∀ (n : Nat) (p : Ent), kvs[n]? = some p → ∃ en : DictEntry, es[n]? = some en ∧ en.key = .ref p.2.1 := by
  obtain ⟨⟨hs, hl, xs, rel, o, es, ep, h1, h2, h3, he, _⟩, _, _⟩ := hd.ok I.hok
  refine ⟨hs, hl, es, ep, ⟨o, h1, h2, h3⟩, ?_, fun n p hp => ?_⟩
  · rw [size_of_entries he, rel.len]
  · obtain ⟨q, hq, _, e2, _⟩ := KN.get rel n p hp
    have z := entry_at he n
    rw [hq] at z
    exact ⟨_, z, by rw [e2]; rfl⟩
theorem items_keys {es : Array DictEntry} {acc : Array Value} (sz : es.size = kvs.length) (ent : ∀ (n : Nat) (p : Ent), kvs[n]? = some p → ∃ en : DictEntry, es[n]? = some en ∧ en.key = .ref p.2.1) (ha : ItemsOf (fun i v => ∃ hi : i < es.size, v = es[i].key) acc es.size) : acc.toList = keyRefs kvs := by
  refine List.ext_getElem? fun n => ?_
  have asz : acc.toList.length = kvs.length := by
    have q : acc.toList.length = acc.size := Array.length_toList
    have := ha.1
    omega
  by_cases hn : n < kvs.length
  · have hp : kvs[n]? = some kvs[n] := List.getElem?_eq_getElem hn
    obtain ⟨en, hen, hk⟩ := ent n _ hp
    have hv : acc.toList[n]? = some (acc.toList[n]'(by omega)) := List.getElem?_eq_getElem (by omega)
    obtain ⟨hi, e⟩ := ha.2 n _ (by rw [← Array.getElem?_toList]; exact hv)
    have e2 : es[n] = en := by
      have := Array.getElem?_eq_getElem (xs := es) (i := n) hi
      rw [hen] at this
      exact (Option.some.inj this).symm
    rw [hv, e, e2, hk]
    unfold keyRefs
    rw [List.getElem?_map, hp]
    rfl
  · unfold keyRefs
    rw [List.getElem?_map, List.getElem?_eq_none (by omega), List.getElem?_eq_none (by omega)]
    rfl
theorem dict_sorted {kw : List (Str × Value)} {Q : Value → Shared → Prop} {E : Value → Shared → Prop} (I : Inv X pins σ H s) (hd : Rd H d (DO X.prog X.w d kvs)) (calm : X.calm = true) (ha1 : argsOk "sorted" ⟨[.ref d], kw⟩) (ha2 : ∀ x, argsOk "list.sort" ⟨[.ref x], kw⟩)
    (body : ∀ s1 : Shared, Inv X pins σ H s1 → ∀ E' : Value → Shared → Prop,
      wpAny (model X.prog X.w) X.A.in1.in1 (Builtin.«list.sort» ⟨[.ref s1.heap.objs.size], kw⟩) (fun f s' => f = .done (.ret .none) ∧ Q (.ref s1.heap.objs.size) s') E' { s1 with heap := s1.heap.push (seqObj "list" (keyRefs kvs).toArray 0) }) :
    wpAny (model X.prog X.w) X.A (call (.builtin "sorted") [.ref d] kw) Q E s := by
  obtain ⟨lo, hl, es, ep, raw, sz, ent⟩ := raw_at I hd
  refine call_function_entry_kw kind_sorted plain_sorted entry_sorted ha1 ?_
  unfold Builtin.«sorted»
  refine wpAny_bind (m := checkCount "sorted" 1 1 _) (wpAny_pure ?_)
  refine wpAny_bind (kdu_collect (A := X.A.in1) (KdlSrc.rawDict (prog := X.prog) (w := X.w) (es := es) (ep := ep) lo) (I.ok.hd calm) raw (by rw [sz]; exact hl) fun h' tk acc kp items => ?_)
  rw [items_keys sz ent items]
  have kl : (keyRefs kvs).length ≤ sizeLine := by
    unfold keyRefs
    rw [List.length_map]
    exact hl
  refine wpAny_bind (wpAny_newList ?_ kl)
  have J : Inv X pins σ H { s with heap := h', toks := tk } := I.kept kp
  have at0 : (h'.push (seqObj "list" (keyRefs kvs).toArray 0)).get? h'.objs.size = some (seqObj "list" (keyRefs kvs).toArray 0) := Heap.get?_push_size _ rfl
  refine wpAny_bind (wpAny_holding (wpAny_call_entry_kw slot_list_sort ⟨_, at0, rfl⟩ entry_list_sort ?inner (ha2 _)))
  case inner =>
    refine wpAny_mono (body { s with heap := h', toks := tk } J _) (fun f s' hf => ?_) fun _ _ e => e
    obtain ⟨rfl, hq⟩ := hf
    exact ⟨_, rfl, wpAny_pure ⟨_, rfl, hq⟩⟩
/-! ### sorted(d, reverse=b) -/
mutual
theorem NK.dp {K : PySem.W.Frag} {H : Hp} : ∀ (k : NestedKey) (v : V), NK K H k v → Dp K H v k.data
  | .none, _, h => by cases h; exact .non
  | .num i, _, h => by cases h; exact .int i
  | .text x, _, h => by cases h; exact .str x
  | .tup ks, _, h => by
    cases h with
    | tup q r => exact .tup q (NKs.dp ks _ r)
theorem NKs.dp {K : PySem.W.Frag} {H : Hp} : ∀ (ks : List NestedKey) (vs : List V), NKs K H ks vs → DpAll K H vs (NestedKey.datas ks)
  | [], _, h => by cases h; exact .nil
  | k :: ks, _, h => by
    cases h with
    | cons a r => exact .cons (NK.dp k _ a) (NKs.dp ks _ r)
end
def Rr (u : Value) (p : Ent) : Prop := u = .ref p.2.1
theorem each_refs : ∀ kvs : List Ent, EachIs Rr (keyRefs kvs) kvs
  | [] => .nil
  | _ :: r => .cons rfl (each_refs r)
theorem vals_refs : ∀ {us : List Value} {ps : List Ent}, EachIs Rr us ps → Vals (keyVs ps) us
  | _, _, .nil => .nil
  | _, _, .cons h r => .cons h (vals_refs r)
def rSortD (X : Cx) (b : Bool) : List V → List V → Hp → VK → Prop := fun vs zs H Q => ∃ (d : Addr) (kvs : List Ent), vs = [V.ref d] ∧ zs = [.bl b] ∧ Rd H d (DO X.prog X.w d kvs) ∧ KOks X.K H kvs ∧ AllAlike (kvs.map fun p => p.1.data) ∧ Sortable (kvs.map fun p => p.1.data) ∧ (∀ p ∈ kvs, p.1.data.depth ≤ 9) ∧
  ∀ p, H p = none → Q (.ref p) (upd H p (.lst (keyVs (kvs.mergeSort (dataLe b fun p => p.1.data)))))
theorem cr_sortedD {b : Bool} (calm : X.calm = true) (hu : X.A.units + 64 < cLine) : CallRK X (.builtin "sorted") [Str.ofString "reverse"] (rSortD X b) := by
  intro pins s σ H vs zs us ws Q I r rz h
  obtain ⟨d, kvs, rfl, rfl, hd, ok, al, so, dp, q⟩ := h
  obtain rfl := Vals.ref1 r
  obtain ⟨w1, rfl, e1⟩ := vals1 rz
  obtain rfl : w1 = Value.bool b := e1
  have hl : kvs.length ≤ sizeLine := (raw_at I hd).2.1
  refine dict_sorted I hd calm (args_sorted_rev _ _) (fun _ => args_list_sort_rev _ _) fun s1 J E' => ?_
  have at0 : (s1.heap.push (seqObj "list" (keyRefs kvs).toArray 0)).get? s1.heap.objs.size = some (seqObj "list" (keyRefs kvs).toArray 0) := Heap.get?_push_size _ rfl
  have er : EachIs (fun v p => ∃ as, Reads (sortingHeap (s1.heap.push (seqObj "list" (keyRefs kvs).toArray 0)) s1.heap.objs.size (keyRefs kvs)) v p.1.data as) (keyRefs kvs) kvs := by
    have gen : ∀ l : List Ent, KOks X.K H l → EachIs (fun v p => ∃ as, Reads (sortingHeap (s1.heap.push (seqObj "list" (keyRefs kvs).toArray 0)) s1.heap.objs.size (keyRefs kvs)) v p.1.data as) (keyRefs l) l := by
      intro l
      induction l with
      | nil => intro _; exact .nil
      | cons p l ih =>
        intro o
        refine .cons ?_ (ih fun x hx => o x (List.mem_cons_of_mem _ hx))
        obtain ⟨as, rd⟩ := Dp.reads J _ _ _ (NK.dp _ _ (o p List.mem_cons_self).1) rfl
        exact ⟨as, PyProof.Rows.Reads.keeps (fun b o e => sortingHeap_old (Nat.ne_of_lt (Heap.lt_size e)) (Heap.get?_push_of_some _ e)) rd⟩
    exact gen kvs ok
  have un : ∀ x ∈ kvs.map (fun p => p.1.data), X.A.in1.in1.units + x.depth < cLine := by
    intro x hx
    obtain ⟨p, hp, rfl⟩ := List.mem_map.mp hx
    have := dp p hp
    have u1 : X.A.in1.in1.units ≤ X.A.units + 2 := by first | exact Nat.le_refl _ | simp [Around.in1]
    omega
  have kl : (keyRefs kvs).length ≤ sizeLine := by
    unfold keyRefs
    rw [List.length_map]
    exact hl
  refine list_sort_rev_vals (s := { s1 with heap := s1.heap.push (seqObj "list" (keyRefs kvs).toArray 0) }) at0 (SortsAt.data (s := { s1 with heap := sortingHeap (s1.heap.push (seqObj "list" (keyRefs kvs).toArray 0)) s1.heap.objs.size (keyRefs kvs) }) (each_map (R := fun v x => ∃ as, Reads (sortingHeap (s1.heap.push (seqObj "list" (keyRefs kvs).toArray 0)) s1.heap.objs.size (keyRefs kvs)) v x as) (fun p : Ent => p.1.data) er) al so un) kl ⟨rfl, ?_⟩
  have eo := sortVals_data b (each_refs kvs) er al
  generalize sortVals (dataKind (sortingHeap (s1.heap.push (seqObj "list" (keyRefs kvs).toArray 0)) s1.heap.objs.size (keyRefs kvs)) (kvs.map fun p => p.1.data)) b (keyRefs kvs) (keyRefs kvs) = out at eo ⊢
  obtain ⟨c, hc⟩ := PyProof.Rows.sortedHeap_at (vs := keyRefs kvs) (out := out.toArray) at0
  refine ⟨.ref s1.heap.objs.size, upd H s1.heap.objs.size (.lst (keyVs (kvs.mergeSort (dataLe b fun p => p.1.data)))), J.laid (t' := s1.toks) (fun b u e => ?_) (Nat.le_refl _) ⟨?_, out, c, vals_refs eo, hc⟩, rfl, q _ (J.hok.fresh (Nat.le_refl _))⟩
  · have lt := Heap.lt_size e
    rw [PyProof.Rows.sortedHeap_old (Nat.ne_of_lt lt) (Nat.lt_of_lt_of_le lt (by rw [size_push']; exact Nat.le_succ _))]
    exact Heap.get?_push_of_some _ e
  · unfold keyVs
    rw [List.length_map, List.length_mergeSort]
    exact hl
/-! ### sorted(d, key=f) -/
def tSortDFn (X : Cx) (sp : Sp) (t : TA) : TE := fun σ H Q => t σ H fun vs H1 => SK.TInj X.K H1 → ∃ (d : Addr) (kvs : List Ent) (g : V → Str), vs = [.ref d] ∧ Rd H1 d (DO X.prog X.w d kvs) ∧
  (∀ x ∈ keyVs kvs, ∀ H', Same H1 H' → sp [x] H' (fun v H2 => v = .str (g x) ∧ Same H' H2) (fun _ _ _ => False)) ∧ ∀ H2 p, Same H1 H2 → H1 p = none → H2 p = some (.lst ((keyVs kvs).mergeSort (SK.leG g))) → Q (.ref p) H2
theorem pe_sortedDFn {p p2 pos kpos : Pos} {e : Expr} {t : TA} {k : Nat} {f : Addr} {fd : FuncData} {pn fn : Str} {sp : Sp} (calm : X.calm = true) (F : FnOk X.prog X.w X.K X.mg X.base CX0 k f fd [pn] sp) (hr : Room (k + 2) X.A) (hb : Binds X.K fd [pn] []) (hgs : Gl X "sorted") (hms : X.mg "sorted" = none) (hgf : Gl X fn) (hmf : X.mg fn = some (.ref f)) (ha : PA X [e] t)
    (hdb : (fn == ("__debug__" : Str)) = false := by decide) (he : backTo pos (starEach [e] X.env) = (false, eval e X.env) :: backTo pos (starEach [] X.env) := by rfl) (hpl : (backTo pos (starEach [e] X.env)).any (·.1) = false := by rfl) :
    PE X (.Call (.Name "sorted" p) [e] [⟨some "key", .Name fn p2, kpos⟩] pos) (tSortDFn X sp t) := by
  refine ⟨fun pins s σ H Q I h => ?_⟩
  refine wpAny_Call_Name_kw (ld_blt I hgs hms (u := .builtin "sorted") (by decide +kernel) ?_)
  refine PyProof.Rows.callWith_kw (thn (ha.run pos pins s σ H _ I h) fun us s1 ⟨vs, H1, J, r1, q1⟩ => ?_) he hpl (by rfl) (by rfl)
  show wpAny _ _ (evalAll [do let v ← eval (.Name fn p2) X.env; standAt pos; pure v]) _ _ s1
  refine wpAny_evalAll_cons (wpAny_bind (ld_glob J hgf hmf (wpAny_bind (wpAny_standAt (wpAny_pure (wpAny_evalAll_nil ?_)))) hdb))
  obtain ⟨d, kvs, g, rfl, hd, hsp, q⟩ := q1 fun a xs ys h1 h2 => J.tuple_inj h1 h2
  have hl : (keyVs kvs).length ≤ sizeLine := by
    unfold keyVs
    rw [List.length_map]
    exact (raw_at J hd).2.1
  rw [Vals.ref1 r1]
  show wpAny _ _ (call (.builtin "sorted") [.ref d] [(Str.ofString "key", .ref f)]) _ _ _
  refine dict_sorted J hd calm (ksk_s1 _ _) (fun _ => ksk_l1 _ _) fun s2 J2 E' => ?_
  exact SK.sort_core (Q := EP X pins σ Q) J2 (fun b u e => Heap.get?_push_of_some _ e) (Nat.le_refl _) (Heap.get?_push_size _ rfl) (keyVals kvs) hl F hr hb (by have := hr.units; omega) hsp fun H2 a s3 J3 sm hn ha => ⟨.ref a, H2, J3, rfl, q H2 a sm hn ha⟩
/-! ### list(d) -/
def rListD (X : Cx) : List V → Hp → VK → Prop := fun vs H Q => ∃ (d : Addr) (kvs : List Ent), vs = [V.ref d] ∧ Rd H d (DO X.prog X.w d kvs) ∧ ∀ p, H p = none → Q (.ref p) (upd H p (.lst (keyVs kvs)))
theorem cr_listD (calm : X.calm = true) : CallR X (.type "list") (rListD X) := by
  intro pins s σ H vs us Q I r h
  obtain ⟨d, kvs, rfl, hd, q⟩ := h
  obtain rfl := Vals.ref1 r
  obtain ⟨lo, hl, es, ep, raw, sz, ent⟩ := raw_at I hd
  refine kdl_call (KdlSrc.rawDict (prog := X.prog) (w := X.w) (es := es) (ep := ep) lo) (I.ok.hd calm) raw (by rw [sz]; exact hl) fun h' tk acc c kp at0 items => ?_
  have e := items_keys sz ent items
  have at1 : h'.get? s.heap.objs.size = some { cls := .type "list", dict := none, data := .seq (keyRefs kvs).toArray c, slots := #[] } := by
    rw [at0, ← e]
  refine ⟨.ref s.heap.objs.size, upd H s.heap.objs.size (.lst (keyVs kvs)), I.laid (t' := tk) kp (Nat.le_refl _) ⟨?_, keyRefs kvs, c, keyVals kvs, at1⟩, rfl, q _ (I.hok.fresh (Nat.le_refl _))⟩
  unfold keyVs
  rw [List.length_map]
  exact hl
end
end ND
/-! sorted(set of texts), sorted(list of texts) of any length -/
namespace TXB
open PySem PySem.Spec PyProof.Rows L2 PySem.W
set_option autoImplicit false
def leS : Str → Str → Bool := dataLe false fun x : Str => PyData.str x
def TxtV (v : Value) (x : Str) : Prop := ∃ t, v = Value.str x t
theorem each_of : ∀ {us : List Value} {xs : List Str}, StrsAre us xs → EachIs TxtV us xs
  | _, _, .nil => .nil
  | _, _, .cons n t r => .cons ⟨t, rfl⟩ (each_of r)
theorem strs_of : ∀ {us : List Value} {xs : List Str}, EachIs TxtV us xs → StrsAre us xs
  | _, _, .nil => .nil
  | _, _, .cons ⟨t, rfl⟩ r => .cons _ t (strs_of r)
theorem vals_of : ∀ {us : List Value} {xs : List Str}, EachIs TxtV us xs → Vals (xs.map V.str) us
  | _, _, .nil => .nil
  | _, _, .cons h r => .cons h (vals_of r)
theorem reads_of {h : Heap} : ∀ {us : List Value} {xs : List Str}, EachIs TxtV us xs → EachIs (fun v x => ∃ as, Reads h v (PyData.str x) as) us xs
  | _, _, .nil => .nil
  | _, _, .cons ⟨t, rfl⟩ r => .cons ⟨[], .str _ t⟩ (reads_of r)
theorem al_strs (xs : List Str) : AllAlike (xs.map fun x => PyData.str x) := by
  intro d hd d' hd'
  obtain ⟨a, _, rfl⟩ := List.mem_map.mp hd
  obtain ⟨b, _, rfl⟩ := List.mem_map.mp hd'
  simp [alike]
theorem so_strs (xs : List Str) : Sortable (xs.map fun x => PyData.str x) := by
  refine .inr fun d hd => ?_
  obtain ⟨a, _, rfl⟩ := List.mem_map.mp hd
  exact ⟨by simp, fun ys => by simp⟩
theorem leS_iff {a b : Str} : leS a b = true ↔ a.cps.toList ≤ b.cps.toList := by
  unfold leS
  rw [dataLe_str fun x : Str => x]
  exact decide_eq_true_iff
theorem ms_perm (xs : List Str) : (xs.mergeSort leS).Perm xs := List.mergeSort_perm xs leS
theorem ms_sorted (xs : List Str) : sortedS (xs.mergeSort leS) = true := by
  refine sortedS_of_pairwise _ ?_
  have h := List.pairwise_mergeSort (le := leS) (fun a b c h1 h2 => leS_iff.mpr (List.le_trans (leS_iff.mp h1) (leS_iff.mp h2))) (fun a b => by
    rw [Bool.or_eq_true, leS_iff, leS_iff]
    exact List.le_total _ _) xs
  refine h.imp fun {a b} hab => ?_
  rw [ltCps_eq]
  exact decide_eq_false (List.not_lt.mpr (leS_iff.mp hab))
section
variable {P : Program} {w : World} {A : Around} {E : Value → Shared → Prop} {s : Shared}
open TX in
theorem sorted_atB {a : Addr} {l : List Str} {Q : Value → Shared → Prop} (R : At P w s.heap a l) (hh : A.handled = none) (hsb : l.length < scanBound) (hu : A.units + 4 < cLine)
    (hQ : ∀ s' p (out : Array Value) (c : Nat) (ys : List Str), (∀ b o, s.heap.get? b = some o → s'.heap.get? b = some o) → s'.gens = s.gens → s'.os = s.os → s.heap.objs.size ≤ p →
      s'.heap.get? p = some (seqObj "list" out c) → StrsAre out.toList ys → ys.Perm l → sortedS ys = true → Q (.ref p) s') :
    wpAny (model P w) A (call (.builtin "sorted") [.ref a]) Q E s := by
  obtain ⟨⟨es, ep, t⟩, ho, ok⟩ := R
  have ft : t.fits es.size = true := ok.tx.fit
  have z : es.size = l.length := ok.tx.sz
  have sb : es.size < scanBound := by omega
  refine Calls.call_function_entry kind_sorted plain_sorted entry_sorted (args_sorted1 _) ?_
  unfold Builtin.«sorted»
  refine wpAny_bind (m := checkCount "sorted" 1 1 _) (wpAny_pure ?_)
  refine wpAny_bind (collect_set (A := A.in1) hh ⟨_, ho, rfl, rfl⟩ ft sb ok.up ok.led fun s1 vs k1 hz g1 o1 pm => ?_)
  obtain ⟨ks, hS, mem, hlen⟩ := texts_of ok.tx.el vs fun v hv => pm.mem_iff.mp hv
  have vl : vs.length = l.length := by rw [pm.length_eq, List.length_map, Array.length_toList]; exact z
  have pk : ks.Perm l := perm_of_sub l ks ok.nd (fun k hk => by
    obtain ⟨e, he, q⟩ := (ok.tx.mem k).mp hk
    exact (mem k).mpr ⟨e.2, pm.mem_iff.mpr (List.mem_map.mpr ⟨e, he, rfl⟩), q⟩) (by omega)
  have szl : vs.length ≤ sizeLine := by
    rw [vl, sizeLine_eq]
    unfold scanBound at hsb
    omega
  refine wpAny_bind (wpAny_newList ?_ szl)
  have hoL : (s1.heap.push (seqObj "list" vs.toArray 0)).get? s1.heap.objs.size = some (seqObj "list" vs.toArray 0) := Heap.get?_push_size _ rfl
  have ei := each_of hS
  have un : ∀ d, d ∈ ks.map (fun x => PyData.str x) → A.in1.in1.units + d.depth < cLine := fun d hd => by
    obtain ⟨b, _, rfl⟩ := List.mem_map.mp hd
    have u1 : A.in1.in1.units ≤ A.units + 2 := by first | exact Nat.le_refl _ | simp [Around.in1]
    simp only [PyData.depth]
    omega
  have er : EachIs (fun v x => ∃ as, Reads (sortingHeap (s1.heap.push (seqObj "list" vs.toArray 0)) s1.heap.objs.size vs) v (PyData.str x) as) vs ks := reads_of ei
  refine wpAny_bind (wpAny_holding (wpAny_call_entry slot_list_sort ⟨_, hoL, rfl⟩ entry_list_sort
    (list_sort_vals (s := { s1 with heap := s1.heap.push (seqObj "list" vs.toArray 0) }) hoL (SortsAt.data (s := { s1 with heap := sortingHeap (s1.heap.push (seqObj "list" vs.toArray 0)) s1.heap.objs.size vs }) (each_map (R := fun v x => ∃ as, Reads (sortingHeap (s1.heap.push (seqObj "list" vs.toArray 0)) s1.heap.objs.size vs) v x as) (fun x : Str => PyData.str x) er) (al_strs ks) (so_strs ks) un) szl ?_) (args_list_sort _)))
  have eo := sortVals_data false ei er (al_strs ks)
  generalize sortVals (dataKind (sortingHeap (s1.heap.push (seqObj "list" vs.toArray 0)) s1.heap.objs.size vs) (ks.map fun x => PyData.str x)) false vs vs = out at eo ⊢
  obtain ⟨c, hc⟩ := sortedHeap_at (vs := vs) (out := out.toArray) hoL
  refine ⟨_, rfl, wpAny_pure ⟨_, rfl, hQ _ s1.heap.objs.size _ c (ks.mergeSort leS) (fun b u e => ?_) g1 o1 hz hc (strs_of eo) ((ms_perm ks).trans pk) (ms_sorted ks)⟩⟩
  have q := k1 b u e
  have lt := Heap.lt_size q
  show (sortedHeap (s1.heap.push (seqObj "list" vs.toArray 0)) s1.heap.objs.size vs _).get? b = some u
  rw [sortedHeap_old (Nat.ne_of_lt lt) (by rw [Heap.size_push]; exact Nat.lt_succ_of_lt lt)]
  exact Heap.get?_push_of_some _ q
end
section
variable {X : Cx}
/-- sorted(set of texts): of any length -/
def rSortTx (P : Program) (w : World) : List V → Hp → VK → Prop := fun vs H Q => ∃ (a : Addr) (l : List Str), vs = [V.ref a] ∧ H a = some (TX.SetTx P w a l) ∧ l.length < scanBound ∧
  ∀ (ys : List Str) (p : Addr), ys.Perm l → sortedS ys = true → H p = none → Q (.ref p) (upd H p (.lst (ys.map V.str)))
theorem cr_sortTx (hc : X.calm = true) (hu : X.A.units + 66 < cLine) : CallR X (.builtin "sorted") (rSortTx X.prog X.w) := by
  intro pins s σ H vs us Q I r h
  obtain ⟨a, l, rfl, ha, hsb, q⟩ := h
  have R : TX.At X.prog X.w s.heap a l := (I.hok a _ ha).1
  rw [Vals.ref1 r]
  refine sorted_atB R (I.ok.hd hc) hsb (by omega) fun s' p out c ys k g o hp hg hi pm so => ?_
  have hlen : (ys.map V.str).length ≤ sizeLine := by
    rw [List.length_map, pm.length_eq, sizeLine_eq]
    unfold scanBound at hsb
    omega
  have hn : H p = none := I.hok.fresh hp
  have J : Inv X pins σ (upd H p (.lst (ys.map V.str))) { s with heap := s'.heap, gens := s'.gens, drawn := s'.drawn, toks := s'.toks } :=
    I.call (ch := []) (Un.laid k hp hn) (I.hok.laid k hp ⟨hlen, out.toList, c, vals_of_strs hi, hg⟩) (by rw [g]; exact I.bare) (fun _ z => nomatch z)
  have e : s' = { s with heap := s'.heap, gens := s'.gens, drawn := s'.drawn, toks := s'.toks } := by
    cases s'
    cases s
    cases o
    rfl
  rw [e]
  exact ⟨.ref p, _, J, rfl, q ys p pm so hn⟩
/-- sorted(xs), xs a list of texts of any length -/
def rSortedS (K : PySem.W.Frag) : List V → Hp → VK → Prop := fun vs H Q => ∃ (a : Addr) (xs : List Str), vs = [V.ref a] ∧ SqL K H a (xs.map V.str) ∧ xs.length ≤ sizeLine ∧
  ∀ (ys : List Str) (p : Addr), ys.Perm xs → sortedS ys = true → H p = none → Q (.ref p) (upd H p (.lst (ys.map V.str)))
theorem cr_sortedS (hu : X.A.units + 66 < cLine) : CallR X (.builtin "sorted") (rSortedS X.K) := by
  intro pins s σ H vs us Q I r h
  obtain ⟨a, xs, rfl, hs, hL, q⟩ := h
  obtain ⟨its, rv, hl, _⟩ := I.list hs
  rw [Vals.ref1 r]
  have ei := each_of rv.strs
  refine sorted_data (enc := fun x : Str => PyData.str x) hl.isList ei (reads_of ei) (al_strs xs) (so_strs xs) hL (fun b _ => ?_) fun out hlen eo => ?_
  · show _ + 2 + (PyData.str _).depth < _
    simp only [PyData.depth]
    omega
  · obtain ⟨c, hc⟩ := sortedAll_at s.heap its out.toArray
    have hn : H (s.heap.objs.size + 1) = none := I.hok.fresh (Nat.le_succ _)
    refine ⟨.ref _, upd H (s.heap.objs.size + 1) (.lst ((xs.mergeSort leS).map V.str)), I.laid (t' := s.toks) (fun _ _ => sortedAll_old) (Nat.le_succ _) ⟨?_, out, c, vals_of eo, hc⟩, rfl, q _ _ (ms_perm xs) (ms_sorted xs) hn⟩
    rw [List.length_map, List.length_mergeSort]
    exact hL
end
end TXB
/-! {k: v for ..} with keys that are nested tuples -/
namespace ND
open PySem PySem.Spec PyProof.Rows L2
set_option autoImplicit false
section
variable {X : Cx}
/-- one more pair, put in by the comprehension -/
theorem putD {pins : List (Addr × Obj)} {σ : L2.St} {H : Hp} {s : Shared} {E : Value → Shared → Prop} {D b : Addr}
    {kvs : List Ent} {k : NestedKey} {v : V} {r : Value} {Q : Unit → Shared → Prop} (hu : X.A.units + 9 < cLine)
    (I : Inv X pins σ H s) (g : H D = some (DO X.prog X.w D kvs)) (oks : KOks X.K H kvs) (key : NK X.K H k (.ref b))
    (dep : k.depth ≤ 8) (few : kvs.length < sizeLine) (rv : RelV v r)
    (q : ∀ s', Inv X pins σ (upd H D (DO X.prog X.w D (putN kvs k b v))) s' → Q () s') :
    wpAny (model X.prog X.w) X.A (dictSet D (.ref b) r) Q E s := by
  obtain ⟨nsys, _, raws, rel, dd⟩ := do_at I (.inl g) oks
  have rl : raws.length ≤ sizeLine := by
    have := rel.len
    omega
  have room : (nestedKind X.prog X.w).room X.A := by
    show X.A.units + 8 < cLine
    omega
  refine wpAny_dictSet_heap (hsz := rl) room (key_at I key dep) dd fun h1 dd1 but => q _ ?_
  have has : ∃ o, h1.get? D = some o := by
    obtain ⟨o, _, _, e, _⟩ := dd1
    exact ⟨o, e⟩
  have le := putN_len kvs k b v
  exact d_write I (by rw [g]; exact True.intro) but has (do_new nsys (by omega) (rel.put rv) dd1)
/-- what a turn leaves: the pair in the dict D, then on -/
def PutIn (P : Program) (w : World) (K : PySem.W.Frag) (D : Addr) (y z : V) (H : Hp) (Nx : Hp → Prop) : Prop :=
  ∃ (b : Addr) (kvs : List Ent) (k : NestedKey), y = .ref b ∧ H D = some (DO P w D kvs) ∧ KOks K H kvs ∧
    NK K H k (.ref b) ∧ k.depth ≤ 8 ∧ kvs.length < sizeLine ∧ Nx (upd H D (DO P w D (putN kvs k b z)))
def TurnD (P : Program) (w : World) (K : PySem.W.Frag) (D : Addr) (g : TG) (tt : TT) (tk tv : TE) (vs : List Nat) (σ : L2.St) (Nx : Hp → Prop) (x : V) (H : Hp) : Prop :=
  g x (wipe σ vs) H fun σ2 H2 => wipe σ2 vs = wipe σ vs ∧ tt σ2 H2 fun b H3 =>
    if b = true then tk σ2 H3 fun y H4 => tv σ2 H4 fun z H5 => PutIn P w K D y z H5 Nx else Nx H3
def tDcN (P : Program) (w : World) (K : PySem.W.Frag) (wi : TI) (g : TG) (tt : TT) (tk tv : TE) (vs : List Nat) : TE := fun σ H Q => wi σ H fun J H1 =>
  ∀ D, H1 D = none → ∃ W : Nat → Nat → Hp → Prop, (∃ m, W 0 m (upd H1 D (DO P w D []))) ∧ ∀ i m H, W i m H →
    (J.stop i H ∧ Q (.ref D) H) ∨ (J.go i H ∧ ∃ Nx : Hp → Prop, (∀ H', Nx H' → ∃ m', m' < m ∧ W (i + 1) m' H') ∧
      ∀ x H', J.yld i H x H' → TurnD P w K D g tt tk tv vs σ Nx x H')
def InBlk (X : Cx) (scope : Scope) (p : Cx → Prop) : Prop :=
  ∀ (s : Shared) (H : Hp) (C : Addr) (cl : List (Str × Addr)) (fp : List Addr), p (X.blk s H scope (compEnvC scope cl C X.env) fp)
/-- a run that raises nothing, under any way to raise -/
theorem calmE {α : Type} {t : Sem α} {Q Q' : α → Shared → Prop} {M : Model} {A : Around} {E E' : Value → Shared → Prop} {s : Shared}
    (hx : ∀ v s, E v s → False) (h : wpAny M A t Q E s) (hQ : ∀ a s, Q a s → Q' a s) : wpAny M A t Q' E' s :=
  wpAny_mono h hQ fun _ _ z => (hx _ _ z).elim
/-- one turn of the block -/
theorem turnD {Y : Cx} {pins : List (Addr × Obj)} {kx vx tg : PySem.Expr} {ifs : List PySem.Expr} {g : TG} {tt : TT} {tk tv : TE} {vs : List Nat} {σ : L2.St} {D : Addr} {Nx : Hp → Prop} {x : V} {u : Value} {s : Shared} {H : Hp}
    {m : Nat} {Iv : Nat → Shared → Prop} {E : Value → Shared → Prop} (hx : ∀ v s, Y.xe v s → False) (hu : Y.A.units + 9 < cLine) (pg : PG Y tg g) (pt : PTs Y ifs tt) (pk : PE Y kx tk) (pv : PE Y vx tv)
    (I : Inv Y pins (wipe σ vs) H s) (rx : RelV x u) (q : TurnD Y.prog Y.w Y.K D g tt tk tv vs σ Nx x H)
    (fin : ∀ σ' s' H', wipe σ' vs = wipe σ vs → Inv Y pins σ' H' s' → Nx H' → ∃ j, j < m ∧ Iv j s') :
    wpAny (model Y.prog Y.w) Y.A (assign tg Y.env u) (fun _ t1 =>
      wpAny (model Y.prog Y.w) Y.A (forIn ifs true fun c r => if r = true then do let ok ← isTrue c Y.env (eval c Y.env); pure (ForInStep.yield ok) else pure (ForInStep.yield r)) (fun ok t2 =>
        if ok = true then
          wpAny (model Y.prog Y.w) Y.A (eval kx Y.env) (fun kv t3 =>
            wpAny (model Y.prog Y.w) Y.A (eval vx Y.env) (fun vv t4 =>
              wpAny (model Y.prog Y.w) Y.A (dictSet D kv vv) (fun _ t5 => ∃ j, j < m ∧ Iv j t5) E t4) E t3) E t2
        else ∃ j, j < m ∧ Iv j t2) E t1) E s := by
  refine calmE hx (pg.run _ s _ H x u _ I rx q) fun _ t1 ⟨σ1, H1, I1, w1, q1⟩ => ?_
  refine calmE hx (pt.run _ t1 σ1 H1 _ I1 q1) fun b t2 ⟨H2, I2, q2⟩ => ?_
  cases b
  · exact fin σ1 t2 H2 w1 I2 q2
  · refine calmE hx (pk.run _ t2 σ1 H2 _ I2 q2) fun kv t3 ⟨y, H3, I3, ry, q3⟩ => ?_
    refine calmE hx (pv.run _ t3 σ1 H3 _ I3 q3) fun vv t4 ⟨z, H4, I4, rz, b, kvs, k, ey, gD, oks, key, dep, few, nx⟩ => ?_
    subst ey
    obtain rfl : kv = Value.ref b := ry
    exact putD hu I4 gD oks key dep few rz fun t5 I5 => fin σ1 t5 _ w1 I5 nx
/-- {k: v for target in iter if ..}: its value -/
theorem pe_dcN {kx vx tg iter : PySem.Expr} {ifs : List PySem.Expr} {scope : Scope} {own : List (Str × Nat)} {pos : Pos} {wi : TI} {g : TG} {tt : TT} {tk tv : TE}
    (hu : X.A.units + 9 < cLine) (hc : X.calm = true) (hN : X.N.Nodup) (hi : PI X tg iter wi) (ok : BlkOk X.N X.env.scope scope own)
    (hg : InBlk X scope fun Y => PG Y tg g) (ht : InBlk X scope fun Y => PTs Y ifs tt) (hk : InBlk X scope fun Y => PE Y kx tk) (hv : InBlk X scope fun Y => PE Y vx tv)
    (hs : ∀ x, foldedSetIterable iter X.env x = pure x := by intro _; rfl) :
    PE X (.DictComp kx vx [⟨tg, iter, ifs, 0⟩] scope pos) (tDcN X.prog X.w X.K wi g tt tk tv (own.map (·.2))) := by
  refine ⟨fun pins s σ H Q I h => ?_⟩
  rw [arm_eval_DictComp]
  have frees : ∀ y ∈ scope.names, y.2 = .free → ∃ c, X.env.cells.lookup y.1 = some c := fun y hy e =>
    (ok.free y hy e).elim (fun k => I.ok.has _ (.inl k)) (fun k => I.ok.has _ (.inr k))
  refine wpAny_comprehension_free (use := none) rfl hs (closure_ok frees) ok.kind (fun y hy e => (ok.uniq y hy).trans (congrArg some e)) ?_
  refine thn (hi.run pins s σ H _ I h) fun xv s1 hx => thn hx fun itv s2 ⟨it, fp, tn, J, H2, e, I2, T, st2, f2, q⟩ => ?_
  subst e
  refine wpAny_newObj_type (newEnv_comp ?_)
  obtain ⟨nd, end_⟩ : ∃ d : Obj, d = { cls := .type "dict", data := .dict #[] } := ⟨_, rfl⟩
  rw [← end_]
  obtain ⟨s3, e3⟩ : ∃ t : Shared, t = { s2 with heap := s2.heap.push nd } := ⟨_, rfl⟩
  obtain ⟨D, eD⟩ : ∃ D, D = s2.heap.objs.size := ⟨_, rfl⟩
  have hp3 : s3.heap = s2.heap.push nd := by rw [e3]
  have gone : H2 D = none := I2.hok.fresh (Nat.le_of_eq eD.symm)
  obtain ⟨W, ⟨m0, w0⟩, turn⟩ := q D gone
  have I3 : Inv X pins σ (upd H2 D (DO X.prog X.w D [])) s3 := by
    rw [e3]
    refine I2.laid (t' := s2.toks) (fun b o e => Heap.get?_push_of_some _ e) (Nat.le_of_eq eD.symm) ?_
    rw [eD, end_]
    exact do_new (xs := []) (beq_eq_false_iff_ne.mpr (Ne.symm (Nat.ne_of_lt I2.big))) (Nat.zero_le _) .nil (Heap.DictOfH.new s2.heap)
  -- what the loop goes through lies elsewhere
  have low : ∀ b ∈ fp, b < D := fun b hb => by
    obtain ⟨o, e, _⟩ := T.obj _ _ st2 b hb
    rw [eD]
    exact Heap.lt_size e
  have f3 : ∀ b ∈ fp, FpOk X pins (upd H2 D (DO X.prog X.w D [])) b ∧ b < s3.heap.objs.size := fun b hb => by
    have lt := low b hb
    refine ⟨⟨(upd_ne (Nat.ne_of_lt lt)).trans (f2 b hb).1, (f2 b hb).2⟩, ?_⟩
    rw [hp3, Heap.size_push, ← eD]
    exact Nat.lt_succ_of_lt lt
  have st3 : tn 0 s3.heap := T.keep _ _ _ st2 fun b _ o e => by
    rw [hp3]
    exact Heap.get?_push_of_some _ e
  have I4 := block_start I3 ok hN f3
  have none3 : ∀ b ∈ fp, (upd H2 D (DO X.prog X.w D [])) b = none := fun b hb => (f3 b hb).1.1
  obtain ⟨C, eC⟩ : ∃ C, C = s3.heap.objs.size := ⟨_, rfl⟩
  obtain ⟨cl, ecl⟩ : ∃ cl, cl = cellsFrom (s3.heap.objs.size + 1) scope.names (cloFrom X.env.cells scope.names []) := ⟨_, rfl⟩
  obtain ⟨ev, eev⟩ : ∃ ev, ev = compEnvC scope cl C X.env := ⟨_, rfl⟩
  have atC : ev.locals = s3.heap.objs.size := by
    rw [eev, ← eC]
    rfl
  have pg := hg s3 (upd H2 D (DO X.prog X.w D [])) C cl fp
  have pt := ht s3 (upd H2 D (DO X.prog X.w D [])) C cl fp
  have pk := hk s3 (upd H2 D (DO X.prog X.w D [])) C cl fp
  have pv := hv s3 (upd H2 D (DO X.prog X.w D [])) C cl fp
  rw [← eev] at pg pt pk pv
  rw [← ecl, ← eC, ← eev] at I4
  have goal : codeAny (model X.prog X.w) X.A (.compStart (.DictComp kx vx [⟨tg, iter, ifs, 0⟩] scope pos) 0 (.ref it) (.ref D) ev) (compPost (model X.prog X.w) X.A X.xe none (EP X pins σ Q) (.ref D) C) { s3 with heap := pushCells (s3.heap.push { cls := .type "dict", data := .dict #[] }) scope.names } := ?_
  · rw [eev, ecl, eC, e3, eD, ← end_] at goal
    exact goal
  generalize hH3 : upd H2 D (DO X.prog X.w D []) = H3 at I3 I4 pg pt pk pv w0 none3 f3
  generalize hs4 : ({ s3 with heap := pushCells (s3.heap.push { cls := .type "dict", data := .dict #[] }) scope.names } : Shared) = s4 at I4 ⊢
  have st4 : tn 0 s4.heap := T.keep _ _ _ st3 fun b _ o e => by
    rw [← hs4]
    exact pushCells_keeps _ _ _ _ (Heap.get?_push_of_some _ e)
  have quiet : ∀ v s, (X.blk s3 H3 scope ev fp).xe v s → False := fun _ _ z => z
  have keeps : ∀ {σ' : L2.St} {H' : Hp} {s' : Shared}, Inv (X.blk s3 H3 scope ev fp) [] σ' H' s' → (∀ b ∈ fp, H' b = none) → ∀ b ∈ fp, FpOk (X.blk s3 H3 scope ev fp) [] H' b :=
    fun {σ' H' s'} J' nb b hb => ⟨nb b hb, (J'.ok.exf b hb).1, J'.ok.exfs b hb, .inl hb, fun x c e => (J'.ok.exf b hb).2 x c e, fun p hp => (by simp at hp : False).elim⟩
  have loop : codeAny (model X.prog X.w) X.A (.compLoop (.DictComp kx vx [⟨tg, iter, ifs, 0⟩] scope pos) 0 (.ref it) (.ref D) ev) (compPost (model X.prog X.w) X.A X.xe none (EP X pins σ Q) (.ref D) C) s4 := by
    refine compLoop_anyD (fun n t => ∃ i G, Inv (X.blk s3 H3 scope ev fp) [] (wipe σ (own.map (·.2))) G t ∧ tn i t.heap ∧ (∀ b ∈ fp, G b = none) ∧ W i n G) ?_ m0 ⟨0, H3, I4, st4, none3, w0⟩
    rintro n s5 ⟨i, G, I5, st5, n5, w5⟩
    rcases turn i n G w5 with ⟨stop, done⟩ | ⟨go, Nx, down, step⟩
    · refine thnF (T.done (X.blk s3 H3 scope ev fp) rfl rfl rfl hc i [] s5 _ G (fun _ _ => False) I5 (keeps I5 n5) st5 stop) fun r s6 ⟨er, I6⟩ => ?_
      subst er
      have I7 : Inv X pins σ G s6 := I3.call' (ch := fp) I6.os I6.base I6.hok I6.bare fun b hb =>
        let z := (f3 b hb).1.2
        ⟨z.2.2.1, z.1, z.2.2.2.1, z.2.2.2.2⟩
      have nC : G s3.heap.objs.size = none := atC ▸ (show G ev.locals = none from I6.free)
      obtain ⟨mm, ns, _⟩ := I6.loc
      have ns : s6.heap.Ns C mm := by
        rw [eC, ← atC]
        exact ns
      obtain ⟨z0, z1, _, z3, z4, z5⟩ := I3.fpOk (Nat.le_refl _) nC
      rw [← eC] at z0 z1 z3 z4 z5
      exact ⟨mm, ns, fun h2 sb => ⟨.ref D, G, I7.turned (t' := s6.toks) (fun b o hb e => (sb.2 b hb).trans e) z0 z1 z3 z4 z5, rfl, done⟩⟩
    · refine thnF (T.item (X.blk s3 H3 scope ev fp) rfl rfl rfl hc i [] s5 _ G (fun _ _ => False) I5 (keeps I5 n5) st5 go) fun r s6 ⟨u, er, h6⟩ => ?_
      subst er
      refine thnF h6 fun _ s7 ⟨x, H7, I7, r7, y7, st7, n7⟩ => ?_
      refine turnD (Y := X.blk s3 H3 scope ev fp) (Iv := fun n t => ∃ i G, Inv (X.blk s3 H3 scope ev fp) [] (wipe σ (own.map (·.2))) G t ∧ tn i t.heap ∧ (∀ b ∈ fp, G b = none) ∧ W i n G) quiet hu pg pt pk pv (I7.pinned (keeps I7 n7) (T.obj _ _ st7)) r7 (step x H7 y7) fun σ' s' G' ww Jv nx => ?_
      obtain ⟨j, lt, w'⟩ := down G' nx
      have pin : ∀ b ∈ fp, ∀ o, s7.heap.get? b = some o → s'.heap.get? b = some o ∧ G' b = none := fun b hb o e =>
        have z := Jv.pin (b, o) (List.mem_append_right _ (List.mem_append_right _ (mem_pinsAt hb e)))
        ⟨z.1, z.2.1⟩
      refine ⟨j, lt, i + 1, G', (Jv.unpinned (pins := [])).weak ?_ fun l v e => ?_, T.keep _ _ _ st7 fun b hb o e => (pin b hb o e).1, fun b hb => ?_, w'⟩
      · rw [← ww, wipe_length]
      · rw [← ww] at e
        exact (wipe_some e).1
      · obtain ⟨o, e, _⟩ := T.obj _ _ st7 b hb
        exact (pin b hb o e).2
  exact codeAny_compStart_dict loop (T.self X.A 0 _ _ _ st4 loop)
end
end ND
namespace ND
open PySem PySem.Spec PyProof.Rows L2
set_option autoImplicit false
/-- by a walk -/
theorem dcN_it {P : Program} {w0 : World} {K : PySem.W.Frag} {J : It} {n : Nat} {G : Hp → Prop} {Y : Nat → Hp → V → Hp → Prop} (w : Walk J n G Y) {g : TG} {tt : TT} {tk tv : TE} {vs : List Nat} {σ : L2.St} {H1 : Hp} {D : Addr} {Qd : Hp → Prop}
    (Pv : Nat → Hp → Prop) (h0 : Pv 0 (upd H1 D (DO P w0 D []))) (hG : ∀ i H, i ≤ n → Pv i H → G H)
    (hs : ∀ i x H H', i < n → Pv i H → Y i H x H' → TurnD P w0 K D g tt tk tv vs σ (Pv (i + 1)) x H') (hd : ∀ H, Pv n H → Qd H) :
    ∃ W : Nat → Nat → Hp → Prop, (∃ m, W 0 m (upd H1 D (DO P w0 D []))) ∧ ∀ i m H, W i m H →
      (J.stop i H ∧ Qd H) ∨ (J.go i H ∧ ∃ Nx : Hp → Prop, (∀ H', Nx H' → ∃ m', m' < m ∧ W (i + 1) m' H') ∧
        ∀ x H', J.yld i H x H' → TurnD P w0 K D g tt tk tv vs σ Nx x H') := by
  refine ⟨fun i m H => i ≤ n ∧ m = n - i ∧ Pv i H, ⟨n, Nat.zero_le _, rfl, h0⟩, ?_⟩
  rintro i m H ⟨hi, rfl, p⟩
  rcases Nat.lt_or_eq_of_le hi with lt | e
  · exact .inr ⟨w.goes i H lt (hG i H hi p), Pv (i + 1), fun H' p' => ⟨n - (i + 1), by omega, lt, rfl, p'⟩, fun x H' y => hs i x H H' lt p (w.yields i H x H' lt (hG i H hi p) y)⟩
  · subst e
    exact .inl ⟨w.stops H (hG i H hi p), hd H p⟩
end ND
/-! sets whose items are tuples at any depth (to eight) of texts, numbers, None: {f(x) for x in xs}, sorted(set); fewer than 64 items -/
namespace NSet
open PySem PySem.Spec PyProof.Rows L2 PySem.W
set_option autoImplicit false
abbrev KIt : Type := Addr × NestedKey
def KeyAt (g : Heap) (z : KIt) : Prop := NestedIs g z.2 (.ref z.1) ∧ z.2.depth ≤ 8
abbrev hs1 (w : World) (k : NestedKey) : Int := k.hash w
def ent1 (w : World) (z : KIt) : Int × Value := (hs1 w z.2, .ref z.1)
theorem KeyAt.up {g g' : Heap} {z : KIt} (q : KeyAt g z) (m : ∀ b o, g.get? b = some o → g'.get? b = some o) : KeyAt g' z := ⟨NestedIs.at (fun b o _ _ e _ => m b o e) _ _ q.1, q.2⟩
theorem KeyAt.but {g g' : Heap} {z : KIt} {d : Addr} {o : Obj} {r : Array (Int × Value)} {n : Nat} {T : SetTable} (q : KeyAt g z) (e : g.get? d = some o) (f : o.data = .set r n T) (m : Heap.SameBut d g g') : KeyAt g' z := by
  refine ⟨NestedIs.at (fun b ob vs k h1 h2 => (m.2 b fun x => ?_).trans h1) _ _ q.1, q.2⟩
  rw [x, e] at h1
  cases h1
  rw [f] at h2
  cases h2
theorem KeyAt.one {g : Heap} {y z : KIt} (a : KeyAt g y) (b : KeyAt g z) (e : y.1 = z.1) : y = z := by
  refine Prod.ext e ?_
  have b1 := b.1
  rw [← e] at b1
  exact NestedIs.inj _ _ _ a.1 b1
section
variable {P : Program} {w : World}
/-! ### questions about keys that the search asks -/
def NoC (P : Program) (w : World) (n : Nat) (s : Shared) (v : Value) : Prop := ∀ (B : Around) (E : Value → Shared → Prop) (Q : Bool → Shared → Prop), Q false s → wpAny (model P w) B (ofAClassStatement n v) Q E s
def Hby (P : Program) (w : World) (n : Nat) (s : Shared) (v : Value) : Prop := ∀ (B : Around) (E : Value → Shared → Prop) (Q : Bool → Shared → Prop), (∀ b, Q b s) → wpAny (model P w) B (hashByValue n v) Q E s
theorem NoC.tup {n : Nat} {s : Shared} {b : Addr} {o : Obj} {vs : Array Value} {m : Nat} (e1 : s.heap.get? b = some o) (e2 : o.cls = .type "tuple") (e3 : o.data = .seq vs m) (hq : ∀ v ∈ vs.toList, NoC P w n s v) : NoC P w (n + 1) s (.ref b) := fun B E Q h => by
  have tT : s.TypeIs (.ref b) "tuple" := ⟨o, e1, e2⟩
  unfold ofAClassStatement
  refine wpAny_bind (wpAny_typeOf tT ?_)
  dsimp only
  rw [show (("tuple" : String) == "tuple") = true from by decide]
  simp only [if_true, Bool.not_true, Bool.false_eq_true, if_false]
  try refine wpAny_bind (wpAny_pure ?_)
  try simp only [Bool.not_true, Bool.false_eq_true, if_false]
  refine wpAny_bind (wpAny_seqItems e1 e3 ?_)
  dsimp only
  refine wpAny_bind ?_
  show wpAny _ _ (forIn vs _ _) _ _ s
  rw [← Array.forIn_toList]
  refine wpAny_forIn_list _ (fun l r t => r.1 = none ∧ t = s ∧ ∀ v ∈ l, NoC P w n s v) _ ?_ ?_ _ _ ⟨rfl, rfl, hq⟩
  · rintro v l r t ⟨_, rfl, al⟩
    refine wpAny_bind (al v List.mem_cons_self _ _ _ ?_)
    simp only [Bool.false_eq_true, if_false]
    exact wpAny_pure ⟨rfl, rfl, fun u q => al u (List.mem_cons_of_mem _ q)⟩
  · rintro ⟨r1, r2⟩ t ⟨z, rfl, _⟩
    simp only at z
    subst z
    exact wpAny_pure h
theorem Hby.tup {n : Nat} {s : Shared} {b : Addr} {o : Obj} {vs : Array Value} {m : Nat} (e1 : s.heap.get? b = some o) (e2 : o.cls = .type "tuple") (e3 : o.data = .seq vs m) (hq : ∀ v ∈ vs.toList, Hby P w n s v) : Hby P w (n + 1) s (.ref b) := fun B E Q h => by
  have tT : s.TypeIs (.ref b) "tuple" := ⟨o, e1, e2⟩
  unfold hashByValue
  refine wpAny_bind (wpAny_specialOf tT F.slot_tuple_hash.lookup ?_)
  dsimp only
  refine wpAny_bind (wpAny_seqItems e1 e3 ?_)
  refine wpAny_bind ?_
  show wpAny _ _ (forIn vs _ _) _ _ s
  rw [← Array.forIn_toList]
  refine wpAny_forIn_list _ (fun l r t => t = s ∧ (r.1 = none ∨ r.1 = some false) ∧ (∀ v ∈ l, Hby P w n s v)) _ ?_ ?_ _ _ ⟨rfl, .inl rfl, hq⟩
  · rintro v l r t ⟨rfl, _, al⟩
    refine wpAny_bind (al v List.mem_cons_self _ _ _ fun c => ?_)
    cases c with
    | true =>
      simp only [Bool.not_true, Bool.false_eq_true, if_false]
      exact wpAny_pure ⟨rfl, .inl rfl, fun u q => al u (List.mem_cons_of_mem _ q)⟩
    | false =>
      simp only [Bool.not_false, if_true]
      exact wpAny_pure (wpAny_pure (h false))
  · rintro ⟨r1, r2⟩ t ⟨rfl, z, _⟩
    rcases z with z | z
    · simp only at z
      subst z
      exact wpAny_pure (h true)
    · simp only at z
      subst z
      exact wpAny_pure (h false)
mutual
theorem noC : ∀ (k : NestedKey) (v : Value) (n : Nat) (s : Shared), NestedIs s.heap k v → k.depth ≤ n → NoC P w n s v
  | .none, _, n, s, x, _ => by cases x; cases n <;> exact fun _ _ _ h => wpAny_pure h
  | .num i, _, n, s, x, _ => by cases x <;> cases n <;> exact fun _ _ _ h => wpAny_pure h
  | .text y, _, n, s, x, _ => by cases x; cases n <;> exact fun _ _ _ h => wpAny_pure h
  | .tup ks, _, n, s, x, dn => by
    cases x with
    | tup e1 e2 e3 e4 =>
      simp only [NestedKey.depth] at dn
      cases n with
      | zero => omega
      | succ n => exact .tup e1 e2 e3 (noCs ks _ n s e4 (by omega))
theorem noCs : ∀ (ks : List NestedKey) (vs : List Value) (n : Nat) (s : Shared), NestedAll s.heap ks vs → NestedKey.depthAll ks ≤ n → ∀ v ∈ vs, NoC P w n s v
  | [], _, n, s, x, _, v, hv => by cases x; cases hv
  | k :: ks, _, n, s, x, dn, v, hv => by
    cases x with
    | cons x1 x2 =>
      simp only [NestedKey.depthAll] at dn
      rcases List.mem_cons.mp hv with e | hv
      · rw [e]
        exact noC k _ n s x1 (by omega)
      · exact noCs ks _ n s x2 (by omega) v hv
end
mutual
theorem hby : ∀ (k : NestedKey) (v : Value) (n : Nat) (s : Shared), NestedIs s.heap k v → k.depth ≤ n → Hby P w n s v
  | .none, _, n, s, x, _ => by cases x; cases n <;> exact fun _ _ _ h => wpAny_pure (h _)
  | .num i, _, n, s, x, _ => by cases x <;> cases n <;> exact fun _ _ _ h => wpAny_pure (h _)
  | .text y, _, n, s, x, _ => by cases x; cases n <;> exact fun _ _ _ h => wpAny_pure (h _)
  | .tup ks, _, n, s, x, dn => by
    cases x with
    | tup e1 e2 e3 e4 =>
      simp only [NestedKey.depth] at dn
      cases n with
      | zero => omega
      | succ n => exact .tup e1 e2 e3 (hbys ks _ n s e4 (by omega))
theorem hbys : ∀ (ks : List NestedKey) (vs : List Value) (n : Nat) (s : Shared), NestedAll s.heap ks vs → NestedKey.depthAll ks ≤ n → ∀ v ∈ vs, Hby P w n s v
  | [], _, n, s, x, _, v, hv => by cases x; cases hv
  | k :: ks, _, n, s, x, dn, v, hv => by
    cases x with
    | cons x1 x2 =>
      simp only [NestedKey.depthAll] at dn
      rcases List.mem_cons.mp hv with e | hv
      · rw [e]
        exact hby k _ n s x1 (by omega)
      · exact hbys ks _ n s x2 (by omega) v hv
end
variable {A : Around} {E : Value → Shared → Prop} {s : Shared}
theorem unseen {z : KIt} (q : KeyAt s.heap z) {ys : List Value} (hy : ∀ y ∈ ys, ∃ z', y = Value.ref z'.1 ∧ KeyAt s.heap z') {Q : Bool → Shared → Prop} (h : Q false s) : wpAny (model P w) A (searchCouldBeSeen (.ref z.1) ys) Q E s := by
  unfold searchCouldBeSeen
  refine wpAny_bind ?_
  refine wpAny_forIn_list _ (fun l r t => r.1 = none ∧ t = s ∧ ∀ y ∈ l, ∃ z', y = Value.ref z'.1 ∧ KeyAt s.heap z') _ ?_ ?_ _ _ ⟨rfl, rfl, hy⟩
  · rintro v l r t ⟨_, rfl, al⟩
    obtain ⟨z', rfl, q'⟩ := al v List.mem_cons_self
    have al' : ∀ y ∈ l, ∃ z', y = Value.ref z'.1 ∧ KeyAt t.heap z' := fun u hu => al u (List.mem_cons_of_mem _ hu)
    dsimp only
    by_cases c : (z.1 == z'.1 || (carriedByValue (.ref z.1) && carriedByValue (.ref z'.1))) = true
    · exact wp_if_pos c (wpAny_pure ⟨rfl, rfl, al'⟩)
    · refine wp_if_neg c ?_
      refine wpAny_bind (quiet_key _ _ 8 t q.1 q.2 _ _ _ ?_)
      simp only [Bool.not_true, Bool.false_eq_true, if_false]
      refine wpAny_bind (quiet_key _ _ 8 t q'.1 q'.2 _ _ _ ?_)
      simp only [Bool.not_true, Bool.false_eq_true, if_false]
      refine wpAny_bind (noC _ _ 8 t q.1 q.2 _ _ _ ?_)
      simp only [Bool.false_eq_true, if_false]
      refine wpAny_bind (noC _ _ 8 t q'.1 q'.2 _ _ _ ?_)
      simp only [Bool.false_eq_true, if_false]
      exact wpAny_pure ⟨rfl, rfl, al'⟩
  · rintro ⟨r1, r2⟩ t ⟨e, rfl, _⟩
    simp only at e
    subst e
    exact wpAny_pure h
end
/-! ### the set -/
def rows1 (w : World) (L : List KIt) : List (Int × Value) := L.map (ent1 w)
def hashs (w : World) (L : List KIt) : List Int := L.map fun z => hs1 w z.2
/-- at a stands a set of the rows L -/
structure NS (w : World) (g : Heap) (a : Addr) (L : List KIt) (r : Array (Int × Value)) (n : Nat) (T : SetTable) : Prop where
  ob : ∃ o, g.get? a = some o ∧ o.ExactSet ∧ o.data = .set r n T
  rw : r.toList = rows1 w L
  tb : TabOk T (hashs w L)
  nd : (L.map (·.2)).Nodup
  ky : ∀ z ∈ L, KeyAt g z
  ld : w.params.followText "set-order" = true ∨ T.led = true
  rm : L.length * 5 < T.mask * 3
  fw : L.length < 64
theorem rows_len {w : World} {L : List KIt} {r : Array (Int × Value)} (h : r.toList = rows1 w L) : r.size = L.length := by
  have z := congrArg List.length h
  unfold rows1 at z
  rwa [Array.length_toList, List.length_map] at z
theorem hashs_len (w : World) (L : List KIt) : (hashs w L).length = L.length := List.length_map _
section
variable {P : Program} {w : World} {A : Around} {E : Value → Shared → Prop} {s : Shared} {a : Addr} {L : List KIt} {r : Array (Int × Value)} {n : Nat} {T : SetTable}
theorem NS.fits {g : Heap} (R : NS w g a L r n T) : T.fits r.size = true := by
  have z1 := R.tb.sz
  rw [hashs_len] at z1
  have z2 := rows_len R.rw
  have z3 := R.rm
  unfold SetTable.fits SetTable.fill
  rw [R.tb.dm, Bool.and_eq_true, beq_iff_eq, decide_eq_true_eq]
  exact ⟨by omega, by simp; omega⟩
theorem NS.at {g : Heap} (R : NS w g a L r n T) {i : Nat} {z : KIt} (h : L[i]? = some z) : r[i]? = some (ent1 w z) := by
  rw [← Array.getElem?_toList, R.rw]
  unfold rows1
  rw [List.getElem?_map, h]
  rfl
theorem NS.open {g : Heap} (R : NS w g a L r n T) : ¬ T.gaveWay = true := by
  unfold SetTable.gaveWay
  rw [mask_odd R.tb.mok]
  decide
theorem NS.up {g g' : Heap} (R : NS w g a L r n T) (m : ∀ b o, g.get? b = some o → g'.get? b = some o) : NS w g' a L r n T := by
  obtain ⟨o, e, q⟩ := R.ob
  exact ⟨⟨o, m _ _ e, q⟩, R.rw, R.tb, R.nd, fun z hz => (R.ky z hz).up m, R.ld, R.rm, R.fw⟩
theorem plainDummy (m : Nat) : ∀ (c : Nat) (p : SetTable.Probe), p.dummy = none → (nth m p c).dummy = none
  | 0, _, h => h
  | c + 1, p, h => plainDummy m c (adv m p) (by unfold adv; split <;> exact h)
/-- looking for a key on its way from step c on; K: the first empty place of the way -/
theorem look_from (R : NS w s.heap a L r n T) {z : KIt} (hz : KeyAt s.heap z) (hu : A.units + 8 < cLine) {K : Nat} (kf : K < 10 * SetTable.turns T.mask) (kn : way T.mask (hs1 w z.2) K ∉ T.place.toList)
    (kb : ∀ c, c < K → way T.mask (hs1 w z.2) c ∈ T.place.toList) {Q : SetFound → Shared → Prop} (yes : z.2 ∈ L.map (·.2) → Q (.there none) s) (no : z.2 ∉ L.map (·.2) → Q (.free (way T.mask (hs1 w z.2) K) false) s) :
    ∀ (f c : Nat) (at0 : Option SetTable.Probe), at0.getD (T.probeStart (hs1 w z.2)) = nth T.mask (runAt T.mask (SetTable.bits (hs1 w z.2) % (T.mask + 1)) (SetTable.bits (hs1 w z.2))) c → c ≤ K → K < f + c →
      (∀ (i : Nat) y, L[i]? = some y → y.2 = z.2 → ∃ d, c ≤ d ∧ d < K ∧ T.place.toList[i]? = some (way T.mask (hs1 w z.2) d)) →
      wpAny (model P w) A (setSearchFrom a (.ref z.1) (hs1 w z.2) true f at0) Q E s
  | 0, c, _, _, l1, l2, _ => by omega
  | f + 1, c, at0, e0, l1, l2, ahead => by
    obtain ⟨o, ho, hx, hd⟩ := R.ob
    rw [setSearchFrom_succ]
    refine wpAny_bind (wpAny_setState_of ho hd R.fits ?_)
    dsimp only
    refine wp_if_neg R.open ?_
    try refine wpAny_bind (wpAny_pure ?_)
    generalize hk : hs1 w z.2 = k at e0 kn kb ahead no ⊢
    generalize hB : runAt T.mask (SetTable.bits k % (T.mask + 1)) (SetTable.bits k) = B at e0
    have dn : (nth T.mask B c).dummy = none := plainDummy _ c B (by rw [← hB]; rfl)
    have wq : ∀ q, (nth T.mask (nth T.mask B c) q).j = way T.mask k (c + q) := fun q => by
      rw [← nth_add, ← hB]
    have lastE : (nth T.mask (nth T.mask B c) (K - c)).j = way T.mask k K := by rw [wq, Nat.add_sub_cancel' l1]
    have hh : ∀ (i : Nat) (y : KIt), L[i]? = some y → (fun i => (r[i]?.map (·.1)).getD 0) i = hs1 w y.2 := fun i y hy => by
      simp only [R.at hy]
      rfl
    rcases go_spec T R.tb.ris R.tb.dm (fun i => (r[i]?.map (·.1)).getD 0) k (10 * SetTable.turns T.mask) (K - c) (nth T.mask B c) dn (by omega) (fun q hq => by rw [wq]; exact kb _ (by omega)) (by rw [lastE]; exact kn) with ⟨q, i, hq, hi, hm, none_before, found⟩ | ⟨none_before, found⟩
    · rw [wq] at hi found
      have pr : T.probe (fun i => (r[i]?.map (·.1)).getD 0) k (at0.getD (T.probeStart k)) = some (.candidate (way T.mask k (c + q)) i (nth T.mask (nth T.mask B c) (q + 1))) := by
        rw [e0]
        exact found
      rw [pr]
      dsimp only
      have il : i < L.length := by
        have z1 := (List.getElem?_eq_some_iff.mp hi).1
        have z2 := R.tb.sz
        rw [hashs_len] at z2
        rw [Array.length_toList] at z1
        omega
      obtain ⟨y, hy⟩ : ∃ y, L[i]? = some y := ⟨_, List.getElem?_eq_getElem il⟩
      have ym := List.mem_of_getElem? hy
      have main : wpAny (model P w) A (searchRest a (.ref z.1) k true f r T (way T.mask k (c + q)) i (nth T.mask (nth T.mask B c) (q + 1))) Q E s := by
        unfold searchRest
        rw [R.at hy]
        dsimp only [ent1]
        refine wpAny_bind (wpAny_holding ((nestedKind P w).eqBool (x := y.2) (y := z.2) hu (R.ky y ym) hz ?_))
        refine wpAny_bind (wpAny_setState_of ho hd R.fits ?_)
        dsimp only
        by_cases same : y.2 = z.2
        · refine wp_if_pos (by simp [same]) (wpAny_pure (yes ?_))
          exact List.mem_map.mpr ⟨y, ym, same⟩
        · refine wp_if_neg (by simp [same]) ?_
          try refine wpAny_bind (wpAny_pure ?_)
          rw [sameMem]
          dsimp only
          have sl : T.slot (way T.mask k (c + q)) = .live i := slot_live R.tb.ris hi
          simp only [if_true, sl, R.at hy]
          refine wpAny_bind (wpAny_isSame_ref_self (wpAny_bind (wpAny_pure ?_)))
          simp only [if_true]
          refine wp_if_neg (by simp [same]) ?_
          rw [← hk]
          refine look_from R hz hu kf (by rw [hk]; exact kn) (by rw [hk]; exact kb) yes (by rw [hk]; exact no) f (c + (q + 1)) _ (by rw [hk, hB]; exact (nth_add _ c B (q + 1)).symm) (by omega) (by omega) fun i' y' h1 h2 => ?_
          rw [hk]
          obtain ⟨d, b1, b2, b3⟩ := ahead i' y' h1 h2
          refine ⟨d, ?_, b2, b3⟩
          have hy' : (fun i => (r[i]?.map (·.1)).getD 0) i' = k := by rw [hh i' y' h1, h2]; exact hk
          by_cases d1 : d < c + q
          · exact absurd hy' (none_before (d - c) i' (by omega) (by rw [wq, Nat.add_sub_cancel' b1]; exact b3))
          · by_cases d2 : d = c + q
            · have s2 := slot_live R.tb.ris b3
              rw [d2, sl] at s2
              injection s2 with s2
              rw [← s2, hy] at h1
              cases h1
              exact absurd h2 same
            · omega
      by_cases led : T.led = true
      · refine wp_if_neg (by simp [led]) ?_
        try refine wpAny_bind (wpAny_pure ?_)
        exact main
      · refine wp_if_pos (by simp [led]) ?_
        refine wpAny_bind (unseen hz (fun u hu => ?_) ?_)
        · obtain ⟨e, he, rfl⟩ := List.mem_map.mp hu
          have h1 : e ∈ r.toList := by
            have : e ∈ r ∧ e.1 = k := by simpa using he
            simpa using this.1
          rw [R.rw] at h1
          obtain ⟨z', hz', rfl⟩ := List.mem_map.mp h1
          exact ⟨z', rfl, R.ky z' hz'⟩
        · refine wp_if_neg (by decide) ?_
          try refine wpAny_bind (wpAny_pure ?_)
          exact main
    · rw [lastE] at found
      have pr : T.probe (fun i => (r[i]?.map (·.1)).getD 0) k (at0.getD (T.probeStart k)) = some (.empty (way T.mask k K) none) := by
        rw [e0]
        exact found
      rw [pr]
      dsimp only
      refine wpAny_pure (no fun hm => ?_)
      obtain ⟨y, ym, ye⟩ := List.mem_map.mp hm
      obtain ⟨i, il, ie⟩ := List.getElem_of_mem ym
      have hy : L[i]? = some y := by rw [List.getElem?_eq_getElem il, ie]
      obtain ⟨d, b1, b2, b3⟩ := ahead i y hy ye
      exact none_before (d - c) i (by omega) (by rw [wq, Nat.add_sub_cancel' b1]; exact b3) ((hh i y hy).trans (by rw [ye]; exact hk))
theorem look (R : NS w s.heap a L r n T) {z : KIt} (hz : KeyAt s.heap z) (hu : A.units + 8 < cLine) {Q : SetFound → Shared → Prop} (yes : z.2 ∈ L.map (·.2) → Q (.there none) s)
    (no : ∀ K, z.2 ∉ L.map (·.2) → way T.mask (hs1 w z.2) K ∉ T.place.toList → (∀ c, c < K → way T.mask (hs1 w z.2) c ∈ T.place.toList) → Q (.free (way T.mask (hs1 w z.2) K) false) s) :
    wpAny (model P w) A (setSearch a (.ref z.1) (hs1 w z.2) true) Q E s := by
  have rm := R.rm
  obtain ⟨K, k1, k2, k3⟩ := R.tb.first (by rw [hashs_len]; omega) (hs1 w z.2)
  have tn : 10 * SetTable.turns T.mask ≤ 1420 := by
    unfold SetTable.turns
    rcases R.tb.mok with e | e | e <;> omega
  unfold setSearch
  refine look_from R hz hu k1 k2 k3 yes (fun h => no K h k2 k3) 100000 0 none rfl (Nat.zero_le _) (by omega) fun i y hy ye => ?_
  have hi : (hashs w L)[i]? = some (hs1 w z.2) := by
    unfold hashs
    rw [List.getElem?_map, hy, ← ye]
    rfl
  have il : i < T.place.toList.length := by
    have z1 := (List.getElem?_eq_some_iff.mp hy).1
    have z2 := R.tb.sz
    rw [hashs_len] at z2
    rw [Array.length_toList]
    omega
  obtain ⟨c, c1, c2⟩ := R.tb.before k2 hi (List.getElem?_eq_getElem il)
  exact ⟨c, Nat.zero_le _, c1, by rw [List.getElem?_eq_getElem il, c2]⟩
theorem rows_ins (w : World) (L : List KIt) (p : Nat) (z : KIt) : rows1 w (L.take p ++ z :: L.drop p) = (rows1 w L).take p ++ ent1 w z :: (rows1 w L).drop p := by
  simp only [rows1, List.map_append, List.map_cons, List.map_take, List.map_drop]
theorem hashs_ins (w : World) (L : List KIt) (p : Nat) (z : KIt) : hashs w (L.take p ++ z :: L.drop p) = (hashs w L).take p ++ hs1 w z.2 :: (hashs w L).drop p := by
  simp only [hashs, List.map_append, List.map_cons, List.map_take, List.map_drop]
theorem order_it {w : World} {L : List KIt} {r : Array (Int × Value)} (hr : r.toList = rows1 w L) (order : Array Nat) (pm : order.toList.Perm (List.range L.length)) :
    ∃ M : List KIt, (order.filterMap (r[·]?)).toList = rows1 w M ∧ M.Perm L ∧ hashs w M = order.toList.map fun i => (r.map (·.1)).getD i 0 := by
  have rn := rows_len hr
  have ra : ∀ i (h : i < L.length), r[i]? = some (ent1 w L[i]) := fun i h => by
    rw [← Array.getElem?_toList, hr]
    unfold rows1
    rw [List.getElem?_map, List.getElem?_eq_getElem h]
    rfl
  have each : ∀ l : List Nat, (∀ i ∈ l, i < L.length) → l.filterMap (fun i => r[i]?) = rows1 w (l.filterMap fun i => L[i]?) ∧ hashs w (l.filterMap fun i => L[i]?) = l.map fun i => (r.map (·.1)).getD i 0 := by
    intro l
    induction l with
    | nil => exact fun _ => ⟨rfl, rfl⟩
    | cons i l ih =>
      intro hl
      have il := hl i List.mem_cons_self
      obtain ⟨i1, i2⟩ := ih fun j hj => hl j (List.mem_cons_of_mem _ hj)
      have e0 : (r.map (·.1)).getD i 0 = hs1 w L[i].2 := by
        rw [Array.getD_eq_getD_getElem?, Array.getElem?_map, ra i il]
        rfl
      rw [List.filterMap_cons_some (ra i il), List.filterMap_cons_some (List.getElem?_eq_getElem il), List.map_cons, i1, e0, ← i2]
      exact ⟨rfl, rfl⟩
  obtain ⟨m1, m2⟩ := each order.toList fun i hi => List.mem_range.mp (pm.mem_iff.mp hi)
  have whole : ∀ m, m ≤ L.length → (List.range m).filterMap (fun i => L[i]?) = L.take m := by
    intro m
    induction m with
    | zero => exact fun _ => rfl
    | succ m ih =>
      intro hm
      rw [List.range_succ, List.filterMap_append, ih (Nat.le_of_succ_le hm), List.take_add_one, List.getElem?_eq_getElem hm, List.filterMap_cons_some (List.getElem?_eq_getElem hm)]
      rfl
  refine ⟨order.toList.filterMap fun i => L[i]?, by rw [← m1]; simp, ?_, m2⟩
  have q := pm.filterMap fun i => L[i]?
  rwa [whole L.length (Nat.le_refl _), List.take_length] at q
theorem relay {o : Obj} (ho : s.heap.get? a = some o) (hx : o.ExactSet) (hd : o.data = .set r n T) (hr : r.toList = rows1 w L) (sz : T.place.size = r.size) (dm : T.dummies = #[]) (fl : r.size ≤ T.mask) (nd : (L.map (·.2)).Nodup) (ky : ∀ z ∈ L, KeyAt s.heap z)
    (ld : w.params.followText "set-order" = true ∨ T.led = true) (fw : L.length < 64) {want M : Nat} (e1 : SetTable.sizeAbove want - 1 = M) (hM : MaskOk M) (e2 : SetTable.sizeAbove want ≤ 128) (rm : L.length * 5 < M * 3) {Q : Unit → Shared → Prop}
    (k : ∀ g' L' r' n' T', Heap.SameBut a s.heap g' → NS w g' a L' r' n' T' → L'.Perm L → Q () { s with heap := g' }) : wpAny (model P w) A (setRelay a want) Q E s := by
  have rn := rows_len hr
  have ft : T.fits r.size = true := by
    unfold SetTable.fits SetTable.fill
    rw [dm, Bool.and_eq_true, beq_iff_eq, decide_eq_true_eq]
    exact ⟨sz, by simp; omega⟩
  obtain ⟨T', order, f1, f2, f3, f4, f5, _, _⟩ := relaid_ok T (hs := r.map (·.1)) (wanted := want) e1 hM (by rw [Array.size_map, rn]; omega)
  rw [Array.size_map, rn] at f2
  obtain ⟨L', g1, g2, g3⟩ := order_it hr order f2
  rw [← g3] at f3
  have sz' : (order.filterMap (r[·]?)).size = r.size := by
    rw [rows_len g1, g2.length_eq, rn]
  rw [setRelay_eq]
  refine wpAny_bind (wpAny_setState_of ho hd ft ?_)
  dsimp only
  refine wp_if_neg (by rw [sizeLine_eq]; omega) ?_
  try refine wpAny_bind (wpAny_pure ?_)
  rw [f1]
  dsimp only
  refine wpAny_bind (wp_if_neg (by rw [sz']; simp) ?_)
  try refine wpAny_bind (wpAny_pure ?_)
  refine wpAny_pure ?_
  dsimp only
  refine wpAny_storeSet_of ho hd ?_ (by rw [sz', rn, sizeLine_eq]; omega)
  have sb : Heap.SameBut a s.heap (s.heap.update a (Obj.putSet (order.filterMap (r[·]?)) T')) := Heap.SameBut.update ..
  exact k _ L' _ (n + 1) T' sb ⟨⟨_, store_at ho hd, ⟨hx.1, hx.2.1, hx.2.2⟩, rfl⟩, g1, f3, (g2.map (·.2)).nodup_iff.mpr nd, fun z hz => (ky z (g2.mem_iff.mp hz)).but ho hd sb, by rw [f5]; exact ld, by rw [g2.length_eq, f4]; exact rm, by rw [g2.length_eq]; exact fw⟩ g2
/-- a table without the word that its hashes are plain -/
def dl (T : SetTable) : SetTable := { T with plain := false }
theorem dl_ok {T : SetTable} {hs : List Int} (h : TabOk T hs) : TabOk (dl T) hs := ⟨h.ris, h.dm, h.sz, h.mok, h.bd, h.reach⟩
theorem put_it (R : NS w s.heap a L r n T) {z : KIt} (hz : KeyAt s.heap z) (hu : A.units + 8 < cLine) (fw : L.length + 1 < 64) {Q : Bool → Shared → Prop}
    (k : ∀ b g' L' r' n' T', Heap.SameBut a s.heap g' → NS w g' a L' r' n' T' → (z.2 ∈ L.map (·.2) → L' = L) → (z.2 ∉ L.map (·.2) → L'.Perm (z :: L)) → Q b { s with heap := g' }) :
    wpAny (model P w) A (setAddHashed a (.ref z.1) (hs1 w z.2)) Q E s := by
  obtain ⟨o, ho, hx, hd⟩ := R.ob
  have rn := rows_len R.rw
  have rm := R.rm
  unfold setAddHashed
  refine wpAny_holding ?_
  rw [show (100000 : Nat) = 99999 + 1 from rfl, setAddHashedIn_succ]
  refine wpAny_bind (wpAny_setState_of ho hd R.fits ?_)
  dsimp only
  refine wp_if_neg (by simp [byScan, Value.scannable]) ?_
  try refine wpAny_bind (wpAny_pure ?_)
  refine wpAny_bind (look R hz hu (fun hm => ?_) fun K hm kn kb => ?_)
  · dsimp only
    exact wpAny_pure (k false s.heap L r n T (Heap.SameBut.refl a s.heap) R (fun _ => rfl) fun e => absurd hm e)
  dsimp only
  refine wpAny_bind (wpAny_setState_of ho hd R.fits ?_)
  dsimp only
  obtain ⟨q1, q2, q3, q4, q5, q6, q7, q8, q9⟩ := R.tb.put kn kb
  generalize hpt : T.put (way T.mask (hs1 w z.2) K) = pt at q1 q3 q4 q5 q6 q7 q8 q9 ⊢
  obtain ⟨T1, p⟩ := pt
  dsimp only at q1 q3 q4 q5 q6 q7 q8 q9 ⊢
  subst q1
  generalize SetTable.below T.place (way T.mask (hs1 w z.2) K) = p at q2 q3 ⊢
  have pm := put_perm L p z
  have hin : (SetTable.insertAt r p (hs1 w z.2, .ref z.1)).toList = rows1 w (L.take p ++ z :: L.drop p) := by
    rw [SetTable.toList_insertAt, rows_ins, R.rw]
    rfl
  rw [← hashs_ins] at q3
  have nd1 : ((L.take p ++ z :: L.drop p).map (·.2)).Nodup := (pm.map (·.2)).nodup_iff.mpr (by rw [List.map_cons]; exact List.nodup_cons.mpr ⟨hm, R.nd⟩)
  rw [hashs_len] at q9
  -- behind the question whether the hash is by value
  have fin : ∀ T2 : SetTable, TabOk T2 (hashs w (L.take p ++ z :: L.drop p)) → T2.mask = T.mask → T2.led = T.led → T2.fill = L.length + 1 → wpAny (model P w) A (do
      storeSet a (SetTable.insertAt r p (hs1 w z.2, .ref z.1)) T2
      if (!false && T2.tooFull) = true then setRelay a (SetTable.grown (r.size + 1))
      return true) Q E s := fun T2 t1 t2 t3 t4 => by
    generalize L.take p ++ z :: L.drop p = M at pm hin nd1 t1
    have ml : M.length = L.length + 1 := pm.length_eq
    have rl := rows_len hin
    generalize SetTable.insertAt r p (hs1 w z.2, .ref z.1) = r1 at hin rl ⊢
    refine wpAny_bind (wpAny_storeSet_of ho hd ?_ (by rw [rl, ml, sizeLine_eq]; omega))
    have sb : Heap.SameBut a s.heap (s.heap.update a (Obj.putSet r1 T2)) := Heap.SameBut.update ..
    have ho1 := store_at (es' := r1) (t' := T2) ho hd
    generalize s.heap.update a (Obj.putSet r1 T2) = g1 at sb ho1 ⊢
    have ky1 : ∀ y ∈ M, KeyAt g1 y := fun y hy => by
      rcases List.mem_cons.mp (pm.mem_iff.mp hy) with e | e
      · rw [e]
        exact hz.but ho hd sb
      · exact (R.ky y e).but ho hd sb
    have ld1 : w.params.followText "set-order" = true ∨ T2.led = true := by rw [t3]; exact R.ld
    have tf : T2.tooFull = true ↔ T.mask * 3 ≤ (L.length + 1) * 5 := by
      unfold SetTable.tooFull
      rw [decide_eq_true_eq, t4, t2]
    by_cases full : T2.tooFull = true
    · first
        | (refine wpAny_bind ?_; refine wp_if_pos (by simp [full]) ?_)
        | (refine wp_if_pos (by simp [full]) ?_; refine wpAny_bind ?_)
      have fl := tf.mp full
      have sz1 : T2.place.size = r1.size := by
        have h := t1.sz
        rw [hashs_len] at h
        omega
      have two : (T.mask = 7 ∧ L.length = 4) ∨ (T.mask = 31 ∧ L.length = 18) := by
        rcases R.tb.mok with e | e | e <;> rw [e] at fl rm
        · exact .inl ⟨e, by omega⟩
        · exact .inr ⟨e, by omega⟩
        · omega
      have go : ∀ m, SetTable.sizeAbove (SetTable.grown (r.size + 1)) - 1 = m → MaskOk m → SetTable.sizeAbove (SetTable.grown (r.size + 1)) ≤ 128 → (L.length + 1) * 5 < m * 3 → wpAny (model P w) A (setRelay a (SetTable.grown (r.size + 1))) (fun _ s' => wpAny (model P w) A (pure true) Q E s') E { s with heap := g1 } := fun m x1 x2 x3 x4 => by
        refine relay (s := { s with heap := g1 }) ho1 ⟨hx.1, hx.2.1, hx.2.2⟩ rfl hin sz1 t1.dm (by rcases two with ⟨e, e2⟩ | ⟨e, e2⟩ <;> omega) nd1 ky1 ld1 (by omega) x1 x2 x3 (by rw [ml]; exact x4) fun g2 L2 r2 n2 T3 sb2 R2 pm2 => ?_
        exact wpAny_pure (k true g2 L2 r2 n2 T3 (sb.trans sb2) R2 (fun e => absurd e hm) fun _ => pm2.trans pm)
      rcases two with ⟨_, e2⟩ | ⟨_, e2⟩
      · exact go 31 (by rw [rn, e2, size_20]) (.inr (.inl rfl)) (by rw [rn, e2, size_20]; decide) (by omega)
      · exact go 127 (by rw [rn, e2, size_76]) (.inr (.inr rfl)) (by rw [rn, e2, size_76]; decide) (by omega)
    · first
        | refine wp_if_neg (by simp [full]) ?_
        | (refine wpAny_bind ?_; refine wp_if_neg (by simp [full]) ?_; refine wpAny_pure ?_)
      refine wpAny_pure (k true g1 M r1 (n + 1) T2 sb ⟨⟨_, ho1, ⟨hx.1, hx.2.1, hx.2.2⟩, rfl⟩, hin, t1, nd1, ky1, ld1, ?_, by omega⟩ (fun e => absurd e hm) fun _ => pm)
      rw [ml, t2]
      have := mt tf.mpr full
      omega
  by_cases pl : T1.plain = true
  · first
      | (refine wpAny_bind ?_; refine wp_if_pos pl ?_; refine hby _ _ 8 s hz.1 hz.2 _ _ _ fun b => ?_)
      | refine wp_if_pos pl (wpAny_bind (hby _ _ 8 s hz.1 hz.2 _ _ _ fun b => ?_))
    cases b with
    | true =>
      simp only [if_true]
      exact fin T1 q3 q4 q5 q9
    | false =>
      simp only [Bool.false_eq_true, if_false]
      exact fin (dl T1) (dl_ok q3) q4 q5 q9
  · first
      | (refine wpAny_bind ?_; refine wp_if_neg pl ?_; refine wpAny_pure ?_)
      | refine wp_if_neg pl (wpAny_bind (wpAny_pure ?_))
    simp only [if_true]
    exact fin T1 q3 q4 q5 q9
end
end NSet
/-! sorting tuples that may be empty; {f(x) for x in xs} and sorted of it, as rules -/
namespace NSet
open PySem PySem.Spec PyProof.Rows L2 PySem.W PySem.SeqAt
set_option autoImplicit false
section
variable {prog : Program} {w : World} {A : Around} {s : Shared}
theorem tup_lt {E : Value → Shared → Prop} {Q : Value → Shared → Prop} {l b : Addr} {xs ys : Array Value} {e r : Nat → Bool} (h1 : s.heap.IsTuple l xs) (h2 : s.heap.IsTuple b ys)
    (he : ∀ j (i1 : j < xs.size) (i2 : j < ys.size), EqAt A.in1 s xs[j] ys[j] (e j)) (hr : ∀ j (i1 : j < xs.size) (i2 : j < ys.size), e j = false → RcLt A.in1 s xs[j] ys[j] (r j))
    (k : Q (.bool (firstLt e r (decide (xs.size < ys.size)) (List.range (min xs.size ys.size)))) s) : wpAny (model prog w) A (call (.builtin "tuple.__lt__") [.ref l, .ref b]) Q E s := by
  obtain ⟨⟨c1, d1, t1, l1⟩, o1, e1, n1, f1⟩ := id h1
  obtain ⟨⟨c2, d2, t2, l2⟩, o2, e2, n2, f2⟩ := id h2
  simp only at e1 f1 e2 f2
  subst e1 f1 e2 f2
  exact call_meets F.slot_tuple_lt ⟨_, o1, rfl⟩ F.entry_tuple_lt (F.args_tuple_lt_2 _ _) (tuple_ltAt l b xs ys n1 n2 d1 d2 l1 l2 e r) ⟨o1, o2, he, hr, k⟩
theorem one_tup {f : Bool} {xs ys : List PyData} {a b : Value} {as bs : List Addr} {E : Value → Shared → Prop} {Q : Bool → Shared → Prop} (ra : Reads s.heap a (.tuple xs) as) (rb : Reads s.heap b (.tuple ys) bs) (al : alike (.tuple xs) (.tuple ys) = true)
    (hu : A.units + min (PyData.tuple xs).depth (PyData.tuple ys).depth < cLine) (hq : Q (dataLt (.tuple xs) (.tuple ys)) s) : wpAny (model prog w) A (oneLt' f a b) Q E s := by
  cases f with
  | false => exact oneLt_alike (fun h => nomatch h) ra rb al (by simp) hu hq
  | true =>
    have al2 : alikeAll xs ys = true := by simpa [alike] using al
    cases ra with
    | @tuple l o vs n _ as1 a1 a2 a3 a4 =>
      cases rb with
      | @tuple l' o' us n' _ bs1 b1 b2 b3 b4 =>
        have z1 : vs.size = xs.length := by simpa using ReadsAll.length _ _ _ a4
        have z2 : us.size = ys.length := by simpa using ReadsAll.length _ _ _ b4
        rw [dataLt_tuple, ← firstLt_toks xs ys al2, ← z1, ← z2] at hq
        rw [oneLt'_eq]
        simp only [if_true]
        refine wpAny_bind (wpAny_cRoomFor (room_here hu) ?_)
        refine wpAny_bind (wpAny_callSpecialIfBound?_slot (T := "tuple") ⟨_, a1, a2⟩ F.slot_tuple_lt (tup_lt (e := pairEq xs ys) (r := fun j => dataLt (xs.getD j .none) (ys.getD j .none)) ⟨_, a1, a2, _, a3⟩ ⟨_, b1, b2, _, b3⟩ (fun j j1 j2 => ?_) (fun j j1 j2 hj => ?_) ?_))
        · have := eqAt_alikeAll xs ys A.in1 s vs.toList us.toList _ _ a4 b4 al2 (room_in hu) j (by simpa using j1) (by simpa using j2)
          simpa using this
        · have := rcLt_alikeAll xs ys A.in1 s vs.toList us.toList _ _ a4 b4 al2 (room_in hu) j (by simpa using j1) (by simpa using j2) hj
          simpa using this
        · exact wpAny_truthy_bool hq
/-- what the sort finds of the first items of the keys -/
theorem firsts {M : Model} {E : Value → Shared → Prop} : ∀ (vs : List Value) {Q : List (Option Value) → Shared → Prop}, (∀ v ∈ vs, ∃ a o xs n, v = .ref a ∧ s.heap.get? a = some o ∧ o.cls = .type "tuple" ∧ o.data = .seq xs n) →
    (∀ fs : List (Option Value), fs.length = vs.length → (fs.all (·.isSome) = true → ∀ v ∈ vs, ∃ a o xs n, v = .ref a ∧ s.heap.get? a = some o ∧ o.data = .seq xs n ∧ xs.size ≠ 0) → Q fs s) → wpAny M A (vs.mapM firstOfTuple') Q E s
  | [], _, _, h => by
    rw [List.mapM_nil]
    exact wpAny_pure (h [] rfl fun _ v hv => nomatch hv)
  | v :: vs, Q, t, h => by
    obtain ⟨a, o, xs, n, rfl, ho, hc, hd⟩ := t v List.mem_cons_self
    rw [List.mapM_cons]
    refine wpAny_bind ?_
    rw [kas_first_eq]
    refine wpAny_bind (Looks.here (show Looks M s.heap (typeOf (.ref a)) o.cls from (Looks.ld ho).andThen .now) ?_)
    rw [hc, if_neg (by first | decide | simp)]
    refine wpAny_bind (listItems_at ho hd (wpAny_pure ?_))
    refine wpAny_bind (firsts vs (fun u hu => t u (List.mem_cons_of_mem _ hu)) fun fs l1 l2 => wpAny_pure (h _ (by rw [List.length_cons, List.length_cons, l1]) fun al u hu => ?_))
    rw [List.all_cons, Bool.and_eq_true] at al
    rcases List.mem_cons.mp hu with e | e
    · refine ⟨a, o, xs, n, e, ho, hd, fun z => ?_⟩
      have : xs[0]? = none := by rw [Array.getElem?_eq_none]; omega
      rw [this] at al
      exact absurd al.1 (by simp)
    · exact l2 al.2 u e
theorem each_val {α : Type} {R : Value → α → Prop} : ∀ {us : List Value} {bs : List α}, EachIs R us bs → ∀ u ∈ us, ∃ b ∈ bs, R u b
  | _, _, .nil, u, h => nomatch h
  | _, _, .cons a t, u, h => by
    rcases List.mem_cons.mp h with e | e
    · exact ⟨_, List.mem_cons_self, e ▸ a⟩
    · obtain ⟨b, h1, h2⟩ := each_val t u e
      exact ⟨b, List.mem_cons_of_mem _ h1, h2⟩
/-- tuples that read as alike data can be sorted, empty ones too -/
theorem sorts_tups {vs : List Value} {ds : List PyData} (e : EachIs (fun v d => ∃ as, Reads s.heap v d as) vs ds) (al : AllAlike ds) (tp : ∀ d ∈ ds, ∃ xs, d = .tuple xs) (hu : ∀ d, d ∈ ds → A.units + d.depth < cLine) : SortsAt prog w A s (dataKind s.heap ds) vs := by
  by_cases ne : ∀ d ∈ ds, ∃ x r, d = PyData.tuple (x :: r)
  · exact SortsAt.data e al (.inl ne) hu
  have room : ∀ {d d' : PyData}, d ∈ ds → A.units + min d.depth d'.depth < cLine := fun {d d'} hd => Nat.lt_of_le_of_lt (Nat.add_le_add_left (Nat.min_le_left _ _) _) (hu d hd)
  have lt : ∀ f : Bool, ∀ (E : Value → Shared → Prop) {x y : Value} (p q : (dataKind s.heap ds).α) {Q : Bool → Shared → Prop}, (dataKind s.heap ds).keyOf x = some p → (dataKind s.heap ds).keyOf y = some q → Q ((dataKind s.heap ds).blt p q) s → wpAny (model prog w) A (oneLt' f x y) Q E s := by
    intro f E x y p q Q hx hy hq
    obtain ⟨d, as, hd, ra, rfl⟩ := dataKind_inv hx
    obtain ⟨d', as', hd', rb, rfl⟩ := dataKind_inv hy
    have hal := al d hd d' hd'
    have hr := room (d' := d') hd
    obtain ⟨xs, rfl⟩ := tp d hd
    obtain ⟨ys, rfl⟩ := tp d' hd'
    exact one_tup ra rb hal hr hq
  have tv : ∀ v ∈ vs, ∃ a o xs n, v = .ref a ∧ s.heap.get? a = some o ∧ o.cls = .type "tuple" ∧ o.data = .seq xs n := fun v hv => by
    obtain ⟨d, hd, as, r⟩ := each_val e v hv
    obtain ⟨xs, rfl⟩ := tp d hd
    cases r with
    | @tuple l o us n _ _ a1 a2 a3 a4 => exact ⟨l, o, us, n, rfl, a1, a2, a3⟩
  have keys : ∀ v, v ∈ vs → ∃ a, (dataKind s.heap ds).keyOf v = some a := fun v hv => by
    obtain ⟨d, hd, as, r⟩ := each_val e v hv
    exact ⟨_, dataKind_some al hd r⟩
  -- which kind it is depends on the first key alone
  have kindly : ∀ (kd : SortKind), kd = general' ∨ kd = oneType' → H.LtAt prog w A s (dataKind s.heap ds) kd := by
    rintro kd (rfl | rfl) E x y a b Q hx hy hq
    · exact lt false E _ _ hx hy hq
    · exact lt true E _ _ hx hy hq
  by_cases h3 : ¬ 2 ≤ vs.length
  · exact ⟨keys, general', kindly _ (.inl rfl), fun h => absurd h h3⟩
  have h2 : 2 ≤ vs.length := Classical.not_not.mp h3
  obtain ⟨v1, rest, rfl⟩ : ∃ v1 rest, vs = v1 :: rest := by
    match vs, h2 with
    | v1 :: rest, _ => exact ⟨v1, rest, rfl⟩
  obtain ⟨a0, o0, xs0, n0, rfl, q1, q2, q3⟩ := tv v1 List.mem_cons_self
  have notall : ∀ fs : List (Option Value), (fs.all (·.isSome) = true → ∀ v ∈ Value.ref a0 :: rest, ∃ a o xs n, v = .ref a ∧ s.heap.get? a = some o ∧ o.data = .seq xs n ∧ xs.size ≠ 0) → fs.all (·.isSome) = false := fun fs h => by
    rw [Bool.eq_false_iff]
    intro z
    refine ne fun d hd => ?_
    obtain ⟨xs, rfl⟩ := tp d hd
    have h' := h z
    obtain ⟨v, hv, as, r⟩ : ∃ v ∈ Value.ref a0 :: rest, ∃ as, Reads s.heap v (.tuple xs) as := by
      have gen : ∀ {us : List Value} {bs : List PyData}, EachIs (fun v d => ∃ as, Reads s.heap v d as) us bs → PyData.tuple xs ∈ bs → ∃ v ∈ us, ∃ as, Reads s.heap v (.tuple xs) as := by
        intro us bs E
        induction E with
        | nil => exact fun h => nomatch h
        | cons a t ih =>
          intro h
          rcases List.mem_cons.mp h with e | e
          · exact ⟨_, List.mem_cons_self, e ▸ a⟩
          · obtain ⟨v, h1, h2⟩ := ih e
            exact ⟨v, List.mem_cons_of_mem _ h1, h2⟩
      exact gen e hd
    obtain ⟨a, o, us, n, rfl, e1, e2, e3⟩ := h' v hv
    cases r with
    | @tuple l o' us' n' _ _ b1 b2 b3 b4 =>
      rw [e1] at b1
      cases b1
      rw [e2] at b3
      cases b3
      have z : us.toList.length = xs.length := SeqAt.ReadsAll.length _ _ _ b4
      rw [Array.length_toList] at z
      match xs, z with
      | [], z => exact absurd z e3
      | x :: r, _ => exact ⟨x, r, rfl⟩
  by_cases z0 : xs0.size = 0
  · refine ⟨keys, oneType', kindly _ (.inr rfl), fun _ E Q hq => ?_⟩
    rw [kat_kind_eq, List.mapM_toArray, map_eq_pure_bind, List.mapM_cons]
    refine wpAny_bind (wpAny_bind (wpAny_bind ?_))
    rw [kas_first_eq]
    refine wpAny_bind (Looks.here (show Looks (model prog w) s.heap (typeOf (.ref a0)) o0.cls from (Looks.ld q1).andThen .now) ?_)
    rw [q2, if_neg (by first | decide | simp)]
    refine wpAny_bind (listItems_at q1 q3 (wpAny_pure ?_))
    have n0' : xs0[0]? = none := by rw [Array.getElem?_eq_none]; omega
    rw [n0']
    refine wpAny_bind (firsts rest (fun u hu => tv u (List.mem_cons_of_mem _ hu)) fun fs l1 l2 => wpAny_pure (wpAny_pure ?_))
    rw [if_neg (by simp), if_neg (by simp)]
    rw [oneTypeOnly'_eq, List.mapM_toArray, map_eq_pure_bind]
    refine wpAny_bind (wpAny_bind (wpAny_bind (kas_mapM (r := Value.type "tuple") _ (fun v hv Q' hq' => ?_) (wpAny_pure ?_))))
    · obtain ⟨a, o, xs, n, rfl, e1, e2, e3⟩ := tv v hv
      exact Looks.here (show Looks (model prog w) s.heap (typeOf (.ref a)) (Value.type "tuple") from e2 ▸ (Looks.ld e1).andThen .now) hq'
    · have z1 : ((Value.ref a0 :: rest).map fun _ => Value.type "tuple").toArray[0]? = some (Value.type "tuple") := by simp
      rw [z1]
      have z2 : (((Value.ref a0 :: rest).map fun _ => Value.type "tuple").toArray.all fun x => x == Value.type "tuple") = true := by
        simp only [List.all_toArray, List.all_map, List.all_eq_true]
        intro _ _
        exact beq_self_eq_true _
      simp only [z2, if_true]
      exact wpAny_pure (wpAny_pure hq)
  · refine ⟨keys, general', kindly _ (.inl rfl), fun _ E Q hq => ?_⟩
    rw [kat_kind_eq, List.mapM_toArray, map_eq_pure_bind]
    refine wpAny_bind (wpAny_bind ?_)
    rw [List.mapM_cons]
    refine wpAny_bind ?_
    rw [kas_first_eq]
    refine wpAny_bind (Looks.here (show Looks (model prog w) s.heap (typeOf (.ref a0)) o0.cls from (Looks.ld q1).andThen .now) ?_)
    rw [q2, if_neg (by first | decide | simp)]
    refine wpAny_bind (listItems_at q1 q3 (wpAny_pure ?_))
    obtain ⟨f, hf⟩ : ∃ f, xs0[0]? = some f := ⟨xs0[0]'(by omega), Array.getElem?_eq_getElem _⟩
    rw [hf]
    refine wpAny_bind (firsts rest (fun u hu => tv u (List.mem_cons_of_mem _ hu)) fun fs l1 l2 => wpAny_pure (wpAny_pure ?_))
    have na := notall (some f :: fs) fun z v hv => by
      rw [List.all_cons, Bool.and_eq_true] at z
      rcases List.mem_cons.mp hv with e | e
      · exact ⟨a0, o0, xs0, n0, e, q1, q3, z0⟩
      · exact l2 z.2 v e
    rw [if_neg (by simpa using na), if_pos (by simp)]
    exact wpAny_pure hq
end
end NSet
/-! the set comprehension, whatever is put in; sets of nested keys and of texts -/
namespace NSet
open PySem PySem.Spec PyProof.Rows L2 PySem.W ND
set_option autoImplicit false
abbrev freshSet (w : World) : Obj := { cls := .type "set", dict := none, data := .set #[] 0 (.fresh 0 0 (!w.params.followText "set-order")) }
/-- what putting y into the set at D asks, N is what must hold behind it -/
abbrev PutR : Type := Addr → V → Hp → (Hp → Prop) → Prop
def Adds (P : Program) (w : World) (K : PySem.W.Frag) (put : PutR) : Prop := ∀ {Y : Cx} {pins : List (Addr × Obj)} {σ : L2.St} {H : Hp} {s : Shared} {E : Value → Shared → Prop} {D : Addr} {y : V} {v : Value} {N : Hp → Prop} {Q : Value → Shared → Prop},
  Y.prog = P → Y.w = w → Y.K = K → Y.A.units + 16 < cLine → Inv Y pins σ H s → RelV y v → put D y H N → (∀ s' H', Inv Y pins σ H' s' → N H' → Q .none s') → wpAny (model P w) Y.A (call (.builtin "set.add") [.ref D, v]) Q E s
def News1 (P : Program) (w : World) (so : Addr → HO) : Prop := ∀ (H : Hp) (h : Heap) (D : Addr), h.get? D = some (freshSet w) → ObjOk P w H h D (so D)
def TurnS (put : PutR) (D : Addr) (g : TG) (tt : TT) (te : TE) (vs : List Nat) (σ : L2.St) (Nx : Hp → Prop) (x : V) (H : Hp) : Prop :=
  g x (wipe σ vs) H fun σ2 H2 => wipe σ2 vs = wipe σ vs ∧ tt σ2 H2 fun b H3 => if b = true then te σ2 H3 fun y H4 => put D y H4 Nx else Nx H3
def tSc (so : Addr → HO) (put : PutR) (wi : TI) (g : TG) (tt : TT) (te : TE) (vs : List Nat) : TE := fun σ H Q => wi σ H fun J H1 =>
  ∀ D, H1 D = none → ∃ W : Nat → Nat → Hp → Prop, (∃ m, W 0 m (upd H1 D (so D))) ∧ ∀ i m H, W i m H →
    (J.stop i H ∧ Q (.ref D) H) ∨ (J.go i H ∧ ∃ Nx : Hp → Prop, (∀ H', Nx H' → ∃ m', m' < m ∧ W (i + 1) m' H') ∧ ∀ x H', J.yld i H x H' → TurnS put D g tt te vs σ Nx x H')
section
variable {X : Cx}
theorem turnS {Y : Cx} {put : PutR} (ad : Adds Y.prog Y.w Y.K put) {pins : List (Addr × Obj)} {ex tg : PySem.Expr} {ifs : List PySem.Expr} {g : TG} {tt : TT} {te : TE} {vs : List Nat} {σ : L2.St} {D : Addr} {Nx : Hp → Prop} {x : V} {u : Value} {s : Shared} {H : Hp}
    {m : Nat} {Iv : Nat → Shared → Prop} {E : Value → Shared → Prop} (hx : ∀ v s, Y.xe v s → False) (hu : Y.A.units + 16 < cLine) (pg : PG Y tg g) (pt : PTs Y ifs tt) (pe : PE Y ex te)
    (I : Inv Y pins (wipe σ vs) H s) (rx : RelV x u) (q : TurnS put D g tt te vs σ Nx x H)
    (fin : ∀ σ' s' H', wipe σ' vs = wipe σ vs → Inv Y pins σ' H' s' → Nx H' → ∃ j, j < m ∧ Iv j s') :
    wpAny (model Y.prog Y.w) Y.A (assign tg Y.env u) (fun _ t1 =>
      wpAny (model Y.prog Y.w) Y.A (forIn ifs true fun c r => if r = true then do let ok ← isTrue c Y.env (eval c Y.env); pure (ForInStep.yield ok) else pure (ForInStep.yield r)) (fun ok t2 =>
        if ok = true then wpAny (model Y.prog Y.w) Y.A (eval ex Y.env) (fun v t3 => wpAny (model Y.prog Y.w) Y.A (call (.builtin "set.add") [.ref D, v]) (fun _ t5 => ∃ j, j < m ∧ Iv j t5) E t3) E t2
        else ∃ j, j < m ∧ Iv j t2) E t1) E s := by
  refine calmE hx (pg.run _ s _ H x u _ I rx q) fun _ t1 ⟨σ1, H1, I1, w1, q1⟩ => ?_
  refine calmE hx (pt.run _ t1 σ1 H1 _ I1 q1) fun b t2 ⟨H2, I2, q2⟩ => ?_
  cases b
  · exact fin σ1 t2 H2 w1 I2 q2
  · refine calmE hx (pe.run _ t2 σ1 H2 _ I2 q2) fun kv t3 ⟨y, H3, I3, ry, q3⟩ => ?_
    exact ad rfl rfl rfl hu I3 ry q3 fun t5 H5 I5 nx => fin σ1 t5 H5 w1 I5 nx
theorem pe_sc {so : Addr → HO} {put : PutR} (ad : Adds X.prog X.w X.K put) (nw : News1 X.prog X.w so) {ex tg iter : PySem.Expr} {ifs : List PySem.Expr} {scope : Scope} {own : List (Str × Nat)} {pos : Pos} {wi : TI} {g : TG} {tt : TT} {te : TE}
    (hu : X.A.units + 16 < cLine) (hc : X.calm = true) (hN : X.N.Nodup) (hi : PI X tg iter wi) (ok : BlkOk X.N X.env.scope scope own)
    (hg : InBlk X scope fun Y => PG Y tg g) (ht : InBlk X scope fun Y => PTs Y ifs tt) (he : InBlk X scope fun Y => PE Y ex te)
    (hs : ∀ x, foldedSetIterable iter X.env x = pure x := by intro _; rfl) :
    PE X (.SetComp ex [⟨tg, iter, ifs, 0⟩] scope pos) (tSc so put wi g tt te (own.map (·.2))) := by
  refine ⟨fun pins s σ H Q I h => ?_⟩
  rw [PpSet.eval_SetComp]
  have frees : ∀ y ∈ scope.names, y.2 = .free → ∃ c, X.env.cells.lookup y.1 = some c := fun y hy e =>
    (ok.free y hy e).elim (fun k => I.ok.has _ (.inl k)) (fun k => I.ok.has _ (.inr k))
  refine wpAny_comprehension_free (use := none) rfl hs (closure_ok frees) ok.kind (fun y hy e => (ok.uniq y hy).trans (congrArg some e)) ?_
  refine thn (hi.run pins s σ H _ I h) fun xv s1 hx => thn hx fun itv s2 ⟨it, fp, tn, J, H2, e, I2, T, st2, f2, q⟩ => ?_
  subst e
  refine PpSet.newSet_ok (newEnv_comp ?_)
  obtain ⟨nd, end_⟩ : ∃ d : Obj, d = { cls := .type "set", dict := none, data := .set #[] 0 (.fresh 0 0 (!X.w.params.followText "set-order")) } := ⟨_, rfl⟩
  rw [← end_]
  obtain ⟨s3, e3⟩ : ∃ t : Shared, t = { s2 with heap := s2.heap.push nd } := ⟨_, rfl⟩
  obtain ⟨D, eD⟩ : ∃ D, D = s2.heap.objs.size := ⟨_, rfl⟩
  have hp3 : s3.heap = s2.heap.push nd := by rw [e3]
  have gone : H2 D = none := I2.hok.fresh (Nat.le_of_eq eD.symm)
  obtain ⟨W, ⟨m0, w0⟩, turn⟩ := q D gone
  have I3 : Inv X pins σ (upd H2 D (so D)) s3 := by
    rw [e3]
    refine I2.laid (t' := s2.toks) (fun b o e => Heap.get?_push_of_some _ e) (Nat.le_of_eq eD.symm) ?_
    refine nw _ _ _ ?_
    rw [eD, end_]
    exact Heap.get?_push_size _ rfl
  have low : ∀ b ∈ fp, b < D := fun b hb => by
    obtain ⟨o, e, _⟩ := T.obj _ _ st2 b hb
    rw [eD]
    exact Heap.lt_size e
  have f3 : ∀ b ∈ fp, FpOk X pins (upd H2 D (so D)) b ∧ b < s3.heap.objs.size := fun b hb => by
    have lt := low b hb
    refine ⟨⟨(upd_ne (Nat.ne_of_lt lt)).trans (f2 b hb).1, (f2 b hb).2⟩, ?_⟩
    rw [hp3, Heap.size_push, ← eD]
    exact Nat.lt_succ_of_lt lt
  have st3 : tn 0 s3.heap := T.keep _ _ _ st2 fun b _ o e => by
    rw [hp3]
    exact Heap.get?_push_of_some _ e
  have I4 := block_start I3 ok hN f3
  have none3 : ∀ b ∈ fp, (upd H2 D (so D)) b = none := fun b hb => (f3 b hb).1.1
  obtain ⟨C, eC⟩ : ∃ C, C = s3.heap.objs.size := ⟨_, rfl⟩
  obtain ⟨cl, ecl⟩ : ∃ cl, cl = cellsFrom (s3.heap.objs.size + 1) scope.names (cloFrom X.env.cells scope.names []) := ⟨_, rfl⟩
  obtain ⟨ev, eev⟩ : ∃ ev, ev = compEnvC scope cl C X.env := ⟨_, rfl⟩
  have atC : ev.locals = s3.heap.objs.size := by
    rw [eev, ← eC]
    rfl
  have pg := hg s3 (upd H2 D (so D)) C cl fp
  have pt := ht s3 (upd H2 D (so D)) C cl fp
  have pe := he s3 (upd H2 D (so D)) C cl fp
  rw [← eev] at pg pt pe
  rw [← ecl, ← eC, ← eev] at I4
  have goal : codeAny (model X.prog X.w) X.A (.compStart (.SetComp ex [⟨tg, iter, ifs, 0⟩] scope pos) 0 (.ref it) (.ref D) ev) (compPost (model X.prog X.w) X.A X.xe none (EP X pins σ Q) (.ref D) C) { s3 with heap := pushCells (s3.heap.push { cls := .type "dict", data := .dict #[] }) scope.names } := ?_
  · rw [eev, ecl, eC, e3, eD] at goal
    exact goal
  generalize hH3 : upd H2 D (so D) = H3 at I3 I4 pg pt pe w0 none3 f3
  generalize hs4 : ({ s3 with heap := pushCells (s3.heap.push { cls := .type "dict", data := .dict #[] }) scope.names } : Shared) = s4 at I4 ⊢
  have st4 : tn 0 s4.heap := T.keep _ _ _ st3 fun b _ o e => by
    rw [← hs4]
    exact pushCells_keeps _ _ _ _ (Heap.get?_push_of_some _ e)
  have quiet : ∀ v s, (X.blk s3 H3 scope ev fp).xe v s → False := fun _ _ z => z
  have keeps : ∀ {σ' : L2.St} {H' : Hp} {s' : Shared}, Inv (X.blk s3 H3 scope ev fp) [] σ' H' s' → (∀ b ∈ fp, H' b = none) → ∀ b ∈ fp, FpOk (X.blk s3 H3 scope ev fp) [] H' b :=
    fun {σ' H' s'} J' nb b hb => ⟨nb b hb, (J'.ok.exf b hb).1, J'.ok.exfs b hb, .inl hb, fun x c e => (J'.ok.exf b hb).2 x c e, fun p hp => (by simp at hp : False).elim⟩
  have loop : codeAny (model X.prog X.w) X.A (.compLoop (.SetComp ex [⟨tg, iter, ifs, 0⟩] scope pos) 0 (.ref it) (.ref D) ev) (compPost (model X.prog X.w) X.A X.xe none (EP X pins σ Q) (.ref D) C) s4 := by
    refine PpSet.compLoopS_any (fun n t => ∃ i G, Inv (X.blk s3 H3 scope ev fp) [] (wipe σ (own.map (·.2))) G t ∧ tn i t.heap ∧ (∀ b ∈ fp, G b = none) ∧ W i n G) ?_ m0 ⟨0, H3, I4, st4, none3, w0⟩
    rintro n s5 ⟨i, G, I5, st5, n5, w5⟩
    rcases turn i n G w5 with ⟨stop, done⟩ | ⟨go, Nx, down, step⟩
    · refine thnF (T.done (X.blk s3 H3 scope ev fp) rfl rfl rfl hc i [] s5 _ G (fun _ _ => False) I5 (keeps I5 n5) st5 stop) fun r s6 ⟨er, I6⟩ => ?_
      subst er
      have I7 : Inv X pins σ G s6 := I3.call' (ch := fp) I6.os I6.base I6.hok I6.bare fun b hb =>
        let z := (f3 b hb).1.2
        ⟨z.2.2.1, z.1, z.2.2.2.1, z.2.2.2.2⟩
      have nC : G s3.heap.objs.size = none := atC ▸ (show G ev.locals = none from I6.free)
      obtain ⟨mm, ns, _⟩ := I6.loc
      have ns : s6.heap.Ns C mm := by
        rw [eC, ← atC]
        exact ns
      obtain ⟨z0, z1, _, z3, z4, z5⟩ := I3.fpOk (Nat.le_refl _) nC
      rw [← eC] at z0 z1 z3 z4 z5
      exact ⟨mm, ns, fun h2 sb => ⟨.ref D, G, I7.turned (t' := s6.toks) (fun b o hb e => (sb.2 b hb).trans e) z0 z1 z3 z4 z5, rfl, done⟩⟩
    · refine thnF (T.item (X.blk s3 H3 scope ev fp) rfl rfl rfl hc i [] s5 _ G (fun _ _ => False) I5 (keeps I5 n5) st5 go) fun r s6 ⟨u, er, h6⟩ => ?_
      subst er
      refine thnF h6 fun _ s7 ⟨x, H7, I7, r7, y7, st7, n7⟩ => ?_
      refine turnS (Y := X.blk s3 H3 scope ev fp) ad (Iv := fun n t => ∃ i G, Inv (X.blk s3 H3 scope ev fp) [] (wipe σ (own.map (·.2))) G t ∧ tn i t.heap ∧ (∀ b ∈ fp, G b = none) ∧ W i n G) quiet hu pg pt pe (I7.pinned (keeps I7 n7) (T.obj _ _ st7)) r7 (step x H7 y7) fun σ' s' G' ww Jv nx => ?_
      obtain ⟨j, lt, w'⟩ := down G' nx
      have pin : ∀ b ∈ fp, ∀ o, s7.heap.get? b = some o → s'.heap.get? b = some o ∧ G' b = none := fun b hb o e =>
        have z := Jv.pin (b, o) (List.mem_append_right _ (List.mem_append_right _ (mem_pinsAt hb e)))
        ⟨z.1, z.2.1⟩
      refine ⟨j, lt, i + 1, G', (Jv.unpinned (pins := [])).weak ?_ fun l v e => ?_, T.keep _ _ _ st7 fun b hb o e => (pin b hb o e).1, fun b hb => ?_, w'⟩
      · rw [← ww, wipe_length]
      · rw [← ww] at e
        exact (wipe_some e).1
      · obtain ⟨o, e, _⟩ := T.obj _ _ st7 b hb
        exact (pin b hb o e).2
  exact PpSet.codeAny_compStart_set loop (T.self X.A 0 _ _ _ st4 loop)
end
/-- by a walk -/
theorem sc_it {so : Addr → HO} {put : PutR} {J : It} {n : Nat} {G : Hp → Prop} {Y : Nat → Hp → V → Hp → Prop} (w : L2.Walk J n G Y) {g : TG} {tt : TT} {te : TE} {vs : List Nat} {σ : L2.St} {H1 : Hp} {D : Addr} {Qd : Hp → Prop}
    (Pv : Nat → Hp → Prop) (h0 : Pv 0 (upd H1 D (so D))) (hG : ∀ i H, i ≤ n → Pv i H → G H) (hs : ∀ i x H H', i < n → Pv i H → Y i H x H' → TurnS put D g tt te vs σ (Pv (i + 1)) x H') (hd : ∀ H, Pv n H → Qd H) :
    ∃ W : Nat → Nat → Hp → Prop, (∃ m, W 0 m (upd H1 D (so D))) ∧ ∀ i m H, W i m H →
      (J.stop i H ∧ Qd H) ∨ (J.go i H ∧ ∃ Nx : Hp → Prop, (∀ H', Nx H' → ∃ m', m' < m ∧ W (i + 1) m' H') ∧ ∀ x H', J.yld i H x H' → TurnS put D g tt te vs σ Nx x H') := by
  refine ⟨fun i m H => i ≤ n ∧ m = n - i ∧ Pv i H, ⟨n, Nat.zero_le _, rfl, h0⟩, ?_⟩
  rintro i m H ⟨hi, rfl, p⟩
  rcases Nat.lt_or_eq_of_le hi with lt | e
  · exact .inr ⟨w.goes i H lt (hG i H hi p), Pv (i + 1), fun H' p' => ⟨n - (i + 1), by omega, lt, rfl, p'⟩, fun x H' y => hs i x H H' lt p (w.yields i H x H' lt (hG i H hi p) y)⟩
  · subst e
    exact .inl ⟨w.stops H (hG i H hi p), hd H p⟩
end NSet
/-! sets of nested keys and of texts, put by a comprehension; sorted(set of nested keys) -/
namespace NSet
open PySem PySem.Spec PyProof.Rows L2 PySem.W ND
set_option autoImplicit false
/-- the set at a, without what is known of the keys themselves -/
def N0 (w : World) (g : Heap) (a : Addr) (L : List KIt) : Prop := ∃ (r : Array (Int × Value)) (n : Nat) (T : SetTable), (∃ o, g.get? a = some o ∧ o.ExactSet ∧ o.data = .set r n T) ∧ r.toList = rows1 w L ∧ TabOk T (hashs w L) ∧ (L.map (·.2)).Nodup ∧
  (w.params.followText "set-order" = true ∨ T.led = true) ∧ L.length * 5 < T.mask * 3 ∧ L.length < 64
theorem NS.n0 {w : World} {g : Heap} {a : Addr} {L : List KIt} {r : Array (Int × Value)} {n : Nat} {T : SetTable} (R : NS w g a L r n T) : N0 w g a L := ⟨r, n, T, R.ob, R.rw, R.tb, R.nd, R.ld, R.rm, R.fw⟩
theorem N0.full {w : World} {g : Heap} {a : Addr} {L : List KIt} (R : N0 w g a L) (k : ∀ z ∈ L, KeyAt g z) : ∃ r n T, NS w g a L r n T := by
  obtain ⟨r, n, T, h1, h2, h3, h4, h5, h6, h7⟩ := R
  exact ⟨r, n, T, h1, h2, h3, h4, k, h5, h6, h7⟩
def SetO (w : World) (a : Addr) (L : List KIt) : HO := .ext fun g => N0 w g a L
theorem setO_new {w : World} {P : Program} {H : Hp} {h : Heap} {a : Addr} {L : List KIt} (R : N0 w h a L) : ObjOk P w H h a (SetO w a L) := by
  have ⟨r, n, T, ⟨o, ho, x⟩, q⟩ := R
  refine ⟨R, ⟨o, ho⟩, fun h1 h2 p k => ?_⟩
  have ⟨r', n', T', ⟨o', ho', x'⟩, q'⟩ := (show N0 w h1 a L from p)
  exact ⟨r', n', T', ⟨o', k o' ho', x'⟩, q'⟩
theorem setO_fresh (P0 : Program) (w : World) : News1 P0 w fun D => SetO w D [] := fun H h D e => setO_new ⟨#[], 0, _, ⟨_, e, ⟨rfl, rfl, rfl⟩, rfl⟩, rfl,
  ⟨List.Pairwise.nil, rfl, rfl, .inl rfl, fun x hx => (by cases hx), fun i h j hi => (by simp [hashs] at hi)⟩, List.nodup_nil, by
    show _ ∨ (!w.params.followText "set-order") = true
    cases w.params.followText "set-order"
    · exact .inr rfl
    · exact .inl rfl, by show 0 * 5 < 7 * 3; decide, by show 0 < 64; decide⟩
def NKs1 (K : PySem.W.Frag) (H : Hp) (L : List KIt) : Prop := ∀ z ∈ L, NK K H z.2 (.ref z.1) ∧ z.2.depth ≤ 8
theorem NKs1.mono {K : PySem.W.Frag} {H H' : Hp} {L : List KIt} (h : NKs1 K H L) (m : ∀ b xs, SqT K H b xs → SqT K H' b xs) : NKs1 K H' L := fun z hz => ⟨NK.mono m _ _ (h z hz).1, (h z hz).2⟩
/-- a tuple that is a key goes into the set -/
def putN1 (w : World) (K : PySem.W.Frag) : PutR := fun D y H N => ∃ (b : Addr) (k : NestedKey) (L : List KIt), y = .ref b ∧ H D = some (SetO w D L) ∧ NKs1 K H L ∧ NK K H k (.ref b) ∧ k.depth ≤ 8 ∧ L.length + 1 < 64 ∧
  ∀ L', (k ∈ L.map (·.2) → L' = L) → (k ∉ L.map (·.2) → L'.Perm ((b, k) :: L)) → N (upd H D (SetO w D L'))
theorem adds_N (P : Program) (w : World) (K : PySem.W.Frag) : Adds P w K (putN1 w K) := by
  intro Y pins σ H s E D y v N Q e1 e2 e3 hu I rv ⟨b, k, L, ey, hD, oks, key, dep, few, nx⟩ q
  subst e1 e2 e3 ey
  obtain rfl : v = Value.ref b := rv
  have R0 : N0 Y.w s.heap D L := (I.hok D _ hD).1
  obtain ⟨r, n, T, R⟩ := R0.full fun z hz => ⟨nk_is I _ _ _ (oks z hz).1 rfl, (oks z hz).2⟩
  have hz : KeyAt s.heap (b, k) := ⟨nk_is I _ _ _ key rfl, dep⟩
  have tS : s.TypeIs (.ref D) "set" := by
    obtain ⟨o, ho, hx, _⟩ := R.ob
    exact ⟨o, ho, hx.1⟩
  refine wpAny_call_entry F.slot_set_add tS F.entry_set_add ?_ (F.args_set_add_2 _ _)
  unfold Builtin.«set.add» Builtin.Frozenset.oneOther
  simp only [List.isEmpty_nil, bind_assoc]
  unfold Builtin.Frozenset.addrOf setAdd
  refine wpAny_bind (wpAny_pure ?_)
  try dsimp only
  refine wpAny_bind (wpAny_pure ?_)
  try dsimp only
  refine wpAny_bind ?_
  refine wpAny_holding ?_
  have u1 : Y.A.in1.units ≤ Y.A.units + 1 := by first | exact Nat.le_refl _ | simp [Around.in1]
  refine wpAny_bind (pyHash_key k _ _ _ _ hz.1 (by omega) ?_)
  refine put_it (s := { s with toks := s.toks + k.draws }) (R.up fun _ _ e => e) (z := (b, k)) hz (by omega) few fun c g' L' r' n' T' sb R' c1 c2 => ?_
  show wpAny _ _ (ret Value.none) _ _ _
  refine wpAny_pure ⟨_, rfl, ?_⟩
  have he : ∃ u, g'.get? D = some u := by
    obtain ⟨o, ho, _⟩ := R'.ob
    exact ⟨o, ho⟩
  exact q _ _ (I.write (e := D) (t' := s.toks + k.draws) (by rw [hD]; trivial) (.inl rfl) (fun b u hb hu => (sb.2 b hb).trans hu) he (setO_new R'.n0)) (nx L' c1 c2)
/-! ### texts -/
theorem setTx_fresh (P : Program) (w : World) : News1 P w fun D => TX.SetTx P w D [] := fun H h D e => TX.setTx_new ⟨(#[], 0, .fresh 0 0 (!w.params.followText "set-order")), e, ⟨Froz.TxOk.nil rfl, List.Pairwise.nil, by
    show _ ∨ (!w.params.followText "set-order") = true
    cases w.params.followText "set-order"
    · exact .inr rfl
    · exact .inl rfl, List.nodup_nil⟩⟩
def putTx (P : Program) (w : World) : PutR := fun D y H N => ∃ (x : Str) (l : List Str), y = .str x ∧ H D = some (TX.SetTx P w D l) ∧ l.length + 1 < scanBound ∧ (x ∈ l → N H) ∧ (x ∉ l → N (upd H D (TX.SetTx P w D (x :: l))))
theorem adds_Tx (P : Program) (w : World) (K : PySem.W.Frag) : Adds P w K (putTx P w) := by
  intro Y pins σ H s E D y v N Q e1 e2 e3 hu I rv ⟨x, l, ey, hD, few, n1, n2⟩ q
  subst e1 e2 e3 ey
  obtain ⟨t, rfl⟩ : ∃ t, v = Value.str x t := rv
  have R0 : TX.At Y.prog Y.w s.heap D l := (I.hok D _ hD).1
  obtain ⟨B, hB, ok⟩ := id R0
  refine wpAny_call_entry F.slot_set_add ⟨_, hB, rfl⟩ F.entry_set_add ?_ (F.args_set_add_2 _ _)
  unfold Builtin.«set.add» Builtin.Frozenset.oneOther
  simp only [List.isEmpty_nil, bind_assoc]
  unfold Builtin.Frozenset.addrOf setAdd
  refine wpAny_bind (wpAny_pure ?_)
  try dsimp only
  refine wpAny_bind (wpAny_pure ?_)
  try dsimp only
  refine wpAny_bind ?_
  refine wpAny_holding ?_
  refine wpAny_bind ((strKind Y.prog Y.w).pyHash (Froz.is_str x t) ?_)
  by_cases m : x ∈ l
  · refine TX.add_old (s := { s with toks := s.toks + 1 }) hB ok.tx m (by omega) ?_
    show wpAny _ _ (ret Value.none) _ _ _
    exact wpAny_pure ⟨_, rfl, q _ _ (I.kept (t' := s.toks + 1) fun _ _ e => e) (n1 m)⟩
  · refine Froz.add_x (s := { s with toks := s.toks + 1 }) hB ok.tx m (by omega) ?_
    show wpAny _ _ (ret Value.none) _ _ _
    refine wpAny_pure ⟨_, rfl, q _ _ ?_ (n2 m)⟩
    have hg : (s.heap.update D (fun _ => Froz.sObj "set" (Froz.addTx (hashStr Y.w x) (.str x t) B))).get? D = some (Froz.sObj "set" (Froz.addTx (hashStr Y.w x) (.str x t) B)) := Froz.get_upd _ hB rfl
    refine I.write (e := D) (t' := s.toks + 1) (by rw [hD]; trivial) (.inl rfl) (fun b u hb hu => ?_) ⟨_, hg⟩ (TX.setTx_new ⟨_, hg, ok.add t m⟩)
    exact (Heap.get?_update_ne _ _ _ _ hb).trans hu
/-! ### sorted -/
mutual
theorem data_depth : ∀ k : NestedKey, k.data.depth = k.depth
  | .none => by simp [NestedKey.data, NestedKey.depth, PyData.depth]
  | .num i => by simp [NestedKey.data, NestedKey.depth, PyData.depth]
  | .text x => by simp [NestedKey.data, NestedKey.depth, PyData.depth]
  | .tup ks => by
    rw [NestedKey.data, NestedKey.depth, PyData.depth, datas_depth ks]
theorem datas_depth : ∀ ks : List NestedKey, PyData.depthAll (NestedKey.datas ks) = NestedKey.depthAll ks
  | [] => by simp [NestedKey.datas, NestedKey.depthAll, PyData.depthAll]
  | k :: ks => by rw [NestedKey.datas, NestedKey.depthAll, PyData.depthAll, data_depth k, datas_depth ks]
end
section
variable {X : Cx}
theorem refs_perm {L : List KIt} (inj : ∀ y ∈ L, ∀ z ∈ L, y.1 = z.1 → y = z) (nd : L.Nodup) : ∀ vs : List Value, vs.Perm (L.map fun z => Value.ref z.1) → ∃ M : List KIt, vs = M.map (fun z => Value.ref z.1) ∧ M.Perm L := by
  intro vs pm
  have ex : ∀ us : List Value, (∀ u ∈ us, ∃ z ∈ L, u = Value.ref z.1) → ∃ M : List KIt, us = M.map (fun z => Value.ref z.1) ∧ ∀ z ∈ M, z ∈ L := by
    intro us
    induction us with
    | nil => exact fun _ => ⟨[], rfl, fun z h => nomatch h⟩
    | cons u us ih =>
      intro h
      obtain ⟨z, hz, e⟩ := h u List.mem_cons_self
      obtain ⟨M, e1, s1⟩ := ih fun x hx => h x (List.mem_cons_of_mem _ hx)
      refine ⟨z :: M, by rw [List.map_cons, e, e1], fun y hy => ?_⟩
      rcases List.mem_cons.mp hy with q | q
      · rw [q]
        exact hz
      · exact s1 y q
  obtain ⟨M, e, sub⟩ := ex vs fun u hu => by
    obtain ⟨z, hz, q⟩ := List.mem_map.mp (pm.mem_iff.mp hu)
    exact ⟨z, hz, q.symm⟩
  refine ⟨M, e, ?_⟩
  rw [e] at pm
  have nL : (L.map fun z => Value.ref z.1).Nodup := List.pairwise_map.mpr (List.Pairwise.imp_of_mem (fun {y z} hy hz ne q => ne (inj y hy z hz (by injection q))) nd)
  have nM : M.Nodup := List.Pairwise.of_map (fun z : KIt => Value.ref z.1) (fun _ _ ne q => ne (congrArg (fun z : KIt => Value.ref z.1) q)) (pm.nodup_iff.mpr nL)
  refine (List.perm_ext_iff_of_nodup nM nd).mpr fun z => ⟨sub z, fun hz => ?_⟩
  obtain ⟨y, hy, q⟩ := List.mem_map.mp (pm.mem_iff.mpr (List.mem_map.mpr ⟨z, hz, rfl⟩))
  rw [← inj y (sub y hy) z hz (by injection q)]
  exact hy
theorem refs_vals : ∀ M : List KIt, Vals (M.map fun z => V.ref z.1) (M.map fun z => Value.ref z.1)
  | [] => .nil
  | _ :: M => .cons rfl (refs_vals M)
def RefOf (u : Value) (z : KIt) : Prop := u = .ref z.1
theorem refs_each : ∀ M : List KIt, EachIs RefOf (M.map fun z => Value.ref z.1) M
  | [] => .nil
  | _ :: M => .cons rfl (refs_each M)
theorem each_out : ∀ {us : List Value} {M : List KIt}, EachIs RefOf us M → Vals (M.map fun z => V.ref z.1) us
  | _, _, .nil => .nil
  | _, _, .cons h r => .cons h (each_out r)
abbrev leN (y z : KIt) : Bool := dataLe false (fun z : KIt => z.2.data) y z
/-- sorted(a set of nested keys) -/
def rSortN (K : PySem.W.Frag) (w : World) : List V → Hp → VK → Prop := fun vs H Q => ∃ (a : Addr) (L : List KIt), vs = [V.ref a] ∧ H a = some (SetO w a L) ∧ NKs1 K H L ∧ (∀ y ∈ L, ∀ z ∈ L, alike y.2.data z.2.data = true) ∧ (∀ z ∈ L, ∃ ks, z.2 = .tup ks) ∧
  ∀ (M : List KIt) (p : Addr), M.Perm L → (M.map (·.2)).Nodup → M.length < 64 → H p = none → Q (.ref p) (upd H p (.lst ((M.mergeSort leN).map fun z => V.ref z.1)))
theorem cr_sortN (hc : X.calm = true) (hu : X.A.units + 66 < cLine) : CallR X (.builtin "sorted") (rSortN X.K X.w) := by
  intro pins s σ H vs0 us Q I rv h
  obtain ⟨a, L, rfl, ha, oks, al, tp, q⟩ := h
  rw [Vals.ref1 rv]
  have R0 : N0 X.w s.heap a L := (I.hok a _ ha).1
  obtain ⟨r, n, T, R⟩ := R0.full fun z hz => ⟨nk_is I _ _ _ (oks z hz).1 rfl, (oks z hz).2⟩
  obtain ⟨o, ho, hx, hd⟩ := R.ob
  have rn := rows_len R.rw
  have fw := R.fw
  refine Calls.call_function_entry kind_sorted plain_sorted entry_sorted (args_sorted1 _) ?_
  unfold Builtin.«sorted»
  refine wpAny_bind (m := checkCount "sorted" 1 1 _) (wpAny_pure ?_)
  refine wpAny_bind (collect_set (A := X.A.in1) (I.ok.hd hc) ⟨o, ho, hx.1, hd⟩ R.fits (by unfold scanBound; omega) R.tb.ris R.ld fun s1 vs k1 hz g1 o1 pm => ?_)
  have hes : r.toList.map (·.2) = L.map fun z => Value.ref z.1 := by
    rw [R.rw]
    unfold rows1
    rw [List.map_map]
    rfl
  rw [hes] at pm
  obtain ⟨M, rfl, pM⟩ := refs_perm (fun y hy z hz e => (R.ky y hy).one (R.ky z hz) e) (List.Pairwise.of_map (fun z : KIt => z.2) (fun _ _ ne e => ne (congrArg _ e)) R.nd) vs pm
  have Ml : M.length < 64 := by rw [pM.length_eq]; exact fw
  have szl : (M.map fun z => Value.ref z.1).length ≤ sizeLine := by rw [List.length_map, sizeLine_eq]; omega
  refine wpAny_bind (wpAny_newList ?_ szl)
  have at0 : (s1.heap.push (seqObj "list" (M.map fun z => Value.ref z.1).toArray 0)).get? s1.heap.objs.size = some (seqObj "list" (M.map fun z => Value.ref z.1).toArray 0) := Heap.get?_push_size _ rfl
  have er : EachIs (fun v (z : KIt) => ∃ as, Reads (sortingHeap (s1.heap.push (seqObj "list" (M.map fun z => Value.ref z.1).toArray 0)) s1.heap.objs.size (M.map fun z => Value.ref z.1)) v z.2.data as) (M.map fun z => Value.ref z.1) M := by
    have gen : ∀ l : List KIt, (∀ z ∈ l, z ∈ M) → EachIs (fun v (z : KIt) => ∃ as, Reads (sortingHeap (s1.heap.push (seqObj "list" (M.map fun z => Value.ref z.1).toArray 0)) s1.heap.objs.size (M.map fun z => Value.ref z.1)) v z.2.data as) (l.map fun z => Value.ref z.1) l := by
      intro l
      induction l with
      | nil => exact fun _ => .nil
      | cons z l ih =>
        intro hl
        refine .cons ?_ (ih fun x hx => hl x (List.mem_cons_of_mem _ hx))
        obtain ⟨as, rd⟩ := Dp.reads I _ _ _ (NK.dp _ _ (oks z (pM.mem_iff.mp (hl z List.mem_cons_self))).1) rfl
        exact ⟨as, PyProof.Rows.Reads.keeps (fun b o e => sortingHeap_old (Nat.ne_of_lt (Heap.lt_size (k1 b o e))) (Heap.get?_push_of_some _ (k1 b o e))) rd⟩
    exact gen M fun _ h => h
  have alM : AllAlike (M.map fun z => z.2.data) := by
    intro d hd d' hd'
    obtain ⟨y, hy, rfl⟩ := List.mem_map.mp hd
    obtain ⟨z, hz, rfl⟩ := List.mem_map.mp hd'
    exact al y (pM.mem_iff.mp hy) z (pM.mem_iff.mp hz)
  have dpl : ∀ (z : KIt), z ∈ L → z.2.data.depth ≤ 9 := fun z hz => by
    have gen : ∀ k : NestedKey, k.data.depth = k.depth := fun k => data_depth k
    rw [gen]
    exact Nat.le_succ_of_le (oks z hz).2
  have un : ∀ x ∈ M.map (fun z => z.2.data), X.A.in1.in1.units + x.depth < cLine := by
    intro x hx
    obtain ⟨z, hz, rfl⟩ := List.mem_map.mp hx
    have := dpl z (pM.mem_iff.mp hz)
    have u1 : X.A.in1.in1.units ≤ X.A.units + 2 := by first | exact Nat.le_refl _ | simp [Around.in1]
    omega
  refine wpAny_bind (wpAny_holding (wpAny_call_entry slot_list_sort ⟨_, at0, rfl⟩ entry_list_sort
    (list_sort_vals (s := { s1 with heap := s1.heap.push (seqObj "list" (M.map fun z => Value.ref z.1).toArray 0) }) at0 (sorts_tups (s := { s1 with heap := sortingHeap (s1.heap.push (seqObj "list" (M.map fun z => Value.ref z.1).toArray 0)) s1.heap.objs.size (M.map fun z => Value.ref z.1) })
      (each_map (R := fun v x => ∃ as, Reads (sortingHeap (s1.heap.push (seqObj "list" (M.map fun z => Value.ref z.1).toArray 0)) s1.heap.objs.size (M.map fun z => Value.ref z.1)) v x as) (fun z : KIt => z.2.data) er) alM (fun d hd => ?_) un) szl ?_) (args_list_sort _)))
  · obtain ⟨z, hz, rfl⟩ := List.mem_map.mp hd
    obtain ⟨ks, e⟩ := tp z (pM.mem_iff.mp hz)
    rw [e]
    exact ⟨_, by rw [NestedKey.data]⟩
  have eo := sortVals_data false (refs_each M) er alM
  generalize sortVals (dataKind (sortingHeap (s1.heap.push (seqObj "list" (M.map fun z => Value.ref z.1).toArray 0)) s1.heap.objs.size (M.map fun z => Value.ref z.1)) (M.map fun z => z.2.data)) false (M.map fun z => Value.ref z.1) (M.map fun z => Value.ref z.1) = out at eo ⊢
  obtain ⟨c, hcc⟩ := PyProof.Rows.sortedHeap_at (vs := M.map fun z => Value.ref z.1) (out := out.toArray) at0
  have hn : H s1.heap.objs.size = none := I.hok.fresh hz
  have kk : ∀ b u, s.heap.get? b = some u → (PyProof.Rows.sortedHeap (s1.heap.push (seqObj "list" (M.map fun z => Value.ref z.1).toArray 0)) s1.heap.objs.size (M.map fun z => Value.ref z.1) out.toArray).get? b = some u := fun b u e => by
    have z := k1 b u e
    have lt := Heap.lt_size z
    rw [PyProof.Rows.sortedHeap_old (Nat.ne_of_lt lt) (by rw [size_push']; exact Nat.lt_succ_of_lt lt)]
    exact Heap.get?_push_of_some _ z
  have len : ((M.mergeSort leN).map fun z => V.ref z.1).length ≤ sizeLine := by rw [List.length_map, List.length_mergeSort, sizeLine_eq]; omega
  have J : Inv X pins σ (upd H s1.heap.objs.size (.lst ((M.mergeSort leN).map fun z => V.ref z.1))) { s with heap := PyProof.Rows.sortedHeap (s1.heap.push (seqObj "list" (M.map fun z => Value.ref z.1).toArray 0)) s1.heap.objs.size (M.map fun z => Value.ref z.1) out.toArray, gens := s1.gens, drawn := s1.drawn, toks := s1.toks } :=
    I.call (ch := []) (Un.laid kk hz hn) (I.hok.laid kk hz ⟨len, out, c, each_out eo, hcc⟩) (by rw [g1]; exact I.bare) (fun _ z => nomatch z)
  refine ⟨_, rfl, wpAny_pure ⟨_, rfl, ?_⟩⟩
  have e : (({ s1 with heap := PyProof.Rows.sortedHeap (s1.heap.push (seqObj "list" (M.map fun z => Value.ref z.1).toArray 0)) s1.heap.objs.size (M.map fun z => Value.ref z.1) out.toArray } : Shared)) = { s with heap := PyProof.Rows.sortedHeap (s1.heap.push (seqObj "list" (M.map fun z => Value.ref z.1).toArray 0)) s1.heap.objs.size (M.map fun z => Value.ref z.1) out.toArray, gens := s1.gens, drawn := s1.drawn, toks := s1.toks } := by
    cases s1
    cases s
    cases o1
    rfl
  rw [← e] at J
  exact ⟨.ref s1.heap.objs.size, _, J, rfl, q M _ pM ((pM.map (·.2)).nodup_iff.mpr R.nd) Ml hn⟩
end
end NSet
/-! an own error whose __init__ begins with super().__init__(..) -/
namespace EX
open PySem PySem.Spec PyProof.Rows L2 NdefX
set_option autoImplicit false
/-- what the written part says of the class, its __init__ and the cell of its class -/
structure SupC (P : Program) (K : PySem.W.Frag) (C fI cc : Addr) (F : NF) : Prop where
  oex : OexC K C
  cl : F.cl = [(("__class__" : Str), cc)]
  cd : PySem.W.codeIn K (.ref F.c) F.qual = true
  code : ∃ (ccl : Value) (cdd : Option Addr) (vs : Array Value) (ccs : Array (Option Value)) (file : Str) (tf : Tok), K.lookup F.c = some (⟨ccl, cdd, .fields vs, ccs⟩ : Obj) ∧ vs[2]? = some (Value.str file tf) ∧ ((P.main.file : Str) == file) = true
  cell : ∃ (cl : Value) (cld : Option Addr) (csl : Array (Option Value)), K.lookup cc = some (⟨cl, cld, .cell (some (.ref C)), csl⟩ : Obj)
  top : (P.main.scope.names.lookup ("super" : Str)).isSome = false
  opq : PySem.W.nsIn K cStatics "thirdparty.any" = some none
  ini : PySem.W.ks_superIn K C C "__init__" = some (some (.builtin "ValueError.__init__"))
  ve : PySem.W.subIn K (.ref C) (.type "ValueError") = some true
  own : PySem.W.mroIn K C (.ref C) = some true
section
variable {X : Cx} {pins : List (Addr × Obj)} {σ : L2.St} {H : Hp} {s : Shared}
/-- the bound __init__ is called -/
theorem call_mw {A : Around} {E : Value → Shared → Prop} {a C u : Addr} {us : List Value} {Q : Value → Shared → Prop} (T : OexC X.K C) (I : Inv X pins σ H s) (e : H a = some (exo a C none)) (hu : s.heap.get? u = some (PySem.W.kxs_mw "ValueError.__init__" a)) (hl : us.length ≤ sizeLine) (h : ∀ s', Inv X pins σ H s' → Q .none s') :
    wpAny (model X.prog X.w) A (call (.ref u) us) Q E s := by
  obtain ⟨nm, q, N, bs, bm, sn, sub, ab, col, dd, k0, k1, k2, k3, k5, hC, hbm⟩ := T.cls
  have hC' := I.kIn _ _ hC
  obtain ⟨t1, ho⟩ := exo_at I.hok e
  obtain ⟨hp, g, d, t, os⟩ := s
  refine wpAny_call (codeAny_of_tree ?_)
  show wpAny _ A.in1 (callAny (.ref u) ⟨us, []⟩) _ _ _
  simp only [callAny]
  refine wpAny_bind (wpAny_load hu ?_)
  simp only [PySem.W.kxs_mw, show (Value.type "method-wrapper" == Value.type "method" || Value.type "method-wrapper" == Value.type "builtin_function_or_method" || Value.type "method-wrapper" == Value.type "method-wrapper") = true by decide, if_true]
  refine PySem.W.KFB.if_so (by decide) ?_
  refine wpAny_bind (PySem.W.check_bound_init F.excBase_ValueError.toExcCallFacts hC' ho rfl ?_)
  refine wpAny_bind (wpAny_pure (wpAny_pure ?_))
  refine ⟨plainId_quiet F.excBase_ValueError.init.plain _, codeAny_builtin F.excBase_ValueError.initEntry ?_⟩
  refine PySem.W.exc_init_tree (cls := .ref C) (t0 := t1) (dv := none) (c2 := .none) (c3 := .none) (b4 := .bool false) ho hl fun h' k hx _ => ?_
  have J := I.write (t' := t) (x := a) (e := a) (o := exo a C none) (by rw [e]; exact True.intro) (.inl rfl) k ⟨_, hx⟩ (exo_ok hx)
  have eu : upd H a (exo a C none) = H := by
    funext b
    by_cases hb : b = a
    · rw [hb, upd_same, e]
    · rw [upd_ne hb]
  rw [eu] at J
  exact h _ J
/-- THE RULE: an __init__ of an own error, its first statement super().__init__(msg) -/
theorem sup_ok {CX : CXT} {P : Program} {w : World} {K : PySem.W.Frag} {mg : Str → Option Value} {base : Heap} {k : Nat} {C fI cc : Addr} {F : NF} {N : List Str} {fl : Str} {msg : Expr} {rest : List Stmt} {p0 p1 p2 p3 p4 : Pos} {oc doc pm ctv : Value} {od : Option Addr} {osl : Array (Option Value)} {ar : Arg} {sp : Sp} {pl : Addr → Sem Bool}
    (T : SupC P K C fI cc F) (lk : K.lookup fI = some ⟨oc, od, .func (F.fd doc pm ctv), osl⟩) (hm : mg "super" = none) (S : NScope N ["self", fl] ["__class__"] F.scope)
    (hbody : F.body = .Expr (.Call (.Attribute (.Call (.Name "super" p0) [] [] p1) "__init__" p2) [msg] [] p3) p4 :: rest)
    (hpar : (F.params.posonlyargs ++ F.params.args).head? = some ar) (har : ar.arg = "self") (hks : F.scope.names.lookup ("super" : Str) = some .globalImplicit)
    (len : ∀ vs H Q E, sp vs H Q E → vs.length = 2)
    (h : ∀ (A : Around) (outer : List Env) (s : Shared) (H : Hp) (vs : List V) (Q : VK) (E : XK), Room k (A.deeper (envF F fI s.heap.objs.size)) → sp vs H Q E →
      ∃ (a : Addr) (y : V) (tm : TE) (t2 : TS), vs = [.ref a, y] ∧ H a = some (exo a C none) ∧ PE (ncx CX P w K mg base N F fI A outer s H E) msg tm ∧ PSs (ncx CX P w K mg base N F fI A outer s H E) rest t2 ∧
        tm (startF N vs [none]) H fun v H1 => [v].length = 1 ∧ H1 a = some (exo a C none) ∧ t2 { nx := fun _ H' => Q .non H', rt := Q } (startF N vs [none]) H1)
    (he : ∀ L : Addr, eval (.Call (.Attribute (.Call (.Name "super" p0) [] [] p1) "__init__" p2) [msg] [] p3) (envF F fI L) = (do
      let ov ← attributeBase (.Call (.Name "super" p0) [] [] p1) "__init__" (envF F fI L) (eval (.Call (.Name "super" p0) [] [] p1) (envF F fI L))
      standAt p2.atName
      let (f, first) ← holding [ov] (getMethod ov "__init__" (pl L))
      callWith p3 f first (backTo p3 (starEach [msg] (envF F fI L))) []))
    (hst : ∀ L : Addr, starEach [msg] (envF F fI L) = (false, eval msg (envF F fI L)) :: starEach [] (envF F fI L))
    (hsw : ∀ L : Addr, swapsWith (.Call (.Attribute (.Call (.Name "super" p0) [] [] p1) "__init__" p2) [msg] [] p3) none p4.line (envF F fI L) = pure false) :
    FnOk P w K mg base CX (k + 1) fI (F.fd doc pm ctv) ["self", fl] sp := by
  refine ⟨len, fun A outer s H args us vs Q E hr e0 hb r hsp => ?_⟩
  have hl := len _ _ _ _ hsp
  have KX : K.In s.heap := e0.mod.kin.keeps fun b o e => (e0.bs b o e).1
  have lim : s.heap.NoLimit := e0.mod.nolimit.keeps fun b o e => (e0.bs b o e).1
  obtain ⟨ccl, cdd, vsC, ccs, file, tf, hcode, hvs, hfile⟩ := T.code
  obtain ⟨cl1, cld, csl, hcell⟩ := T.cell
  have hcl : F.cl.lookup ("__class__" : Str) = some cc := by rw [T.cl]; rfl
  have hclA : ∀ y c, F.cl.lookup y = some c → y = ("__class__" : Str) ∧ c = cc := fun y c e => by
    rw [T.cl] at e
    by_cases hy : y = ("__class__" : Str)
    · subst hy
      exact ⟨rfl, (Option.some.inj e).symm⟩
    · have hb : (y == ("__class__" : Str)) = false := beq_false_of_ne hy
      simp only [List.lookup, hb] at e
      cases e
  have CA : CellsAt F.cl ["__class__"] [none] s.heap H := {
    len := rfl
    all := fun y c e => by
      obtain ⟨_, rfl⟩ := hclA y c e
      have hbk := e0.mod.kin _ _ hcell
      exact ⟨(e0.bs _ _ hbk).2, _, _, (e0.bs _ _ hbk).1, rfl⟩
    inj := fun x y c e1 e2 => (hclA x c e1).1.trans (hclA y c e2).1.symm
    has := fun i y e => by
      cases i with
      | zero =>
        have ey : y = ("__class__" : Str) := (Option.some.inj e).symm
        subst ey
        exact ⟨cc, hcl, fun v ev => by cases ev⟩
      | succ i => cases e }
  refine codeAny_call_function hr.depth (KX _ _ lk) rfl S.co S.gen rfl (PySem.W.codeRec_of KX T.cd) (hb _ _ _ _ ?_)
  refine wpAny_newFunctionEnv S.nocell (fun ⟨n, _⟩ hy => S.par n (List.of_mem_zip hy).1) (fun h₁ hns hsb => ⟨lim.fresh _ hsb, ?_⟩) S.kind
  show codeAny _ _ (.func F.body (envF F fI s.heap.objs.size)) _ _
  refine ks_codeAny_funcAt ?_
  have kp : ∀ b o, s.heap.get? b = some o → h₁.get? b = some o := fun b o e => hsb.extBut b o (Nat.ne_of_lt (Heap.lt_size e)) (Heap.get?_push_of_some _ e)
  obtain ⟨a, y, tm, t2, ev, ha, hm1, h2, hq⟩ := h A outer s H vs Q E (hr.deeper _) hsp
  have I : Inv (ncx CX P w K mg base N F fI A outer s H E) [] (startF N vs [none]) H { s with heap := h₁, toks := s.toks + (([("self" : Str), fl] : List Str).zip us).length } := inv_startN S hr.hd e0 hl r CA hns kp
  generalize hs1 : ({ s with heap := h₁, toks := s.toks + (([("self" : Str), fl] : List Str).zip us).length } : Shared) = s1 at I ⊢
  have KX1 : K.In s1.heap := I.kIn
  obtain ⟨nm, q, NN, bs, bm, sn, sub, ab, col, dd, k0, k1, k2, k3, k5, hC, hbm⟩ := T.oex.cls
  have hC1 := KX1 _ _ hC
  obtain ⟨t1, ho⟩ := exo_at I.hok ha
  have hne : a ≠ C := fun e => by
    rw [e, hC1] at ho
    cases ho
  rw [show execs F.body (envF F fI s.heap.objs.size) = execs (.Expr (.Call (.Attribute (.Call (.Name "super" p0) [] [] p1) "__init__" p2) [msg] [] p3) p4 :: rest) (envF F fI s.heap.objs.size) by rw [hbody]]
  refine ks_wpAt_execs_cons (ks_wpAt_Expr_any (ks_wpAt_MethodCall (pl := pl s.heap.objs.size) (ks_wpAt_super_base (env := envF F fI s.heap.objs.size) hks (S.frk "__class__" (List.mem_singleton.mpr rfl)) (by decide) rfl (KX1 _ _ lk) rfl hpar rfl (KX1 _ _ hcode) rfl hvs hfile T.top ?_) (he _)) I.quiet (hsw _))
  obtain ⟨mb, hb1, hb2⟩ := I.mod.blt
  refine PySem.W.ks_loadName_global S.kind hks (PySem.Calls.loadGlobal_builtin (I.mod.glob.keeps I.bk) hm (hb1.keeps I.bk) ((hb2 "super" (by decide)).trans (by decide +kernel : bootBuiltins "super" = some (.type "super"))) ⟨rfl, ?_⟩)
  refine wpAny_loadName_free S.kind (S.frk "__class__" (List.mem_singleton.mpr rfl)) hcl ⟨_, KX1 _ _ hcell, rfl⟩ ?_
  rw [har]
  have hself : F.scope.names.lookup ("self" : Str) = some .local := S.par "self" (List.mem_cons_self ..)
  obtain ⟨m, hnsM, hsl⟩ := I.loc
  have hN0 : N[(0 : Nat)]? = some ("self" : Str) := by
    have e := S.pre
    cases N with
    | nil => cases e
    | cons n N =>
      have e2 : n :: N.take 2 = ("self" : Str) :: [fl, "__class__"] := e
      rw [List.cons.injEq] at e2
      rw [e2.1]
      rfl
  have hms : m ("self" : Str) = some (.ref a) := by
    obtain ⟨u, ru, lu⟩ := hsl 0 "self" (.ref a) hN0 (by rw [ev]; rfl) (.inl hself)
    obtain rfl : u = Value.ref a := ru
    rcases lu with lu | ⟨lu, _⟩
    · exact lu.2
    · rw [show (ncx CX P w K mg base N F fI A outer s H E).env.kindOf "self" = some .local from hself] at lu
      rcases lu with z | z <;> cases z
  refine wpAny_loadName_local S.kind hself hnsM hms ?_
  obtain ⟨hp1, g1, d1, tk1, os1⟩ := s1
  refine ks_wpAny_isType_cls hC1 rfl ⟨rfl, ?_⟩
  refine ks_wpAny_call_super hC1 rfl ho rfl (fun c e => by cases e) (PySem.W.looks_mroIn KX1 T.own) (fun h' e kk => ?_)
  have I2 := I.kept (t' := tk1) kk
  have KX2 : K.In h' := I2.kIn
  have hC2 := KX2 _ _ hC
  have ho2 := kk _ _ ho
  have hcls : PySem.W.clsIn K C = some { name := nm, bases := bs, mro := .ref C :: bm, ns := NN, qualname := q, hasDict := true, slotNames := sn, subclasses := sub, abstract := ab, collection := col, hasDel := false } := by
    unfold PySem.W.clsIn
    rw [hC] <;> rfl
  have hini := T.ini
  unfold PySem.W.ks_superIn at hini
  rw [hcls, Option.bind_some] at hini
  have Ia : PySem.W.InstAt h' a _ C none := ⟨ho2, rfl, rfl, trivial⟩
  refine PySem.W.kxs_getMethod PySem.W.kxs_ValueError e (PySem.W.looks_opaque KX2 T.opq) (l₀ := .ref C :: bm) (fun A Q E s k q => wpAny_bind ((PySem.W.looks_clsIn KX2 hcls) A _ E s k (wpAny_pure q))) rfl KX2 hini (Ia.type.andThen (PySem.W.looks_subIn KX2 T.ve)) hne (by decide) ?_
  have kp3 : ∀ b o, h'.get? b = some o → (h'.push (PySem.W.kxs_mw "ValueError.__init__" a)).get? b = some o := fun b o e => Heap.get?_push_of_some _ e
  have I3 := I2.kept (h' := h'.push (PySem.W.kxs_mw "ValueError.__init__" a)) (t' := tk1 + 1) kp3
  have hu3 : (h'.push (PySem.W.kxs_mw "ValueError.__init__" a)).get? h'.objs.size = some (PySem.W.kxs_mw "ValueError.__init__" a) := Heap.get?_push_at rfl rfl
  have I4 : Inv (ncx CX P w K mg base N F fI A outer s H E) [(h'.objs.size, PySem.W.kxs_mw "ValueError.__init__" a)] (startF N vs [none]) H _ := I3.pins_of fun p hp => by
    rw [List.mem_singleton.mp hp]
    exact ⟨hu3, I2.hok.fresh (Nat.le_refl _), Nat.ne_of_gt I2.lt, I2.nofs (Nat.le_refl _), fun v z => by cases z⟩
  have ha1 : PA (ncx CX P w K mg base N F fI A outer s H E) [msg] _ := pa_cons hm1 pa_nil (hst _)
  have hst' := hst s.heap.objs.size
  refine PySem.W.kxs_callWith (i := "ValueError.__init__") (x := a) (by rw [hst']; rfl) ?_
  rw [hst']
  refine PySem.Calls.evalArgs_plain ?_
  have hrun := ha1.run p3 _ _ (startF N vs [none]) H (fun vs' H1 => vs'.length = 1 ∧ H1 a = some (exo a C none) ∧ t2 { nx := fun _ H' => Q .non H', rt := Q } (startF N vs [none]) H1) I4 ?_
  · have hst2 : backTo p3 (starEach [msg] (ncx CX P w K mg base N F fI A outer s H E).env) = backTo p3 ((false, eval msg (envF F fI s.heap.objs.size)) :: starEach [] (envF F fI s.heap.objs.size)) := congrArg (backTo p3) hst'
    rw [hst2] at hrun
    refine wpAny_mono hrun (fun ws s2 hw => ?_) fun e s' he => he
    obtain ⟨vs', H1, J, rv, hlen, ha2, hq2⟩ := hw
    have hu := (J.pin _ (List.mem_append_right _ (List.mem_singleton.mpr rfl))).1
    refine ⟨hu, ?_⟩
    have J0 : Inv (ncx CX P w K mg base N F fI A outer s H E) [] (startF N vs [none]) H1 s2 := J.pins_of fun p hp => by cases hp
    refine call_mw T.oex J0 ha2 hu (by
      show ws.length ≤ _
      rw [← rv.length, hlen, sizeLine_eq]; decide) fun s3 J3 => ?_
    refine wpAt_of_wpAny ?_
    refine wpAny_mono (h2.run [] s3 _ H1 _ J3 hq2) (fun fl s' hs => ?_) fun e s' hs => hs
    have fin : ∀ {σ' : L2.St} {H' : Hp} {v : V} {u : Value}, Inv (ncx CX P w K mg base N F fI A outer s H E) [] σ' H' s' → L2.RelV v u → Q v H' → CE outer P w H s Q u s' :=
      fun {σ' H' v u} J rv q => ⟨v, H', J.os, J.bare, J.base, J.hok, rv, q⟩
    cases fl with
    | ret u =>
      obtain ⟨v, σ', H', J, rv, q⟩ := hs
      exact fin J rv q
    | next =>
      obtain ⟨σ', H', J, q⟩ := hs
      exact fin (v := V.non) (u := Value.none) J rfl q
    | brk =>
      obtain ⟨_, _, _, q⟩ := hs
      exact False.elim q
    | cont =>
      obtain ⟨_, _, _, q⟩ := hs
      exact False.elim q
  · exact hq
end
end EX
/-! own errors: made, their fields, isinstance of them -/
namespace EX
open PySem PySem.Spec PyProof.Rows L2 NdefX
set_option autoImplicit false
section
variable {X : Cx}
/-- {x}: a text, an int or None, as a text that is not told -/
def MsgOk (x : V) : Prop := (∃ y : Str, x = .str y ∧ y.length ≤ 1000) ∨ (∃ i : Int, x = .int i ∧ i.natAbs.log2 < 1920) ∨ x = .non
def tFmtN (te : TE) : TE := fun σ H Q => te σ H fun x H1 => MsgOk x ∧ ∀ y : Str, y.length ≤ 10000 → Q (.str y) H1
theorem int_text {i : Int} (h : i.natAbs.log2 < 1920) : (Str.ofString (toString i)).length ≤ 10000 := by
  have e := int_text_length_le (k := 1920) (by decide) h
  rw [PySem.ofString_length]
  omega
theorem pe_fmtN {e : Expr} {te : TE} {pos : Pos} (he : PE X e te) : PE X (.FormattedValue e (-1) none pos) (tFmtN te) := by
  refine ⟨fun pins s σ H Q I h => ?_⟩
  refine wpAny_FormattedValue_plain (thn (he.run pins s σ H _ I h) fun v s1 hv => ?_)
  obtain ⟨x, H1, I1, r1, q, k⟩ := hv
  rcases q with ⟨y, rfl, hz⟩ | ⟨i, rfl, hz⟩ | rfl
  · obtain ⟨t, rfl⟩ := r1
    have q := k y (by omega)
    exact wpAny_formatField_str ⟨.str y, H1, I1, ⟨t, rfl⟩, q⟩ ⟨.str y, H1, I1.tok _, ⟨_, rfl⟩, q⟩ (by rw [sizeLine_eq]; omega)
  · obtain ⟨t, rfl⟩ := r1
    exact wpAny_formatField_int hz ⟨.str (toString i), H1, I1.tok _, ⟨_, rfl⟩, k _ (int_text hz)⟩
  · obtain rfl : v = Value.none := r1
    exact wpAny_formatField_none ⟨.str "None", H1, I1.tok _, ⟨_, rfl⟩, k "None" (by decide)⟩
/-- one argument, its end weakened -/
theorem pa_one {e : Expr} {te : TE} (he : PE X e te) (hs : starEach [e] X.env = (false, eval e X.env) :: starEach [] X.env := by rfl) : PA X [e] (fun σ H Q => ∃ Q0 : VK, te σ H Q0 ∧ ∀ y H1, Q0 y H1 → Q [y] H1) := by
  have h1 : PA X [e] _ := pa_cons he pa_nil hs
  refine ⟨fun pos pins s σ H Q I h => ?_⟩
  obtain ⟨Q0, h0, k⟩ := h
  have h2 := h1.run pos pins s σ H (fun vs H1 => ∃ y, vs = [y] ∧ Q0 y H1) I ?_
  · refine thn h2 fun us s1 hh => ?_
    obtain ⟨vs, H1, J, rv, y, rfl, q⟩ := hh
    exact ⟨[y], H1, J, rv, k y H1 q⟩
  · have e2 : (fun (x : V) (H1 : Hp) => ∃ y, [x] = [y] ∧ Q0 y H1) = Q0 := by
      funext x H1
      exact propext ⟨fun ⟨y, e, q⟩ => by cases e; exact q, fun q => ⟨x, rfl, q⟩⟩
    show te σ H (fun (x : V) (H1 : Hp) => ∃ y, [x] = [y] ∧ Q0 y H1)
    rw [e2]
    exact h0
end
/-! ### the class -/
def oexB (K : PySem.W.Frag) (C : Addr) : Bool := match K.lookup C with
  | some ⟨.type "type", _, .cls cd, sl⟩ => (match cd.mro, sl.toList with
    | .ref C' :: bm, [_, _, _, _, some (.builtin n), _] => C' == C && n == "ValueError.__new__" && !cd.hasDel && cd.hasDict && PySem.HandSPX.refsVE bm
    | _, _ => false)
  | _ => false
theorem oexB_ok {K : PySem.W.Frag} {C : Addr} (q : oexB K C = true) : ∃ nm q N bs bm sn sub ab col dd k0 k1 k2 k3 k5, K.lookup C = some (excClassObj nm q C N bs bm true sn sub ab col dd k0 k1 k2 k3 k5 "ValueError.__new__") ∧ PySem.HandSPX.refsVE bm = true := by
  unfold oexB at q
  split at q
  · rename_i dd cd sl ho
    split at q
    · rename_i C' bm k0 k1 k2 k3 n k5 hm hs
      simp only [Bool.and_eq_true, beq_iff_eq, Bool.not_eq_true'] at q
      obtain ⟨⟨⟨⟨rfl, rfl⟩, hdel⟩, hh⟩, ht⟩ := q
      obtain ⟨nm, bs, mro, ns, qn, hd, sn, sub, ab, col, del⟩ := cd
      dsimp only at hm hdel hh
      subst hm hdel hh
      have hsl : sl = #[k0, k1, k2, k3, some (.builtin "ValueError.__new__"), k5] := by
        obtain ⟨l⟩ := sl
        simp only at hs
        rw [hs]
      subst hsl
      exact ⟨nm, qn, ns, bs, bm, sn, sub, ab, col, dd, k0, k1, k2, k3, k5, ho, ht⟩
    · cases q
  · cases q
/-- an own error's class -/
structure ErrC (K : PySem.W.Frag) (C : Addr) : Prop where
  oex : OexC K C
  xf : XfC K C
  ha : PySem.W.findIn K (.ref C) "__class__" = some (some (.builtin "object.__class__"))
  hn : PySem.W.specialIn K (.builtin "object.__class__") "__get__" = some (some (.builtin "getset_descriptor.__get__"))
  ht : PySem.W.takesIn K (.builtin "object.__class__") = some true
  hm : PySem.W.mroIn K C (.type "object") = some true
def errB (K : PySem.W.Frag) (C : Addr) : Bool := oexB K C && (decide (PySem.W.findIn K (.ref C) "__setattr__" = some (some (.builtin "object.__setattr__"))) && (decide (PySem.W.subIn K (.ref C) (.type "BaseException") = some true) && (decide (PySem.W.typeIn K (.ref C) = some (.type "type")) && (PySem.W.keepIn K (.ref C) && (xfB K C &&
  (decide (PySem.W.findIn K (.ref C) "__class__" = some (some (.builtin "object.__class__"))) && (decide (PySem.W.specialIn K (.builtin "object.__class__") "__get__" = some (some (.builtin "getset_descriptor.__get__"))) && (decide (PySem.W.takesIn K (.builtin "object.__class__") = some true) && decide (PySem.W.mroIn K C (.type "object") = some true)))))))))
theorem errB_ok {K : PySem.W.Frag} {C : Addr} (h : errB K C = true) : ErrC K C := by
  unfold errB at h
  simp only [Bool.and_eq_true, decide_eq_true_eq] at h
  obtain ⟨h1, h2, h3, h4, h5, h6, h7, h8, h9, h10⟩ := h
  exact ⟨⟨oexB_ok h1, h2, h3, h4, h5⟩, xfB_ok h6, h7, h8, h9, h10⟩
/-! ### a caught error: its fields, isinstance -/
def tXfE (K : PySem.W.Frag) (a : Addr) (cls : Value) (d : Option Addr) (f : Str) (te : TE) : TE := fun σ H Q => te σ H fun x H1 => ∃ C : Addr, x = .ref a ∧ cls = .ref C ∧ ErrC K C ∧ PySem.W.findIn K (.ref C) f = some none ∧ ∃ (dd : Addr) (fs : List (Str × V)) (v : V), d = some dd ∧ H1 dd = some (.xd fs) ∧ fs.lookup f = some v ∧ Q v H1
theorem pe_xfE {X : Cx} {a : Addr} {oe : Obj} {cls : Value} {d : Option Addr} {pn : List (Addr × Obj)} {e : Expr} {te : TE} {pos : Pos} {n : Str}
    (hz : Zc cls d oe) (hf : ∃ vs, oe.data = .fields vs) (he : PE (X.suite a ((a, oe) :: pn)) e te) (hb : attributeBase e n X.env (eval e X.env) = eval e X.env := by rfl) :
    PE (X.suite a ((a, oe) :: pn)) (.Attribute e n pos) (tXfE X.K a cls d n te) := by
  refine ⟨fun pins s σ H Q I h => ?_⟩
  refine attr_of hb (thn (he.run pins s σ H _ I h) fun u s1 hh => ?_)
  obtain ⟨x, H1, I1, rx, C, ex, ec, T, hno, dd, fs, v, ed, ea, l, q⟩ := hh
  subst ex
  obtain rfl : u = Value.ref a := rx
  subst ec
  subst ed
  obtain ⟨ha, _⟩ := I1.pin (a, oe) (List.mem_append_left _ List.mem_cons_self)
  obtain ⟨vs, hd⟩ := hf
  have hx : ObjOk X.prog X.w H1 s1.heap dd (.xd fs) := I1.hok dd _ ea
  obtain ⟨mA, hns, hr⟩ := hx
  obtain ⟨od, ho, hl⟩ := lookIn_ns hns
  obtain ⟨u, hu, ru⟩ := RelO.some_of (v := v) (o := mA n) (by rw [← l]; exact hr n)
  have J : PySem.W.InstAt s1.heap a oe C (some od) := ⟨ha, hz.1, by unfold PySem.W.notCls; rw [hd] <;> rfl, by rw [hz.2]; exact ho⟩
  exact HandSPX.exc_get I1.kIn J T.xf.ga T.xf.gg T.xf.exC (PySem.W.findObj_own T.xf.hdC hno rfl (by rw [hl, hu])) (handed_of ru) ⟨v, H1, I1.tok _, ru, q⟩
theorem kit_err {K : PySem.W.Frag} {C x : Addr} {ox : Obj} {od : Option Obj} (T : ErrC K C) : PySem.W.KitX K (.ref x) (.ref C) (fun h => PySem.W.InstAt h x ox C od) := by
  have hf : PySem.W.findObj K C od "__class__" = some (.bind (.builtin "getset_descriptor.__get__") (.builtin "object.__class__")) := PySem.W.findObj_dataE (by obtain ⟨cd, hc, _⟩ := PySem.W.any_some T.xf.hdC; rw [hc]; rfl) T.ha T.hn T.ht
  exact {
    ty := fun _ _ _ I => I.type
    it := fun _ _ X _ => by
      obtain ⟨cdD, hcD, _⟩ := PySem.W.any_some T.xf.hdC
      unfold PySem.W.clsIn at hcD
      split at hcD
      · rename_i c' d' cd' sl' ho
        intro A' Q' E' s' k q
        unfold isType loadHead
        exact wpAny_bind (wpAny_loadPart (k _ _ (X _ _ ho)) (wpAny_pure q))
      · cases hcD
    ne := fun h tp dd its n sl X htp => by
      obtain ⟨cdD, hcD, _⟩ := PySem.W.any_some T.xf.hdC
      refine Bool.eq_false_iff.mpr fun q => ?_
      have e : C = tp := Value.ref.inj (beq_iff_eq.mp q)
      subst e
      unfold PySem.W.clsIn at hcD
      split at hcD
      · rename_i c' d' cd' sl' ho
        have z := (X _ _ ho).symm.trans htp
        cases z
      · cases hcD
    ca := fun X I k => PySem.W.kx_classE X I T.xf.ga T.xf.gg T.xf.exC hf T.hm k }
/-- isinstance(e, c), e the exception that the suite holds -/
def rIsX (K : PySem.W.Frag) (a : Addr) (cls : Value) (d : Option Addr) : List V → Hp → VK → Prop := fun xs H Q => ∃ (C : Addr) (c : V) (cv : Value) (b : Bool), xs = [.ref a, c] ∧ cls = .ref C ∧ ErrC K C ∧ (∀ dd, d = some dd → ∃ fs, H dd = some (.xd fs)) ∧ (∀ u, RelV c u → u = cv) ∧ PySem.W.kitOne K (.ref C) cv = some b ∧ Q (.bl b) H
theorem inst_err {X : Cx} {pins pn : List (Addr × Obj)} {σ : L2.St} {H : Hp} {s : Shared} {a C : Addr} {oe : Obj} {d : Option Addr} (I : Inv (X.suite a ((a, oe) :: pn)) pins σ H s) (hz : Zc (.ref C) d oe) (hf : ∃ vs, oe.data = .fields vs) (hd : ∀ dd, d = some dd → ∃ fs, H dd = some (.xd fs)) : ∃ od, PySem.W.InstAt s.heap a oe C od := by
  obtain ⟨hget, _⟩ := I.pin (a, oe) (List.mem_append.mpr (.inl List.mem_cons_self))
  obtain ⟨vs, hv⟩ := hf
  cases d with
  | none => exact ⟨none, hget, hz.1, by unfold PySem.W.notCls; rw [hv] <;> rfl, by rw [hz.2]; trivial⟩
  | some dd =>
    obtain ⟨fs, e⟩ := hd dd rfl
    have hx : ObjOk X.prog X.w H s.heap dd (.xd fs) := I.hok dd _ e
    obtain ⟨mA, hns, hr⟩ := hx
    obtain ⟨od, ho, hl⟩ := lookIn_ns hns
    exact ⟨some od, hget, hz.1, by unfold PySem.W.notCls; rw [hv] <;> rfl, by rw [hz.2]; exact ho⟩
theorem call_isX {X : Cx} {a : Addr} {oe : Obj} {cls : Value} {d : Option Addr} {pn : List (Addr × Obj)} (hz : Zc cls d oe) (hf : ∃ vs, oe.data = .fields vs) : CallR (X.suite a ((a, oe) :: pn)) (.builtin "isinstance") (rIsX X.K a cls d) := by
  intro pins s σ H xs us Q I r h
  obtain ⟨C, c, cv, b, rfl, rfl, T, hd, hcv, e, q⟩ := h
  cases r with
  | cons rx rr =>
    cases rr with
    | cons rt rr =>
      cases rr
      cases rx
      have ec := hcv _ rt
      subst ec
      obtain ⟨od, J⟩ := inst_err I hz hf hd
      exact PySem.W.kia_one (kit_err T) I.kIn J e (fun z => nomatch z) fun tk => ⟨.bl b, H, I.kept (t' := tk) fun _ _ z => z, rfl, q⟩
/-- isinstance(e, (c, ..)) -/
def rIsXT (K : PySem.W.Frag) (a : Addr) (cls : Value) (d : Option Addr) : List V → Hp → VK → Prop := fun xs H Q => ∃ (C t : Addr) (cs : List V) (cvs : List Value) (b : Bool), xs = [.ref a, .ref t] ∧ cls = .ref C ∧ ErrC K C ∧ (∀ dd, d = some dd → ∃ fs, H dd = some (.xd fs)) ∧ H t = some (.tup cs) ∧ (∀ us, Vals cs us → us = cvs) ∧ PySem.W.kitAny K (.ref C) cvs = some b ∧ Q (.bl b) H
theorem call_isXT {X : Cx} {a : Addr} {oe : Obj} {cls : Value} {d : Option Addr} {pn : List (Addr × Obj)} (hz : Zc cls d oe) (hf : ∃ vs, oe.data = .fields vs) : CallR (X.suite a ((a, oe) :: pn)) (.builtin "isinstance") (rIsXT X.K a cls d) := by
  intro pins s σ H xs us Q I r h
  obtain ⟨C, t, cs, cvs, b, rfl, rfl, T, hd, ht, hcv, e, q⟩ := h
  cases r with
  | cons rx rr =>
    cases rr with
    | cons rt rr =>
      cases rr
      cases rx
      cases rt
      obtain ⟨od, J⟩ := inst_err I hz hf hd
      have hx : ObjOk X.prog X.w H s.heap t (.tup cs) := I.hok t _ ht
      obtain ⟨hl, its, hv, ⟨oc, od', dt, sl⟩, ho, hc, n, hd2⟩ := hx
      dsimp only at hc hd2
      subst hc hd2
      have eI := hcv _ hv
      subst eI
      exact PySem.W.kia_tup (kit_err T) I.kIn J ho e (fun z => nomatch z) fun tk => ⟨.bl b, H, I.kept (t' := tk) fun _ _ z => z, rfl, q⟩
/-! ### an error is made -/
/-- what __init__ promises -/
def spErr (C : Addr) (fl : Str) (ok : V → Prop) : Sp := fun vs H Q _ => ∃ (a : Addr) (y : V), vs = [.ref a, y] ∧ H a = some (exo a C none) ∧ ok y ∧ ∀ dx, H dx = none → dx ≠ a → Q .non (upd (upd H dx (exd dx [(fl, y)])) a (exo a C (some dx)))
/-- C(e): the class, its dict with the one field -/
def tMkE (C : Addr) (fl : Str) (ok : V → Prop) (te : TE) : L2.St → Hp → XK → Prop := fun σ H Q => te σ H fun y H1 => ok y ∧ ∀ d, H1 d = none → Q (.ref C) (some d) (upd H1 d (.xd [(fl, y)]))
theorem pmk_err {X : Cx} {x fl : Str} {ok : V → Prop} {C fI : Addr} {fd : FuncData} {k : Nat} {e : Expr} {te : TE} {p pos : Pos} (T : ErrC X.K C) (iC : PySem.W.findIn X.K (.ref C) "__init__" = some (some (.ref fI))) (tI : PySem.W.typeIn X.K (.ref fI) = some (.type "function"))
    (F1 : FnOk X.prog X.w X.K X.mg X.base CX0 k fI fd ["self", fl] (spErr C fl ok)) (hr : Room (k + 1) X.A) (hb : Binds X.K fd ["self", fl] []) (hg : Gl X x) (hm : X.mg x = some (.ref C)) (he : PE X e te)
    (hdb : (x == ("__debug__" : Str)) = false := by decide) (hs : starEach [e] X.env = (false, eval e X.env) :: starEach [] X.env := by rfl) : PMk X (.Call (.Name x p) [e] [] pos) (tMkE C fl ok te) := by
  intro pins s σ H Q I h
  have h0 := pmk_oex (p := p) (pos := pos) T.oex iC tI F1 hr hb .nil pass0 hg hm (pa_one he hs) hdb hs (by rfl)
  refine h0 pins s σ H Q I ⟨_, h, fun y H1 ⟨oky, k⟩ => ⟨by show 1 ≤ 1000; decide, fun a na => ⟨a, y, rfl, upd_same, oky, fun dx ndx ne => ?_⟩⟩⟩
  have n1 : H1 dx = none := by
    rw [upd_ne ne] at ndx
    exact ndx
  refine ⟨rfl, dx, [(fl, y)], upd_same, (upd_ne ne).trans upd_same, n1, ?_⟩
  have eh : upd (del (upd (upd (upd H1 a (exo a C none)) dx (exd dx [(fl, y)])) a (exo a C (some dx))) a) dx (.xd [(fl, y)]) = upd H1 dx (.xd [(fl, y)]) := by
    funext b
    by_cases h1 : b = dx
    · rw [h1, upd_same, upd_same]
    · rw [upd_ne h1, upd_ne h1]
      by_cases h2 : b = a
      · rw [h2, del_same, na]
      · rw [del_ne h2, upd_ne h2, upd_ne h1, upd_ne h2]
  rw [eh]
  exact k dx n1
/-- C(), no own __init__ -/
theorem pmk_err0 {X : Cx} {x : Str} {C : Addr} {p pos : Pos} (q : PySem.W.excIn X.K C He.veBase "ValueError.__new__" = true) (T : ErrC X.K C) (hg : Gl X x) (hm : X.mg x = some (.ref C))
    (hdb : (x == ("__debug__" : Str)) = false := by decide) : PMk X (.Call (.Name x p) [] [] pos) (fun _ H Q => Q (.ref C) none H) := by
  intro pins s σ H Q I h
  refine wpAny_Call_Name_kw (ld_glob I hg hm ?_ hdb)
  refine PySem.W.callWith_K0 I.kIn T.oex.kC ?_
  obtain ⟨bm, N, nm, qn, bs, hdct, sn, sub, ab, col, dd, k0, k1, k2, k3, k5, mN, hC, hN, hni, Tl⟩ := exc_obj I.kIn q
  refine wpAny_call_exc_subT F.excBase_ValueError Tl hC hN hni (fun h' e hm => ?_) (by show 0 ≤ sizeLine; rw [sizeLine_eq]; omega)
  exact mk_of I hm (raises_own T.oex.exC T.oex.tyC) h (I.hok.gone hm.new)
end EX
/-! own errors as the top leaves them -/
namespace EX
open PySem PySem.Spec PyProof.Rows L2 NdefX
set_option autoImplicit false
/-- an error class with its __init__(self, fl) -/
structure DfE (P : Program) (K : PySem.W.Frag) (mg : Str → Option Value) (x fl : Str) (ok : V → Prop) where
  C : Addr
  fI : Addr
  fd : FuncData
  g : mg x = some (.ref C)
  T : ErrC K C
  iC : PySem.W.findIn K (.ref C) "__init__" = some (some (.ref fI))
  tI : PySem.W.typeIn K (.ref fI) = some (.type "function")
  no : PySem.W.findIn K (.ref C) fl = some none
  b : Binds K fd ["self", fl] []
  F : ∀ (w : World) (base : Heap), FnOk P w K mg base CX0 1 fI fd ["self", fl] (spErr C fl ok)
/-- an error class without an __init__ -/
structure DfE0 (K : PySem.W.Frag) (mg : Str → Option Value) (x : Str) where
  C : Addr
  g : mg x = some (.ref C)
  T : ErrC K C
  q : PySem.W.excIn K C He.veBase "ValueError.__new__" = true
/-! ### the two bodies -/
theorem app_len (a b : Str) : (a ++ b).length = a.length + b.length := by
  show (a.cps ++ b.cps).size = a.cps.size + b.cps.size
  rw [Array.size_append]
section
variable {P : Program} {w : World} {K : PySem.W.Frag} {mg : Str → Option Value} {base : Heap} {C fI cc : Addr} {F : NF} {fl : Str} {oc doc pm ctv : Value} {od : Option Addr} {osl : Array (Option Value)} {ar : Arg}
/-- f'.. {fl}' -/
theorem init_f {p0 p1 p2 p3 p4 q1 q2 q3 q4 q5 q6 q7 q8 : Pos} {m : Str} {j : Nat} {pl : Addr → Sem Bool} (T : SupC P K C fI cc F) (lk : K.lookup fI = some ⟨oc, od, .func (F.fd doc pm ctv), osl⟩) (hm : mg "super" = none) (S : NScope ["self", fl, "__class__"] ["self", fl] ["__class__"] F.scope) (no : PySem.W.findIn K (.ref C) fl = some none)
    (hbody : F.body = [.Expr (.Call (.Attribute (.Call (.Name "super" p0) [] [] p1) "__init__" p2) [.JoinedStr [.Constant (.str m) j q1, .FormattedValue (.Name fl q2) (-1) none q3] q4] [] p3) p4, .Assign [.Attribute (.Name "self" q5) fl q6] (.Name fl q7) q8]) (hml : m.length ≤ 1000)
    (hpar : (F.params.posonlyargs ++ F.params.args).head? = some ar) (har : ar.arg = "self") (hks : F.scope.names.lookup ("super" : Str) = some .globalImplicit) (hdb : (fl == ("__debug__" : Str)) = false) (hdc : (fl == ("__classdict__" : Str)) = false)
    (he : ∀ L : Addr, eval (.Call (.Attribute (.Call (.Name "super" p0) [] [] p1) "__init__" p2) [.JoinedStr [.Constant (.str m) j q1, .FormattedValue (.Name fl q2) (-1) none q3] q4] [] p3) (envF F fI L) = (do
      let ov ← attributeBase (.Call (.Name "super" p0) [] [] p1) "__init__" (envF F fI L) (eval (.Call (.Name "super" p0) [] [] p1) (envF F fI L))
      standAt p2.atName
      let (f, first) ← holding [ov] (getMethod ov "__init__" (pl L))
      callWith p3 f first (backTo p3 (starEach [.JoinedStr [.Constant (.str m) j q1, .FormattedValue (.Name fl q2) (-1) none q3] q4] (envF F fI L))) [])) :
    FnOk P w K mg base CX0 1 fI (F.fd doc pm ctv) ["self", fl] (spErr C fl MsgOk) := by
  have vs : F.scope.names.lookup ("self" : Str) = some .local := S.par "self" (List.mem_cons_self ..)
  have vf : F.scope.names.lookup fl = some .local := S.par fl (List.mem_cons_of_mem _ (List.mem_cons_self ..))
  refine sup_ok (k := 0) T lk hm S hbody hpar har hks (fun vs H Q E h => ?_) (fun A outer s H vs Q E hr h => ?_) he (fun L => rfl) (fun L => rfl)
  · obtain ⟨a, y, rfl, _⟩ := h
    rfl
  · obtain ⟨a, y, rfl, ha, ok, k⟩ := h
    refine ⟨a, y, _, _, rfl, ha, pe_joined (.cons pe_str (.cons (pe_fmtN (pe_var (i := 1) rfl (.inl vf) (hd := hdb) (hcd := hdc))) .nil)), pss_one (ps_ost (pe_var (i := 0) rfl (.inl vs)) (pe_var (i := 1) rfl (.inl vf) (hd := hdb) (hcd := hdc)) (by rfl)), ?_⟩
    refine ⟨m, rfl, by rw [app_len, sizeLine_eq]; show 0 + _ ≤ _; omega, y, rfl, ok, fun z hz => ⟨z, rfl, by rw [app_len, app_len, sizeLine_eq]; show 0 + _ + _ ≤ _; omega, rfl, ha, y, rfl, .ref a, rfl, a, C, rfl, T.oex, no, .inl ⟨ha, fun dx n1 n2 => k dx n1 n2⟩⟩⟩
/-- a written text -/
theorem init_c {p0 p1 p2 p3 p4 q1 q5 q6 q7 q8 : Pos} {m : Str} {j : Nat} {pl : Addr → Sem Bool} (T : SupC P K C fI cc F) (lk : K.lookup fI = some ⟨oc, od, .func (F.fd doc pm ctv), osl⟩) (hm : mg "super" = none) (S : NScope ["self", fl, "__class__"] ["self", fl] ["__class__"] F.scope) (no : PySem.W.findIn K (.ref C) fl = some none)
    (hbody : F.body = [.Expr (.Call (.Attribute (.Call (.Name "super" p0) [] [] p1) "__init__" p2) [.Constant (.str m) j q1] [] p3) p4, .Assign [.Attribute (.Name "self" q5) fl q6] (.Name fl q7) q8])
    (hpar : (F.params.posonlyargs ++ F.params.args).head? = some ar) (har : ar.arg = "self") (hks : F.scope.names.lookup ("super" : Str) = some .globalImplicit) (hdb : (fl == ("__debug__" : Str)) = false) (hdc : (fl == ("__classdict__" : Str)) = false)
    (he : ∀ L : Addr, eval (.Call (.Attribute (.Call (.Name "super" p0) [] [] p1) "__init__" p2) [.Constant (.str m) j q1] [] p3) (envF F fI L) = (do
      let ov ← attributeBase (.Call (.Name "super" p0) [] [] p1) "__init__" (envF F fI L) (eval (.Call (.Name "super" p0) [] [] p1) (envF F fI L))
      standAt p2.atName
      let (f, first) ← holding [ov] (getMethod ov "__init__" (pl L))
      callWith p3 f first (backTo p3 (starEach [.Constant (.str m) j q1] (envF F fI L))) [])) :
    FnOk P w K mg base CX0 1 fI (F.fd doc pm ctv) ["self", fl] (spErr C fl fun _ => True) := by
  have vs : F.scope.names.lookup ("self" : Str) = some .local := S.par "self" (List.mem_cons_self ..)
  have vf : F.scope.names.lookup fl = some .local := S.par fl (List.mem_cons_of_mem _ (List.mem_cons_self ..))
  refine sup_ok (k := 0) T lk hm S hbody hpar har hks (fun vs H Q E h => ?_) (fun A outer s H vs Q E hr h => ?_) he (fun L => rfl) (fun L => rfl)
  · obtain ⟨a, y, rfl, _⟩ := h
    rfl
  · obtain ⟨a, y, rfl, ha, ok, k⟩ := h
    refine ⟨a, y, _, _, rfl, ha, pe_str, pss_one (ps_ost (pe_var (i := 0) rfl (.inl vs)) (pe_var (i := 1) rfl (.inl vf) (hd := hdb) (hcd := hdc)) (by rfl)), ?_⟩
    exact ⟨rfl, ha, y, rfl, .ref a, rfl, a, C, rfl, T.oex, no, .inl ⟨ha, fun dx n1 n2 => k dx n1 n2⟩⟩
end
/-! ### the top's facts -/
/-- an __init__: its class, its field, its def -/
structure InD where
  cls : Str
  qual : Str
  fld : Str
  params : Arguments
  body : List Stmt
  scope : Scope
abbrev FnY : Type := Option (Str × Str × Arguments × FuncBody × Scope × Addr × Value × Value × Option Addr × Addr)
def fnY (K : PySem.W.Frag) (x : Str) : FnY := match K.lookup (He.ma K (He.ga K x) "__init__") with
  | some ⟨_, _, .func fd, _⟩ => some (fd.name, fd.qualname, fd.params, fd.body, fd.scope, fd.globals, fd.defaults, fd.kwdefaults, fd.annotations, fd.builtins)
  | _ => none
def InD.val (d : InD) : FnY := some ("__init__", d.qual, d.params, .stmts d.body, d.scope, mainGlobals, .none, .none, none, builtinsNs)
/-- the code object of the program's own text -/
def codeB (P : Program) (K : PySem.W.Frag) (c : Addr) (q : Str) : Bool := PySem.W.codeIn K (.ref c) q && (match K.lookup c with
  | some ⟨_, _, .fields vs, _⟩ => (match (vs[2]? : Option Value) with
    | some (Value.str file _) => (P.main.file : Str) == file
    | _ => false)
  | _ => false)
def codeV (P : Program) (K : PySem.W.Frag) (v : Value) (q : Str) : Bool := match v with
  | .ref c => codeB P K c q
  | _ => false
def cellB (K : PySem.W.Frag) (C c : Addr) : Bool := match K.lookup c with
  | some ⟨_, _, .cell (some (.ref D)), _⟩ => D == C
  | _ => false
def clB (K : PySem.W.Frag) (C : Addr) (l : List (Str × Addr)) : Bool := match l with
  | [(y, c)] => decide (y = "__class__") && cellB K C c
  | _ => false
def fdB (P : Program) (K : PySem.W.Frag) (C fI : Addr) : Bool := match K.lookup fI with
  | some ⟨_, _, .func fd, _⟩ => clB K C fd.closure && codeV P K fd.code fd.qualname
  | _ => false
def supB (P : Program) (K : PySem.W.Frag) (d : InD) : Bool := errB K (He.ga K d.cls) && (fdB P K (He.ga K d.cls) (He.ma K (He.ga K d.cls) "__init__") && (decide (PySem.W.nsIn K cStatics "thirdparty.any" = some none) && (decide (PySem.W.ks_superIn K (He.ga K d.cls) (He.ga K d.cls) "__init__" = some (some (.builtin "ValueError.__init__"))) &&
  (decide (PySem.W.subIn K (.ref (He.ga K d.cls)) (.type "ValueError") = some true) && (decide (PySem.W.mroIn K (He.ga K d.cls) (.ref (He.ga K d.cls)) = some true) && (decide (PySem.W.findIn K (.ref (He.ga K d.cls)) "__init__" = some (some (.ref (He.ma K (He.ga K d.cls) "__init__")))) &&
  (decide (PySem.W.typeIn K (.ref (He.ma K (He.ga K d.cls) "__init__")) = some (.type "function")) && (decide (PySem.W.findIn K (.ref (He.ga K d.cls)) d.fld = some none) && He.eqO (PySem.W.nsIn K mainGlobals d.cls) (some (some (.ref (He.ga K d.cls))))))))))))
theorem cellB_ok {K : PySem.W.Frag} {C c : Addr} (h : cellB K C c = true) : ∃ (cl : Value) (cld : Option Addr) (csl : Array (Option Value)), K.lookup c = some (⟨cl, cld, .cell (some (.ref C)), csl⟩ : Obj) := by
  unfold cellB at h
  split at h
  · rename_i a b D s e
    have : D = C := eq_of_beq h
    subst this
    exact ⟨a, b, s, e⟩
  · cases h
theorem codeB_ok {P : Program} {K : PySem.W.Frag} {c : Addr} {q : Str} (h : codeB P K c q = true) : PySem.W.codeIn K (.ref c) q = true ∧ ∃ (ccl : Value) (cdd : Option Addr) (vs : Array Value) (ccs : Array (Option Value)) (file : Str) (tf : Tok), K.lookup c = some (⟨ccl, cdd, .fields vs, ccs⟩ : Obj) ∧ vs[2]? = some (Value.str file tf) ∧ ((P.main.file : Str) == file) = true := by
  unfold codeB at h
  obtain ⟨h1, h⟩ := Bool.and_eq_true_iff.mp h
  refine ⟨h1, ?_⟩
  split at h
  · rename_i a b vs s e
    split at h
    · rename_i file t e2
      exact ⟨a, b, vs, s, file, t, e, e2, h⟩
    · cases h
  · cases h
/-- what is known of the class behind the top -/
theorem init_at {P : Program} {K : PySem.W.Frag} {d : InD} (e : fnY K d.cls = d.val) (c : supB P K d = true) (top : (P.main.scope.names.lookup ("super" : Str)).isSome = false) :
    ∃ (F : NF) (cc : Addr) (oc doc pm ctv : Value) (od : Option Addr) (osl : Array (Option Value)), F.name = "__init__" ∧ F.qual = d.qual ∧ F.params = d.params ∧ F.body = d.body ∧ F.scope = d.scope ∧ SupC P K (He.ga K d.cls) (He.ma K (He.ga K d.cls) "__init__") cc F ∧ K.lookup (He.ma K (He.ga K d.cls) "__init__") = some ⟨oc, od, .func (F.fd doc pm ctv), osl⟩ := by
  unfold supB at c
  simp only [Bool.and_eq_true, decide_eq_true_eq] at c
  obtain ⟨c1, c2, c3, c4, c5, c6, c7, c8, c9, c10⟩ := c
  have E := errB_ok c1
  unfold fdB at c2
  unfold fnY at e
  cases q : K.lookup (He.ma K (He.ga K d.cls) "__init__") with
  | none =>
    rw [q] at c2
    cases c2
  | some o =>
    obtain ⟨oc, od, dt, osl⟩ := o
    rw [q] at c2 e
    cases dt with
    | func fd =>
      obtain ⟨n1, n2, n3, n4, n5, n6, n7, n8, n9, n10, n11, n12, n13, n14, n15⟩ := fd
      have e2 : (some (n1, n2, n3, n4, n5, n6, n8, n9, n12, n15) : FnY) = some (("__init__" : Str), d.qual, d.params, FuncBody.stmts d.body, d.scope, mainGlobals, Value.none, Value.none, (none : Option Addr), builtinsNs) := e
      simp only [Option.some.injEq, Prod.mk.injEq] at e2
      obtain ⟨h1, h2, h3, h4, h5, h6, h7, h8, h9, h10⟩ := e2
      subst h1 h2 h3 h4 h5 h6 h7 h8 h9 h10
      have c3' : (clB K (He.ga K d.cls) n7 && codeV P K n13 d.qual) = true := c2
      obtain ⟨k1, k2⟩ := Bool.and_eq_true_iff.mp c3'
      unfold clB at k1
      split at k1
      · rename_i y cc
        obtain ⟨k3, k4⟩ := Bool.and_eq_true_iff.mp k1
        have ey : y = "__class__" := of_decide_eq_true k3
        subst ey
        cases n13 with
        | ref cd =>
          obtain ⟨k5, k6⟩ := codeB_ok k2
          exact ⟨⟨"__init__", d.qual, d.params, d.body, d.scope, [("__class__", cc)], cd⟩, cc, oc, n10, n11, n14, od, osl, rfl, rfl, rfl, rfl, rfl, ⟨E.oex, rfl, k5, k6, cellB_ok k4, top, c3, c4, c5, c6⟩, rfl⟩
        | _ => cases k2
      · cases k1
    | _ => cases c2
theorem mkE {P : Program} {K : PySem.W.Frag} {h : Heap} {mg : Str → Option Value} {d : InD} {ok : V → Prop} (X : K.In h) (G : h.Ns mainGlobals mg) (e : fnY K d.cls = d.val) (c : supB P K d = true) (top : (P.main.scope.names.lookup ("super" : Str)).isSome = false)
    (hb : ∀ (F : NF) (doc pm ctv : Value) (us : List Value), F.name = "__init__" → F.qual = d.qual → F.params = d.params → F.body = d.body → F.scope = d.scope → us.length = 2 → bindArgs (F.fd doc pm ctv) ⟨us, []⟩ = pure ((([("self" : Str), d.fld] : List Str)).zip us))
    (hF : ∀ (F : NF) (cc : Addr) (oc doc pm ctv : Value) (od : Option Addr) (osl : Array (Option Value)) (w : World) (base : Heap), F.params = d.params → F.body = d.body → F.scope = d.scope → SupC P K (He.ga K d.cls) (He.ma K (He.ga K d.cls) "__init__") cc F →
      K.lookup (He.ma K (He.ga K d.cls) "__init__") = some ⟨oc, od, .func (F.fd doc pm ctv), osl⟩ → PySem.W.findIn K (.ref (He.ga K d.cls)) d.fld = some none → FnOk P w K mg base CX0 1 (He.ma K (He.ga K d.cls) "__init__") (F.fd doc pm ctv) ["self", d.fld] (spErr (He.ga K d.cls) d.fld ok)) :
    ∃ D : DfE P K mg d.cls d.fld ok, D.C = He.ga K d.cls := by
  obtain ⟨F, cc, oc, doc, pm, ctv, od, osl, f1, f2, f3, f4, f5, S, lk⟩ := init_at e c top
  unfold supB at c
  simp only [Bool.and_eq_true, decide_eq_true_eq] at c
  obtain ⟨c1, c2, c3, c4, c5, c6, c7, c8, c9, c10⟩ := c
  exact ⟨⟨He.ga K d.cls, He.ma K (He.ga K d.cls) "__init__", F.fd doc pm ctv, PySem.W.mg_of X G (He.eqO_ok c10), errB_ok c1, c7, c8, c9, .all fun us hl => hb F doc pm ctv us f1 f2 f3 f4 f5 hl, fun w base => hF F cc oc doc pm ctv od osl w base f3 f4 f5 S lk c9⟩, rfl⟩
/-! ### the Hook -/
def ex0B (K : PySem.W.Frag) (x : Str) : Bool := errB K (He.ga K x) && (PySem.W.excIn K (He.ga K x) He.veBase "ValueError.__new__" && He.eqO (PySem.W.nsIn K mainGlobals x) (some (some (.ref (He.ga K x)))))
/-- isinstance of an instance of x, y: b -/
def kitB (K : PySem.W.Frag) (p : Str × Str × Bool) : Bool := decide (PySem.W.kitOne K (.ref (He.ga K p.1)) (.ref (He.ga K p.2.1)) = some p.2.2)
abbrev AlX : Type := He.AlD × Bool × List FnY
/-- an own class that isinstance, == and != ask -/
structure OwnC (K : PySem.W.Frag) (C : Addr) : Prop where
  ha : PySem.W.findIn K (.ref C) "__class__" = some (some (.builtin "object.__class__"))
  hn : PySem.W.specialIn K (.builtin "object.__class__") "__get__" = some (some (.builtin "getset_descriptor.__get__"))
  ht : PySem.W.takesIn K (.builtin "object.__class__") = some true
  hm : PySem.W.mroIn K C (.type "object") = some true
  me : PySem.W.kitOne K (.ref C) (.ref C) = some true
  ne : PySem.W.findIn K (.ref C) "__ne__" = some (some (.builtin "object.__ne__"))
def ownB (K : PySem.W.Frag) (x : Str) : Bool := decide (PySem.W.findIn K (.ref (He.ga K x)) "__class__" = some (some (.builtin "object.__class__"))) && (decide (PySem.W.specialIn K (.builtin "object.__class__") "__get__" = some (some (.builtin "getset_descriptor.__get__"))) && (decide (PySem.W.takesIn K (.builtin "object.__class__") = some true) &&
  (decide (PySem.W.mroIn K (He.ga K x) (.type "object") = some true) && (decide (PySem.W.kitOne K (.ref (He.ga K x)) (.ref (He.ga K x)) = some true) && decide (PySem.W.findIn K (.ref (He.ga K x)) "__ne__" = some (some (.builtin "object.__ne__")))))))
theorem ownB_ok {K : PySem.W.Frag} {x : Str} (h : ownB K x = true) : OwnC K (He.ga K x) := by
  unfold ownB at h
  simp only [Bool.and_eq_true, decide_eq_true_eq] at h
  obtain ⟨h1, h2, h3, h4, h5, h6⟩ := h
  exact ⟨h1, h2, h3, h4, h5, h6⟩
/-- isinstance of a value of the built-in class T, y: false; y is no such class's own -/
structure KtyF (K : PySem.W.Frag) (T : String) (C : Addr) : Prop where
  no : PySem.W.kitOne K (.type T) (.ref C) = some false
  nf : PySem.W.notFirst K C (.type T) = true
def ktyB (K : PySem.W.Frag) (p : String × Str) : Bool := decide (PySem.W.kitOne K (.type p.1) (.ref (He.ga K p.2)) = some false) && PySem.W.notFirst K (He.ga K p.2) (.type p.1)
theorem ktyB_ok {K : PySem.W.Frag} {p : String × Str} (h : ktyB K p = true) : KtyF K p.1 (He.ga K p.2) := by
  unfold ktyB at h
  simp only [Bool.and_eq_true, decide_eq_true_eq] at h
  exact ⟨h.1, h.2⟩
/-- isinstance of an object of the class y, the built-in class T: false -/
def ktnB (K : PySem.W.Frag) (p : Str × String) : Bool := decide (PySem.W.kitOne K (.ref (He.ga K p.1)) (.type p.2) = some false)
structure Xs where
  ini : List InD := []
  ex : List Str := []
  kit : List (Str × Str × Bool) := []
  exm : List (Str × Str × Bool) := []
  own : List Str := []
  kty : List (String × Str) := []
  ktn : List (Str × String) := []
def Xs.ok (P : Program) (x : Xs) (K : PySem.W.Frag) : Bool := x.ini.all (supB P K) && (x.ex.all (ex0B K) && (x.kit.all (kitB K) && ((x.exm.all fun p => (He.Fa.exm p.1 p.2.1 p.2.2).ok K) && (x.own.all (ownB K) && (x.kty.all (ktyB K) && x.ktn.all (ktnB K))))))
def obsX (P : Program) (fa : List He.Fa) (fn : List He.DefD) (x : Xs) (K : PySem.W.Frag) : AlX := (He.obsD fa fn K, x.ok P K, x.ini.map fun d => fnY K d.cls)
def valX (fn : List He.DefD) (x : Xs) : AlX := (He.valD fn, true, x.ini.map InD.val)
def obsXG (P : Program) (n : Nat) (fa : List He.Fa) (fn : List He.DefD) (x : Xs) (g : Addr → Option Obj) : AlX := obsX P fa fn x (He.frG g (cStatics :: He.asD g n))
def SaysX (P : Program) (fa : List He.Fa) (fn : List He.DefD) (x : Xs) (K : PySem.W.Frag) : Prop := obsX P fa fn x K = valX fn x
def hookX (P : Program) (n : Nat) (fa : List He.Fa) (fn : List He.DefD) (x : Xs) : PySem.W.Hook where
  α := AlX
  obs := fun s => obsXG P n fa fn x s.heap.get?
  val := fun _ => valX fn x
  says := fun _ h => ∃ K : PySem.W.Frag, K.In h ∧ SaysX P fa fn x K
  of := fun _ _ e => ⟨_, He.frG_in, e⟩
  keeps := fun _ _ _ ⟨K, hK, c⟩ k => ⟨K, PySem.W.Frag.In.keeps hK k, c⟩
theorem obsXG_eq {P : Program} {n : Nat} {fa : List He.Fa} {fn : List He.DefD} {x : Xs} {g : Addr → Option Obj} {s : Shared} (h : ∀ a, g a = s.heap.get? a) : obsXG P n fa fn x g = (hookX P n fa fn x).obs s := by
  have e : g = s.heap.get? := funext h
  rw [e] <;> rfl
section
variable {P : Program} {fa : List He.Fa} {fn : List He.DefD} {x : Xs} {K : PySem.W.Frag}
theorem SaysX.d (c : SaysX P fa fn x K) : He.SaysD fa fn K := congrArg (fun z : AlX => z.1) c
theorem SaysX.b (c : SaysX P fa fn x K) : x.ok P K = true := congrArg (fun z : AlX => z.2.1) c
theorem SaysX.ini (c : SaysX P fa fn x K) (i : Nat) {d : InD} (h : x.ini[i]? = some d := by rfl) : supB P K d = true ∧ fnY K d.cls = d.val := by
  obtain ⟨b, _⟩ := Bool.and_eq_true_iff.mp c.b
  refine ⟨List.all_eq_true.mp b d (List.mem_of_getElem? h), ?_⟩
  have e : x.ini.map (fun d => fnY K d.cls) = x.ini.map InD.val := congrArg (fun z : AlX => z.2.2) c
  have e2 : (x.ini.map fun d => fnY K d.cls)[i]? = (x.ini.map InD.val)[i]? := by rw [e]
  rw [List.getElem?_map, List.getElem?_map, h] at e2
  exact Option.some.inj e2
theorem SaysX.ex {h : Heap} {mg : Str → Option Value} (c : SaysX P fa fn x K) (X : K.In h) (G : h.Ns mainGlobals mg) (i : Nat) {y : Str} (hy : x.ex[i]? = some y := by rfl) : ∃ D : DfE0 K mg y, D.C = He.ga K y := by
  obtain ⟨_, b⟩ := Bool.and_eq_true_iff.mp c.b
  obtain ⟨b, _⟩ := Bool.and_eq_true_iff.mp b
  have z := List.all_eq_true.mp b y (List.mem_of_getElem? hy)
  unfold ex0B at z
  simp only [Bool.and_eq_true] at z
  exact ⟨⟨He.ga K y, PySem.W.mg_of X G (He.eqO_ok z.2.2), errB_ok z.1, z.2.1⟩, rfl⟩
theorem SaysX.kit (c : SaysX P fa fn x K) (i : Nat) {p : Str × Str × Bool} (hy : x.kit[i]? = some p := by rfl) : PySem.W.kitOne K (.ref (He.ga K p.1)) (.ref (He.ga K p.2.1)) = some p.2.2 := by
  obtain ⟨_, b⟩ := Bool.and_eq_true_iff.mp c.b
  obtain ⟨_, b⟩ := Bool.and_eq_true_iff.mp b
  obtain ⟨b, _⟩ := Bool.and_eq_true_iff.mp b
  exact of_decide_eq_true (List.all_eq_true.mp b p (List.mem_of_getElem? hy))
theorem SaysX.exm (c : SaysX P fa fn x K) (i : Nat) {p : Str × Str × Bool} (hy : x.exm[i]? = some p := by rfl) : PySem.W.exmOne K (.ref (He.ga K p.1)) (.ref (He.ga K p.2.1)) = some p.2.2 := by
  obtain ⟨_, b⟩ := Bool.and_eq_true_iff.mp c.b
  obtain ⟨_, b⟩ := Bool.and_eq_true_iff.mp b
  obtain ⟨_, b⟩ := Bool.and_eq_true_iff.mp b
  obtain ⟨b, _⟩ := Bool.and_eq_true_iff.mp b
  exact He.exm_ok (List.all_eq_true.mp b p (List.mem_of_getElem? hy))
theorem SaysX.own (c : SaysX P fa fn x K) (i : Nat) {y : Str} (hy : x.own[i]? = some y := by rfl) : OwnC K (He.ga K y) := by
  obtain ⟨_, b⟩ := Bool.and_eq_true_iff.mp c.b
  obtain ⟨_, b⟩ := Bool.and_eq_true_iff.mp b
  obtain ⟨_, b⟩ := Bool.and_eq_true_iff.mp b
  obtain ⟨_, b⟩ := Bool.and_eq_true_iff.mp b
  obtain ⟨b, _⟩ := Bool.and_eq_true_iff.mp b
  exact ownB_ok (List.all_eq_true.mp b y (List.mem_of_getElem? hy))
theorem SaysX.kty (c : SaysX P fa fn x K) (i : Nat) {p : String × Str} (hy : x.kty[i]? = some p := by rfl) : KtyF K p.1 (He.ga K p.2) := by
  obtain ⟨_, b⟩ := Bool.and_eq_true_iff.mp c.b
  obtain ⟨_, b⟩ := Bool.and_eq_true_iff.mp b
  obtain ⟨_, b⟩ := Bool.and_eq_true_iff.mp b
  obtain ⟨_, b⟩ := Bool.and_eq_true_iff.mp b
  obtain ⟨_, b⟩ := Bool.and_eq_true_iff.mp b
  obtain ⟨b, _⟩ := Bool.and_eq_true_iff.mp b
  exact ktyB_ok (List.all_eq_true.mp b p (List.mem_of_getElem? hy))
theorem SaysX.ktn (c : SaysX P fa fn x K) (i : Nat) {p : Str × String} (hy : x.ktn[i]? = some p := by rfl) : PySem.W.kitOne K (.ref (He.ga K p.1)) (.type p.2) = some false := by
  obtain ⟨_, b⟩ := Bool.and_eq_true_iff.mp c.b
  obtain ⟨_, b⟩ := Bool.and_eq_true_iff.mp b
  obtain ⟨_, b⟩ := Bool.and_eq_true_iff.mp b
  obtain ⟨_, b⟩ := Bool.and_eq_true_iff.mp b
  obtain ⟨_, b⟩ := Bool.and_eq_true_iff.mp b
  obtain ⟨_, b⟩ := Bool.and_eq_true_iff.mp b
  exact of_decide_eq_true (List.all_eq_true.mp b p (List.mem_of_getElem? hy))
end
end EX
/-! an error of the program that is kept behind its handler: except (A, B) as e: x = e -/
namespace EK
open PySem PySem.Spec PyProof.Rows L2
/-- the kept error: its class, its dict -/
def Kep (a : Addr) (cls : Value) (d : Option Addr) : HO := .ext fun h => ∃ (ob : Obj) (fs : Array Value), h.get? a = some ob ∧ Zc cls d ob ∧ ob.data = .fields fs
theorem kep_new {P : Program} {w : World} {H : Hp} {h : Heap} {a : Addr} {cls : Value} {d : Option Addr} {ob : Obj} {fs : Array Value} (e : h.get? a = some ob) (z : Zc cls d ob) (q : ob.data = .fields fs) : ObjOk P w H h a (Kep a cls d) :=
  ⟨⟨ob, fs, e, z, q⟩, ⟨ob, e⟩, fun _ _ ⟨o, v, e1, r⟩ st => ⟨o, v, st o e1, r⟩⟩
section
variable {X : Cx} {pins pins' : List (Addr × Obj)} {σ : L2.St} {H : Hp} {s : Shared}
/-- an object that is new since the entry comes to be tracked -/
theorem track {a : Addr} {cls : Value} {d : Option Addr} {ob : Obj} {fs : Array Value} (I : Inv X pins' σ H s) (ha : s.heap.get? a = some ob) (hz : Zc cls d ob) (hd : ob.data = .fields fs) (na : H a = none) (n0 : X.s_0.heap.get? a = none)
    (sub : ∀ p ∈ X.pn ++ pins, p ∈ X.pn ++ pins' ∧ p.1 ≠ a) (nL : a ≠ X.env.locals) : Inv X pins σ (upd H a (Kep a cls d)) s := by
  have old : ∀ b o, X.s_0.heap.get? b = some o → b ≠ a := fun b o e q => by
    rw [q, n0] at e
    cases e
  refine ⟨I.ok, I.os, I.bare, ⟨I.base.keep, I.base.slot, fun b o e n hx => ?_, I.base.there, fun b xs e => ?_, fun b o u e => ?_, fun b ps e => ?_⟩, I.loc, I.cell, ?_, fun y c e => ?_, fun p hp => ?_, fun b u e => ?_, I.len⟩
  · rw [upd_ne (old b o e)]
    exact I.base.free b o e n hx
  · have q := I.base.tups b xs e
    rw [upd_ne (ne_of_none q na)]
    exact q
  · have q := I.base.frzs b o u e
    rw [upd_ne (ne_of_none q na)]
    exact q
  · obtain ⟨more, q⟩ := I.base.tbls b ps e
    exact ⟨more, by rw [upd_ne (ne_of_none q na)]; exact q⟩
  · rw [upd_ne (Ne.symm nL)]
    exact I.free
  · have ne : c ≠ a := fun q => by
      obtain ⟨v, o, ho, hc⟩ := I.cell y c e
      rw [q, ha] at ho
      cases ho
      rw [hd] at hc
      cases hc
    rw [upd_ne ne]
    exact I.freeC y c e
  · obtain ⟨m, ne⟩ := sub p hp
    obtain ⟨e, n, q⟩ := I.pin p m
    exact ⟨e, by rw [upd_ne ne]; exact n, q⟩
  · by_cases hb : b = a
    · subst hb
      rw [upd_same] at e
      cases e
      exact kep_new ha hz hd
    · rw [upd_ne hb] at e
      refine (I.hok b u e).stay (fun _ _ _ q => q) (fun c q => ?_) fun c xs q => ?_
      · rw [upd_ne (ne_of_none q na)]
        exact q
      · rw [upd_ne (ne_of_none q na)]
        exact q
/-- the air over a heap that has grown -/
theorem fly_grow {B h h' : Heap} {l : List Env} {a : Addr} {Z : Obj → Prop} (gr : ∀ b o, h.get? b = some o → h'.get? b = some o) (x : HandSPX.FlyingZ B l a Z h) : HandSPX.FlyingZ B l a Z h' := by
  obtain ⟨x1, x2, x3, oe, vs, T, oT, ts, y1, y2, y3, y4, y5, y6, y7, y8⟩ := x
  exact ⟨fun b o e => gr b o (x1 b o e), x2, Heap.FunFrames.of_keeps (fun b o e _ => ⟨o, gr b o e, rfl⟩) x3, oe, vs, T, oT, ts, gr _ _ y1, y2, y3, y4, y5, y6, gr _ _ y7, y8⟩
end
/-- what 'except (c1, c2) as n: suite' wishes; slot i is n's -/
def wKeep (K : PySem.W.Frag) (c1 c2 : Value) (i : Nat) (ts : Addr → TS) (D : Ends) : WX := fun cls d σ H =>
  PySem.W.exmAny K cls [c1, c2] = some true ∧ ∀ a, H a = none → ts a { nx := fun σ' H' => D.nx (σ'.set i none) (upd H' a (Kep a cls d)), rt := fun _ _ => False, bk := fun _ _ => False, ct := fun _ _ => False } (σ.set i (some (.ref a))) H
section
variable {X : Cx} {x1 x2 n : Str} {c1 c2 : Value} {i kk : Nat} {body suite : List Stmt} {b₀ : Stmt} {p1 p2 p3 p4 pos : Pos} {tb : WX → TS} {ts : Addr → TS}
theorem ps_try_keep (hex : X.ex = []) (hst : X.stack = X.env :: X.outer) (hfm : X.env.frame = some X.env.locals) (hN : X.N.Nodup) (hi : X.N[i]? = some n) (hln : X.env.kindOf n = some .local) (m1 : Names X x1 c1) (m2 : Names X x2 c2)
    (hbody : ∀ (W : WX) (pn : List (Addr × Obj)) (xe : Value → Shared → Prop), Takes (X.tr pn xe) W → PassesOwn (model X.prog X.w) X.A X.env xe → PSs (X.tr pn xe) body (tb W))
    (hsuite : ∀ (a : Addr) (oe : Obj) (pn : List (Addr × Obj)), PSs (X.suite a ((a, oe) :: pn)) (b₀ :: suite) (ts a)) :
    PS X (.Try body [.ExceptHandler (some (.Tuple [.Name x1 p1, .Name x2 p2] kk p3)) (some n) (b₀ :: suite) p4] [] [] pos) (fun D σ H => tb (wKeep X.K c1 c2 i ts D) D σ H) := by
  refine ⟨fun pins s σ H D I h => ?_⟩
  have okX := I.ok
  have frA : X.A.frames = some (X.env :: X.outer) := by rw [okX.frames, hst]
  refine wpAny_Try_except ?_
  refine wpAny_mono ((hbody (wKeep X.K c1 c2 i ts D) (X.pn ++ pins) (fun e t1 => wpAny (model X.prog X.w) X.A (noteFrame e X.env) (fun _ t2 => wpAny (model X.prog X.w) X.A (setFlight e none) (fun _ t3 =>
    wpAny (model X.prog X.w) X.A (handleBy e X.env [.ExceptHandler (some (.Tuple [.Name x1 p1, .Name x2 p2] kk p3)) (some n) (b₀ :: suite) p4]) (SP X pins D) X.xe t3) X.xe t2) X.xe t1) (fun u s' xx => ?_) PassesOwn.looking).run [] s σ H D (I.toTry _) h) (fun f s1 hsp => ?_) (fun e s1 he => he)
  · obtain ⟨a, B, sI, pinsW, σ1, H1, cls, d, rfl, JW, gnd, up, sky, na, os, ag, wm, wk⟩ := xx
    have J : Inv X pins σ1 H1 sI := JW.ofTry okX
    have skyX : Sky B (X.env :: X.outer) a (Zc cls d) X.env.locals s'.heap := by rw [← hst]; exact sky
    show wpAny (model X.prog X.w) X.A (noteFrame (.ref a) X.env) _ _ _
    refine Sky.land Zc.steady frA hfm skyX fun h3 fl3 up3 => ?_
    have noB : B.get? a = none := fl3.2.1
    have J3 : Inv X pins σ1 H1 { s' with heap := h3 } := J.landed gnd fl3.1 (up.trans up3) os ag
    obtain ⟨ob3, fs3, ea3, za3, da3⟩ := fl3.there
    have nfr : a ∉ frs (X.env :: X.outer) := fun hm => by
      obtain ⟨_, o', e', nf⟩ := fl3.2.2.1.mem hm
      rw [ea3] at e'
      cases e'
      exact nf _ da3
    have nL : a ≠ X.env.locals := fun q => nfr (List.mem_filterMap.mpr ⟨X.env, List.mem_cons_self, by rw [hfm, q]⟩)
    have nF : a ∉ X.fs := fun hm => by
      obtain ⟨e, he, q⟩ := List.mem_filterMap.mp hm
      exact nfr (List.mem_filterMap.mpr ⟨e, List.mem_cons_of_mem _ he, q⟩)
    have nst : a ∉ frs X.stack := by rw [hst]; exact nfr
    have nI : sI.heap.get? a = none := by
      cases q : sI.heap.get? a with
      | none => rfl
      | some o =>
        rw [gnd a o q nst] at noB
        cases noB
    have n0 : a ∉ X.ex → X.s_0.heap.get? a = none := fun hx => by
      cases q : X.s_0.heap.get? a with
      | none => rfl
      | some o =>
        obtain ⟨o', q'⟩ := J.base.there a o q hx
        rw [nI] at q'
        cases q'
    have nx : a ∉ X.ex := fun hx => by
      rw [hex] at hx
      cases hx
    have np : ∀ p ∈ X.pn ++ pins, p.1 ≠ a := fun p hp q => by
      have h1 := (J.pin p hp).1
      rw [q, nI] at h1
      cases h1
    have S3 := J3.suite ea3 da3 na nL nF
    refine wpAny_handleBy_cons (codeAny_handlers_test ?_) (by intro q; cases q)
    have name : ∀ {x : Str} {c : Value} {p : Pos} {Q : Value → Shared → Prop} {E : Value → Shared → Prop}, Names X x c → Q c { s' with heap := h3 } → wpAny (model X.prog X.w) (X.A.mark (some (.ref a))) (eval (.Name x p) X.env) Q E { s' with heap := h3 } := fun {x c p Q E} m q => by
      obtain ⟨hg, hdb, hm | ⟨hm, hv, hn⟩⟩ := m
      · exact ld_glob (X := X.suite a ((a, ob3) :: (X.pn ++ pins))) S3 hg hm q hdb
      · exact ld_blt (X := X.suite a ((a, ob3) :: (X.pn ++ pins))) S3 hg hm hv q hn hdb
    refine wpAny_Tuple ?_
    refine wpAny_items_cons (name m1 ?_)
    refine wpAny_items_cons (name m2 ?_)
    refine wpAny_items_nil ⟨by size_fits, ?_⟩
    generalize eg : (h3.push { cls := .type "tuple", data := .seq [c1, c2].toArray }) = g3
    have gr : ∀ b o, h3.get? b = some o → g3.get? b = some o := fun b o e => by
      rw [← eg]
      exact Heap.get?_push_of_some _ e
    have LT : PySem.W.Looks (model X.prog X.w) g3 (typeOf (.ref a)) cls := fun A Q E t k q => wpAny_typeOf_ref (k _ _ (gr _ _ ea3)) (by rw [za3.1]; exact q)
    have LM := PySem.W.exm_tup2 (M := model X.prog X.w) (J3.kIn.keeps gr) LT (by rw [← eg]; exact Heap.get?_push_size h3 rfl) wm
    refine LM.here ?_
    refine codeAny_handlers_suite_as ?_
    have flg := fly_grow gr fl3
    refine HandSPX.lands_againZ flg fun h4 fl4 up4 => ?_
    have J4 : Inv X pins σ1 H1 { s' with heap := h4 } := J.landed gnd fl4.1 ((up.trans (up3.trans (Heap.UpToSlots.of_keeps gr))).trans up4) os ag
    obtain ⟨ob4, fs4, ea4, za4, da4⟩ := fl4.there
    have S4 := J4.suite ea4 da4 na nL nF
    refine store_ok (X := X.suite a ((a, ob4) :: (X.pn ++ pins))) (v := .ref a) S4 hN hi (.inl hln) rfl (fun s5 S5 => ?_) (.inr hln)
    refine wpAny_mono ((hsuite a ob4 (X.pn ++ pins)).run [] s5 _ H1 _ S5 (wk a na)) (fun f s6 hsp => ?_) (fun _ _ q => False.elim q)
    cases f with
    | next =>
      obtain ⟨σ6, H6, S6, q6⟩ := hsp
      have mem6 : ∀ p ∈ X.pn ++ (a, ob4) :: pins, p ∈ (X.suite a ((a, ob4) :: (X.pn ++ pins))).pn ++ [] := fun p hp => by
        show p ∈ ((a, ob4) :: (X.pn ++ pins)) ++ []
        simp only [List.mem_append, List.mem_cons, List.append_nil] at hp ⊢
        rcases hp with h | h | h
        · exact .inr (.inl h)
        · exact .inl h
        · exact .inr (.inr h)
      have T6 : Inv X ((a, ob4) :: pins) σ6 H6 s6 := ⟨okX, S6.os, S6.bare, S6.base, S6.loc, S6.cell, S6.free, S6.freeC, fun p hp => S6.pin p (mem6 p hp), S6.hok, S6.len⟩
      refine gone_ok T6 hN hi hln fun s7 J7 => ?_
      obtain ⟨e7, n7, _⟩ := J7.pin (a, ob4) (List.mem_append_right _ List.mem_cons_self)
      exact ⟨_, _, track J7 e7 za4 da4 n7 (n0 nx) (fun p hp => ⟨by rcases List.mem_append.mp hp with h | h; exact List.mem_append_left _ h; exact List.mem_append_right _ (List.mem_cons_of_mem _ h), np p hp⟩) nL, q6⟩
    | brk =>
      obtain ⟨_, _, _, q6⟩ := hsp
      exact False.elim q6
    | cont =>
      obtain ⟨_, _, _, q6⟩ := hsp
      exact False.elim q6
    | ret u =>
      obtain ⟨_, _, _, _, _, q6⟩ := hsp
      exact False.elim q6
  · cases f with
    | next =>
      obtain ⟨σ', H', JW, q⟩ := hsp
      exact wpAny_execs_nil ⟨σ', H', JW.ofTry okX, q⟩
    | brk =>
      obtain ⟨σ', H', JW, q⟩ := hsp
      exact ⟨σ', H', JW.ofTry okX, q⟩
    | cont =>
      obtain ⟨σ', H', JW, q⟩ := hsp
      exact ⟨σ', H', JW.ofTry okX, q⟩
    | ret u =>
      obtain ⟨v, σ', H', JW, r, q⟩ := hsp
      exact ⟨v, σ', H', JW.ofTry okX, r, q⟩
end
end EK
namespace EK
open PySem PySem.Spec PyProof.Rows L2
/-! ### what is asked of a kept error -/
/-- isinstance(x, c), x a kept error -/
def rIsK (K : PySem.W.Frag) : List V → Hp → VK → Prop := fun xs H Q => ∃ (a C : Addr) (d : Option Addr) (c : V) (cv : Value) (b : Bool), xs = [.ref a, c] ∧ H a = some (Kep a (.ref C) d) ∧ EX.ErrC K C ∧ (∀ dd, d = some dd → ∃ fs, H dd = some (.xd fs)) ∧ (∀ u, RelV c u → u = cv) ∧ PySem.W.kitOne K (.ref C) cv = some b ∧ Q (.bl b) H
theorem kep_inst {X : Cx} {pins : List (Addr × Obj)} {σ : L2.St} {H : Hp} {s : Shared} {a C : Addr} {d : Option Addr} (I : L2.Inv X pins σ H s) (ha : H a = some (Kep a (.ref C) d)) (hd : ∀ dd, d = some dd → ∃ fs, H dd = some (.xd fs)) : ∃ ob od, PySem.W.InstAt s.heap a ob C od := by
  obtain ⟨⟨ob, fs, e, z, q⟩, _, _⟩ := I.hok a _ ha
  cases d with
  | none => exact ⟨ob, none, e, z.1, by unfold PySem.W.notCls; rw [q] <;> rfl, by rw [z.2]; trivial⟩
  | some dd =>
    obtain ⟨gs, ed⟩ := hd dd rfl
    have hx : ObjOk X.prog X.w H s.heap dd (.xd gs) := I.hok dd _ ed
    obtain ⟨mA, hns, _⟩ := hx
    obtain ⟨od, ho, _⟩ := lookIn_ns hns
    exact ⟨ob, some od, e, z.1, by unfold PySem.W.notCls; rw [q] <;> rfl, by rw [z.2]; exact ho⟩
theorem call_isK {X : Cx} : CallR X (.builtin "isinstance") (rIsK X.K) := by
  intro pins s σ H xs us Q I r h
  obtain ⟨a, C, d, c, cv, b, rfl, ha, T, hd, hcv, e, q⟩ := h
  obtain ⟨ob, od, J⟩ := kep_inst I ha hd
  cases r with
  | cons rx rr =>
    cases rr with
    | cons rt rr =>
      cases rr
      cases rx
      cases hcv _ rt
      exact PySem.W.kia_one (EX.kit_err T) I.kIn J e (fun z => nomatch z) fun tk => ⟨.bl b, H, I.kept (t' := tk) fun _ _ z => z, rfl, q⟩
/-- x.f, x a kept error -/
def tXfK (K : PySem.W.Frag) (f : Str) (te : TE) : TE := fun σ H Q => te σ H fun x H1 => ∃ (a C dd : Addr) (fs : List (Str × V)) (v : V), x = .ref a ∧ H1 a = some (Kep a (.ref C) (some dd)) ∧ EX.ErrC K C ∧ PySem.W.findIn K (.ref C) f = some none ∧ H1 dd = some (.xd fs) ∧ fs.lookup f = some v ∧ Q v H1
theorem pe_xfK {X : Cx} {e : Expr} {te : TE} {pos : Pos} {n : Str} (he : PE X e te) (hb : attributeBase e n X.env (eval e X.env) = eval e X.env := by rfl) : PE X (.Attribute e n pos) (tXfK X.K n te) := by
  refine ⟨fun pins s σ H Q I h => ?_⟩
  refine attr_of hb (thn (he.run pins s σ H _ I h) fun u s1 hh => ?_)
  obtain ⟨x, H1, I1, rx, a, C, dd, fs, v, ex, ha, T, hno, ea, l, q⟩ := hh
  subst ex
  obtain rfl : u = Value.ref a := rx
  obtain ⟨⟨ob, gs, e1, z, dq⟩, _, _⟩ := I1.hok a _ ha
  have hx : ObjOk X.prog X.w H1 s1.heap dd (.xd fs) := I1.hok dd _ ea
  obtain ⟨mA, hns, hr⟩ := hx
  obtain ⟨od, ho, hl⟩ := lookIn_ns hns
  obtain ⟨u, hu, ru⟩ := RelO.some_of (v := v) (o := mA n) (by rw [← l]; exact hr n)
  have J : PySem.W.InstAt s1.heap a ob C (some od) := ⟨e1, z.1, by unfold PySem.W.notCls; rw [dq] <;> rfl, by rw [z.2]; exact ho⟩
  exact HandSPX.exc_get I1.kIn J T.xf.ga T.xf.gg T.xf.exC (PySem.W.findObj_own T.xf.hdC hno rfl (by rw [hl, hu])) (handed_of ru) ⟨v, H1, I1.tok _, ru, q⟩
/-! ### the wish behind a state of known length -/
theorem takes_len {X : Cx} {W : WX} (t : Takes X W) : Takes X (fun c d σ H => σ.length = X.N.length → W c d σ H) := fun u s' ⟨a, B, sI, pins, σ, H, cls, d, e, I, gnd, up, sky, na, os, ag, w⟩ =>
  t u s' ⟨a, B, sI, pins, σ, H, cls, d, e, I, gnd, up, sky, na, os, ag, w I.len⟩
/-- a reading from a stronger one -/
theorem pe_more {X : Cx} {e : Expr} {te : TE} (he : PE X e te) : PE X e (fun σ H Q => ∃ Q' : VK, te σ H Q' ∧ ∀ v H', Q' v H' → Q v H') :=
  ⟨fun pins s σ H Q I ⟨Q', h, m⟩ => wpAny_mono (he.run pins s σ H Q' I h) (fun u s1 ⟨v, H1, I1, r, q⟩ => ⟨v, H1, I1, r, m _ _ q⟩) (fun _ _ x => x)⟩
/-- a def whose code object is known -/
theorem funD_okC {P : Program} {w : World} {K : PySem.W.Frag} {mg : Str → Option Value} {base : Heap} {x qual : Str} {params : Arguments} {body : List Stmt} {scope : Scope} {dvs : List V} {kws : List (Str × V)} {f c : Addr} {fd : FuncData} {CX : CXT} {N ps : List Str} {k : Nat} {sp : Sp}
    (F : FunD K x qual params body scope dvs kws f fd) (hc : ∀ oc od gd osl, K.lookup f = some ⟨oc, od, .func gd, osl⟩ → gd.code = .ref c) (S : FnScope N ps scope) (len : ∀ vs H Q E, sp vs H Q E → vs.length = ps.length)
    (bd : ∀ (A : Around) (outer : List Env) (s : Shared) (H : Hp) (vs : List V) (Q : VK) (E : XK), Room k (A.deeper (envOfC qual scope s.heap.objs.size f (.ref c))) → sp vs H Q E →
      ∃ t, PSs (cxOf CX P w K mg base N qual scope f (.ref c) A outer s H E) body t ∧ t { nx := fun _ H' => Q .non H', rt := Q } (start N vs) H) : FnOk P w K mg base CX (k + 1) f fd ps sp := by
  obtain ⟨oc, od, dV, kV, doc, pm, an, cdv, ct, osl, rfl, lk, hcd, _, _⟩ := F.ex
  have e : cdv = .ref c := hc _ _ _ _ lk
  subst e
  exact fn_of lk hcd S len fun A outer s H vs Q E hr hsp => bd A outer s H vs Q E hr hsp
end EK
/-! a try whose clauses 'except A as e', 'except B as e' all name the error; a class made that may raise -/
namespace EK
open PySem PySem.Spec PyProof.Rows L2
abbrev Cl1 := Value × (Addr → Value → Option Addr → TS)
/-- the ends of a clause's suite: slot i is empty behind it -/
def EndsI (i : Nat) (D : Ends) : Ends := { nx := fun σ H => D.nx (σ.set i none) H, rt := D.rt, bk := fun σ H => D.bk (σ.set i none) H, ct := fun σ H => D.ct (σ.set i none) H }
/-- one of the clauses takes the error, those before it do not -/
def wEach (K : PySem.W.Frag) (i : Nat) (D : Ends) : List Cl1 → WX
  | [] => fun _ _ _ _ => False
  | (c, ts) :: l => fun cls d σ H => (PySem.W.exmOne K cls c = some true ∧ ∀ a, H a = none → ts a cls d (EndsI i D) (σ.set i (some (.ref a))) H) ∨ (PySem.W.exmOne K cls c = some false ∧ wEach K i D l cls d σ H)
inductive Each (X : Cx) (n : Str) : List ExceptHandler → List Cl1 → Prop
  | nil : Each X n [] []
  | cons {x : Str} {c : Value} {ts : Addr → Value → Option Addr → TS} {b₀ : Stmt} {suite : List Stmt} {np pos : Pos} {hds : List ExceptHandler} {l : List Cl1} (hc : Names X x c)
      (hsu : ∀ (a : Addr) (oe : Obj) (cls : Value) (d : Option Addr) (pn : List (Addr × Obj)), Zc cls d oe → (∃ vs, oe.data = .fields vs) → PSs (X.suite a ((a, oe) :: pn)) (b₀ :: suite) (ts a cls d)) (r : Each X n hds l) :
      Each X n (.ExceptHandler (some (.Name x np)) (some n) (b₀ :: suite) pos :: hds) ((c, ts) :: l)
section
variable {X : Cx} {n : Str} {i : Nat} {body : List Stmt} {h₀ : ExceptHandler} {hds : List ExceptHandler} {l : List Cl1} {pos : Pos} {tb : WX → TS}
theorem ps_try_each (hst : X.stack = X.env :: X.outer) (hfm : X.env.frame = some X.env.locals) (hN : X.N.Nodup) (hi : X.N[i]? = some n) (hln : X.env.kindOf n = some .local)
    (hbody : ∀ (W : WX) (pn : List (Addr × Obj)) (xe : Value → Shared → Prop), Takes (X.tr pn xe) W → PassesOwn (model X.prog X.w) X.A X.env xe → PSs (X.tr pn xe) body (tb W))
    (hh : Each X n (h₀ :: hds) l) : PS X (.Try body (h₀ :: hds) [] [] pos) (fun D σ H => tb (wEach X.K i D l) D σ H) := by
  refine ⟨fun pins s σ H D I h => ?_⟩
  have okX := I.ok
  have frA : X.A.frames = some (X.env :: X.outer) := by rw [okX.frames, hst]
  refine wpAny_Try_except ?_
  refine wpAny_mono ((hbody (wEach X.K i D l) (X.pn ++ pins) (fun e t1 => wpAny (model X.prog X.w) X.A (noteFrame e X.env) (fun _ t2 => wpAny (model X.prog X.w) X.A (setFlight e none) (fun _ t3 =>
    wpAny (model X.prog X.w) X.A (handleBy e X.env (h₀ :: hds)) (SP X pins D) X.xe t3) X.xe t2) X.xe t1) (fun u s' xx => ?_) PassesOwn.looking).run [] s σ H D (I.toTry _) h) (fun f s1 hsp => ?_) (fun e s1 he => he)
  · obtain ⟨a, B, sI, pinsW, σ1, H1, cls, d, rfl, JW, gnd, up, sky, na, os, ag, wish⟩ := xx
    have J : Inv X pins σ1 H1 sI := JW.ofTry okX
    have skyX : Sky B (X.env :: X.outer) a (Zc cls d) X.env.locals s'.heap := by rw [← hst]; exact sky
    show wpAny (model X.prog X.w) X.A (noteFrame (.ref a) X.env) _ _ _
    refine Sky.land Zc.steady frA hfm skyX fun h3 fl3 up3 => ?_
    have J3 : Inv X pins σ1 H1 { s' with heap := h3 } := J.landed gnd fl3.1 (up.trans up3) os ag
    obtain ⟨ob3, fs3, ea3, za3, da3⟩ := fl3.there
    have nfr : a ∉ frs (X.env :: X.outer) := fun hm => by
      obtain ⟨_, o', e', nf⟩ := fl3.2.2.1.mem hm
      rw [ea3] at e'
      cases e'
      exact nf _ da3
    have nL : a ≠ X.env.locals := fun q => nfr (List.mem_filterMap.mpr ⟨X.env, List.mem_cons_self, by rw [hfm, q]⟩)
    have nF : a ∉ X.fs := fun hm => by
      obtain ⟨e, he, q⟩ := List.mem_filterMap.mp hm
      exact nfr (List.mem_filterMap.mpr ⟨e, List.mem_cons_of_mem _ he, q⟩)
    have S3 := J3.suite ea3 da3 na nL nF
    have LT : PySem.W.Looks (model X.prog X.w) h3 (typeOf (.ref a)) cls := fun A Q E t k q => wpAny_typeOf_ref (k _ _ ea3) (by rw [za3.1]; exact q)
    have name : ∀ {x : Str} {c : Value} {p : Pos} {Q : Value → Shared → Prop} {E : Value → Shared → Prop}, Names X x c → Q c { s' with heap := h3 } → wpAny (model X.prog X.w) (X.A.mark (some (.ref a))) (eval (.Name x p) X.env) Q E { s' with heap := h3 } := fun {x c p Q E} m q => by
      obtain ⟨hg, hdb, hm | ⟨hm, hv, hn⟩⟩ := m
      · exact ld_glob (X := X.suite a ((a, ob3) :: (X.pn ++ pins))) S3 hg hm q hdb
      · exact ld_blt (X := X.suite a ((a, ob3) :: (X.pn ++ pins))) S3 hg hm hv q hn hdb
    have each : ∀ {hs : List ExceptHandler} {m : List Cl1}, Each X n hs m → wEach X.K i D m cls d σ1 H1 → wpAny (model X.prog X.w) X.A (handleBy (.ref a) X.env hs) (SP X pins D) X.xe { s' with heap := h3 } := by
      intro hs m hk
      induction hk with
      | nil => exact fun q => False.elim q
      | @cons x c ts b₀ suite np pos2 hs2 m2 hc hsu r ih =>
        intro q
        refine wpAny_handleBy_cons (codeAny_handlers_test (name hc ?_)) (by intro q; cases q)
        rcases q with ⟨yes, go⟩ | ⟨no, go⟩
        · refine (PySem.W.exm_one (M := model X.prog X.w) J3.kIn LT yes).here ?_
          refine codeAny_handlers_suite_as ?_
          refine HandSPX.lands_againZ fl3 fun h4 fl4 up4 => ?_
          have J4 : Inv X pins σ1 H1 { s' with heap := h4 } := J.landed gnd fl4.1 ((up.trans up3).trans up4) os ag
          obtain ⟨ob4, fs4, ea4, za4, da4⟩ := fl4.there
          have S4 := J4.suite ea4 da4 na nL nF
          refine store_ok (X := X.suite a ((a, ob4) :: (X.pn ++ pins))) (v := .ref a) S4 hN hi (.inl hln) rfl (fun s5 S5 => ?_) (.inr hln)
          refine wpAny_mono ((hsu a ob4 cls d (X.pn ++ pins) za4 ⟨_, da4⟩).run [] s5 _ H1 _ S5 (go a na)) (fun f s6 hsp => ?_) (fun _ _ q => False.elim q)
          have tail : ∀ {σ6 : L2.St} {H6 : Hp} {Q : Shared → Prop}, Inv (X.suite a ((a, ob4) :: (X.pn ++ pins))) [] σ6 H6 s6 → (∀ s7, Inv X pins (σ6.set i none) H6 s7 → Q s7) →
              wpAny (model X.prog X.w) X.A (do bindName X.env n .none; unbindBehindTheSuite X.env n pos2) (fun _ s7 => Q s7) X.xe s6 := fun {σ6 H6 Q} S6 hq => gone_ok (S6.unsuite okX) hN hi hln hq
          cases f with
          | ret u =>
            obtain ⟨v6, σ6, H6, S6, r6, q6⟩ := hsp
            exact tail S6 fun s7 J7 => ⟨_, _, _, J7, r6, q6⟩
          | next =>
            obtain ⟨σ6, H6, S6, q6⟩ := hsp
            exact tail S6 fun s7 J7 => ⟨_, _, J7, q6⟩
          | brk =>
            obtain ⟨σ6, H6, S6, q6⟩ := hsp
            exact tail S6 fun s7 J7 => ⟨_, _, J7, q6⟩
          | cont =>
            obtain ⟨σ6, H6, S6, q6⟩ := hsp
            exact tail S6 fun s7 J7 => ⟨_, _, J7, q6⟩
        · exact (PySem.W.exm_one (M := model X.prog X.w) J3.kIn LT no).here (ih go)
    exact each hh wish
  · cases f with
    | ret u =>
      obtain ⟨v, σ', H', JW, r, q⟩ := hsp
      exact ⟨v, σ', H', JW.ofTry okX, r, q⟩
    | next =>
      obtain ⟨σ', H', JW, q⟩ := hsp
      exact wpAny_execs_nil ⟨σ', H', JW.ofTry okX, q⟩
    | brk =>
      obtain ⟨σ', H', JW, q⟩ := hsp
      exact ⟨σ', H', JW.ofTry okX, q⟩
    | cont =>
      obtain ⟨σ', H', JW, q⟩ := hsp
      exact ⟨σ', H', JW.ofTry okX, q⟩
end
section
variable {X : Cx} {CX : CXT} {k : Nat} {f C : Addr} {fd : FuncData} {ps : List Str} {sp : Sp} {E : L2.St → XK} {x : Str} {p pos : Pos} {e : Expr} {es : List Expr} {t : TA}
/-- C(e, ..): a new object, or what __init__ raises, told by the names' state -/
def tMakeS (C : Addr) (sp : Sp) (E : L2.St → XK) (t : TA) : TE := fun σ H Q => t σ H fun vs H1 => ∀ x dx, H1 x = none → H1 dx = none → dx ≠ x → sp (.ref x :: vs) (upd (upd H1 dx (.own x)) x (.ins C dx [])) (fun v H2 => v = .non ∧ Q (.ref x) H2) (E σ)
theorem pe_makeS (M : Mk X.K C f) (F : FnOk X.prog X.w X.K X.mg X.base CX k f fd ps sp) (hr : Room (k + 1) X.A) (hg : Gl X x) (hm : X.mg x = some (.ref C)) (hb : Binds X.K fd ps []) (hx : ∀ σ, PassesAt CX X σ (E σ))
    (ha : PA X (e :: es) t) (hdb : (x == ("__debug__" : Str)) = false := by decide) (he : starEach (e :: es) X.env = (false, eval e X.env) :: starEach es X.env := by rfl) (hpl : (backTo pos (starEach es X.env)).any (·.1) = false := by rfl) :
    PE X (.Call (.Name x p) (e :: es) [] pos) (tMakeS C sp E t) := by
  refine ⟨fun pins s σ H Q I h => ?_⟩
  refine wpAny_Call_Name_kw (ld_glob I hg hm ?_ hdb)
  refine PySem.W.callWith_K (h₀ := X.base) I.ok.mod.kin M.kp (thn (ha.run pos pins s σ H _ I h) fun us s1 ⟨vs, H1, I1, r, q⟩ => ⟨I1.kIn, ?_⟩) he hpl
  have a0 := I1.hok.fresh (Nat.le_refl s1.heap.objs.size)
  have a1 := I1.hok.fresh (Nat.le_succ s1.heap.objs.size)
  have hq := q (s1.heap.objs.size + 1) s1.heap.objs.size a1 a0 (Nat.ne_of_lt (Nat.lt_succ_self _))
  have J := Inv.made (C := C) I1
  have rv : Vals (V.ref (s1.heap.objs.size + 1) :: vs) (Value.ref (s1.heap.objs.size + 1) :: us) := .cons rfl r
  have hl : ((Value.ref (s1.heap.objs.size + 1) :: us) ++ ([] : List Value)).length = ps.length := by
    rw [List.append_nil, ← F.len _ _ _ _ hq]
    exact rv.length.symm
  refine wpAny_call (make_map (f := f) I1.kIn M.makes M.init (beq_iff_eq.mp M.fn) (codeAny_mono (F.run _ X.stack _ _ ⟨Value.ref (s1.heap.objs.size + 1) :: us, []⟩ (Value.ref (s1.heap.objs.size + 1) :: us) _ _ (E σ) (hr.make C us [])
    (J.env0.make C us []) (by have b := hb _ (Value.ref (s1.heap.objs.size + 1) :: us) J.kIn hl; rw [List.append_nil] at b; exact b) rv hq) fun r s' hq' => ?_))
  match r, hq' with
  | .error er, hq' => exact hx σ pins _ _ er s' J hq'
  | .ok (.ret u), hq' =>
    obtain ⟨v, H', I3, r3, ev, q3⟩ := J.after hq'
    subst ev
    exact ⟨r3, ⟨V.ref (s1.heap.objs.size + 1), H', I3, rfl, q3⟩⟩
end
end EK
namespace DW
open PySem PySem.Spec PyProof.Rows L2
/-! ### a def that stands in the module -/
structure Df (K : PySem.W.Frag) (mg : Str → Option Value) (x : Str) (st : Stmt) (ps : List Str) where
  f : Addr
  fd : FuncData
  F : FunD K x x (defArgs st) (defBody st) (defScope st) [] [] f fd
  g : mg x = some (.ref f)
  b : Binds K fd ps []
/-! ### heaps: all but the tape stays -/
structure Kp (t : Addr) (H H' : Hp) : Prop where
  old : ∃ kvs, H t = some (.dK kvs)
  new : ∃ kvs, H' t = some (.dK kvs)
  oth : ∀ b o, b ≠ t → H b = some o → H' b = some o
theorem Kp.trans {t : Addr} {H H1 H2 : Hp} (a : Kp t H H1) (b : Kp t H1 H2) : Kp t H H2 := ⟨a.old, b.new, fun c o n e => b.oth c o n (a.oth c o n e)⟩
theorem Kp.of {t : Addr} {H H' : Hp} {kvs : List (Key × V)} (e : H t = some (.dK kvs)) (s : Same H H') : Kp t H H' := ⟨⟨_, e⟩, ⟨_, s _ _ e⟩, fun b o _ h => s b o h⟩
theorem Kp.at {t b : Addr} {H H' : Hp} {o : HO} (k : Kp t H H') (h : H b = some o) (n : ∀ kvs, o ≠ .dK kvs) : H' b = some o := by
  obtain ⟨kvs, e⟩ := k.old
  exact k.oth b o (fun z => by
    subst z
    rw [e] at h
    exact n kvs (Option.some.inj h).symm) h
theorem Kp.lst {t b : Addr} {H H' : Hp} {xs : List V} {K : PySem.W.Frag} (k : Kp t H H') (h : SqL K H b xs) : SqL K H' b xs := by
  rcases h with (h | ⟨o, h⟩) | h
  · exact .inl (.inl (k.at h fun _ z => by cases z))
  · exact .inl (.inr ⟨o, k.at h fun _ z => by cases z⟩)
  · exact .inr h
theorem Kp.tup {t b : Addr} {H H' : Hp} {xs : List V} {K : PySem.W.Frag} (k : Kp t H H') (h : SqT K H b xs) : SqT K H' b xs := by
  rcases h with (h | ⟨o, h⟩) | h
  · exact .inl (.inl (k.at h fun _ z => by cases z))
  · exact .inl (.inr ⟨o, k.at h fun _ z => by cases z⟩)
  · exact .inr h
theorem same_upd {H : Hp} {p : Addr} {o : HO} (h : H p = none) : Same H (upd H p o) := fun b x e => by
  rw [upd_ne (ne_of_none e h)]
  exact e
theorem Kp.gone {t b : Addr} {H H' : Hp} (k : Kp t H H') (h : H' b = none) : H b = none := by
  cases q : H b with
  | none => rfl
  | some o =>
    by_cases e : b = t
    · obtain ⟨kvs, z⟩ := k.new
      rw [e, z] at h
      cases h
    · rw [k.oth b o e q] at h
      cases h
/-! ### the tape -/
def tpd (c : Addr) (p l : Int) : List (Key × V) := [(.inr "cells", .ref c), (.inr "place", .int p), (.inr "left", .int l)]
structure Tape (H : Hp) (t c : Addr) (n : Nat) : Prop where
  ex : ∃ (cells : List Int) (p : Nat) (l : Int), H t = some (.dK (tpd c p l)) ∧ H c = some (.lst (cells.map V.int)) ∧ 0 < cells.length ∧ cells.length ≤ 63 ∧ p ≤ n ∧ 0 ≤ l
section
variable {H H' : Hp} {t c : Addr} {n m : Nat}
theorem Tape.dk (T : Tape H t c n) : ∃ kvs, H t = some (.dK kvs) := by
  obtain ⟨cells, p, l, h, _⟩ := T.ex
  exact ⟨_, h⟩
theorem Tape.same (T : Tape H t c n) (s : Same H H') : Tape H' t c n := by
  obtain ⟨cells, p, l, h, hc, r⟩ := T.ex
  exact ⟨cells, p, l, s _ _ h, s _ _ hc, r⟩
theorem Tape.kp (T : Tape H t c n) (s : Same H H') : Kp t H H' := by
  obtain ⟨kvs, h⟩ := T.dk
  exact Kp.of h s
theorem Tape.mono (T : Tape H t c n) (h : n ≤ m) : Tape H t c m := by
  obtain ⟨cells, p, l, h1, h2, h3, h4, h5, h6⟩ := T.ex
  exact ⟨cells, p, l, h1, h2, h3, h4, Nat.le_trans h5 h, h6⟩
theorem Kp.refl (T : Tape H t c n) : Kp t H H := T.kp (Same.refl H)
/-- a store at an object that is not the tape's -/
theorem Tape.upd {D : Addr} {o : HO} (T : Tape H t c n) (h1 : D ≠ t) (h2 : D ≠ c) : Tape (upd H D o) t c n := by
  obtain ⟨cells, p, l, h, hc, r⟩ := T.ex
  exact ⟨cells, p, l, (upd_ne h1.symm).trans h, (upd_ne h2.symm).trans hc, r⟩
theorem Tape.ne1 {D : Addr} (T : Tape H t c n) (h : H D = none) : D ≠ t := fun z => by
  obtain ⟨cells, p, l, e, hc, r⟩ := T.ex
  rw [z, e] at h
  cases h
theorem Tape.ne2 {D : Addr} (T : Tape H t c n) (h : H D = none) : D ≠ c := fun z => by
  obtain ⟨cells, p, l, e, hc, r⟩ := T.ex
  rw [z, hc] at h
  cases h
theorem Kp.put {D : Addr} {o : HO} (k : Kp t H H') (h : H D = Option.none) (h1 : D ≠ t) : Kp t H (L2.upd H' D o) := by
  obtain ⟨kvs, e⟩ := k.new
  refine ⟨k.old, ⟨kvs, (upd_ne h1.symm).trans e⟩, fun b u n q => ?_⟩
  rw [upd_ne (ne_of_none q h)]
  exact k.oth b u n q
end
theorem ks1 : ¬ (("cells" : Str) = "place") := by decide +kernel
theorem ks2 : ¬ (("cells" : Str) = "left") := by decide +kernel
theorem ks3 : ¬ (("place" : Str) = "left") := by decide +kernel
theorem ks1' : ¬ (("place" : Str) = "cells") := by decide +kernel
theorem ks2' : ¬ (("left" : Str) = "cells") := by decide +kernel
theorem ks3' : ¬ (("left" : Str) = "place") := by decide +kernel
theorem tp_cells (c : Addr) (p l : Int) : valV (tpd c p l) (Sum.inr ("cells" : Str)) = some (.ref c) := by simp [tpd, valV]
theorem tp_place (c : Addr) (p l : Int) : valV (tpd c p l) (Sum.inr ("place" : Str)) = some (.int p) := by simp [tpd, valV, ks1]
theorem tp_left (c : Addr) (p l : Int) : valV (tpd c p l) (Sum.inr ("left" : Str)) = some (.int l) := by simp [tpd, valV, ks2, ks3]
theorem tp_put_place (c : Addr) (p q l : Int) : putK (tpd c p l) (Sum.inr ("place" : Str)) (.int q) = tpd c q l := by simp [putK, tpd, ks1, ks3']
theorem tp_put_left (c : Addr) (p l m : Int) : putK (tpd c p l) (Sum.inr ("left" : Str)) (.int m) = tpd c p m := by simp [putK, tpd, ks2, ks3]
theorem tp_merge (c : Addr) (p l : Int) : mergeK [] (tpd c p l) = tpd c p l := by simp [mergeK, putK, tpd, ks1, ks2, ks3]
theorem g_cells {H : Hp} {t c : Addr} {p l : Int} (h : H t = some (.dK (tpd c p l))) : DGet H t (.str "cells") (some (.ref c)) := by
  have q := DGet.k (k := Sum.inr ("cells" : Str)) h
  rw [tp_cells] at q
  exact q
theorem g_place {H : Hp} {t c : Addr} {p l : Int} (h : H t = some (.dK (tpd c p l))) : DGet H t (.str "place") (some (.int p)) := by
  have q := DGet.k (k := Sum.inr ("place" : Str)) h
  rw [tp_place] at q
  exact q
theorem g_left {H : Hp} {t c : Addr} {p l : Int} (h : H t = some (.dK (tpd c p l))) : DGet H t (.str "left") (some (.int l)) := by
  have q := DGet.k (k := Sum.inr ("left" : Str)) h
  rw [tp_left] at q
  exact q
theorem p_place {H : Hp} {t c : Addr} {p l : Int} (q : Int) (h : H t = some (.dK (tpd c p l))) : DPut H t (.str "place") (.int q) (upd H t (.dK (tpd c q l))) := by
  have z := DPut.k (k := Sum.inr ("place" : Str)) (v := V.int q) h (by show 3 < sizeLine; decide)
  rw [tp_put_place] at z
  exact z
theorem p_left {H : Hp} {t c : Addr} {p l : Int} (q : Int) (h : H t = some (.dK (tpd c p l))) : DPut H t (.str "left") (.int q) (upd H t (.dK (tpd c p q))) := by
  have z := DPut.k (k := Sum.inr ("left" : Str)) (v := V.int q) h (by show 3 < sizeLine; decide)
  rw [tp_put_left] at z
  exact z
def spBegin (K : PySem.W.Frag) : Sp := fun vs H Q _ => ∃ (a : Addr) (ns : List Int), vs = [.ref a] ∧ SqL K H a (ns.map V.int) ∧ ∀ H' t c, Same H H' → H t = none → H c = none → Tape H' t c 0 → Q (.ref t) H'
def spDraw : Sp := fun vs H Q _ => ∃ (t c : Addr) (m : Int) (n : Nat), vs = [.ref t, .int m] ∧ Tape H t c n ∧ n < 2 ^ 40 ∧ 0 < m ∧ m < 2 ^ 30 ∧ ∀ H' r, Kp t H H' → Tape H' t c (n + 1) → 0 ≤ r → r < m → Q (.int r) H'
/-- pick: from a list, from a text -/
def spPick (K : PySem.W.Frag) : Sp := fun vs H Q _ => ∃ (t c : Addr) (n : Nat) (x : V), vs = [.ref t, x] ∧ Tape H t c n ∧ n < 2 ^ 40 ∧
  ((∃ a xs, x = .ref a ∧ SqL K H a xs ∧ xs ≠ [] ∧ xs.length < 2 ^ 30 ∧ ∀ H' y, Kp t H H' → Tape H' t c (n + 1) → y ∈ xs → Q y H') ∨
   (∃ z : Str, x = .str z ∧ z.length ≠ 0 ∧ z.length < 2 ^ 20 ∧ ∀ H' d, Kp t H H' → Tape H' t c (n + 1) → d ∈ z.cps.toList → Q (.str ⟨#[d]⟩) H'))
section
variable {P : Program} {w : World} {K : PySem.W.Frag} {mg : Str → Option Value} {base : Heap}
theorem scBegin : FnScope ["_law_script"] ["_law_script"] (defScope sBegin) := ⟨rfl, rfl, rfl, by decide +kernel, rfl, by decide +kernel, by decide +kernel⟩
theorem cut63 (ns : List Int) : ∃ ms : List Int, cutV (ns.map V.int) none (some 63) = ms.map V.int ∧ ms.length ≤ 63 := by
  refine ⟨ns.take 63, ?_, ?_⟩
  · unfold cutV
    rw [HT.sIx_none, show HT.sIx (ns.map V.int).length (ns.map V.int).length (some 63) = min 63 (ns.map V.int).length from HT.sIx_nat _ _ 63, List.map_take]
    show List.take _ (List.drop 0 _) = _
    rw [List.drop_zero, Nat.sub_zero]
    by_cases c : 63 ≤ (ns.map V.int).length
    · rw [Nat.min_eq_left c]
    · rw [Nat.min_eq_right (by omega), List.take_length, List.take_of_length_le (by omega)]
  · rw [List.length_take]
    omega
theorem ok_begin (D : Df K mg "_law_begin" sBegin ["_law_script"]) : FnOk P w K mg base CX0 1 D.f D.fd ["_law_script"] (spBegin K) := by
  refine D.F.ok scBegin (fun vs H Q E h => ?_) (fun cdv A outer s H vs Q E hr h => ?_)
  · obtain ⟨a, ns, rfl, _⟩ := h
    rfl
  · obtain ⟨a, ns, rfl, hS, k⟩ := h
    refine ⟨_, pss_one (ps_ret (pe_disp (pps_cons pe_str (pe_orT (pe_slice sl_list (pv 0) po_none (po_some pe_int)) (pe_one (pe_lst (pa_cons pe_int pa_nil)))) (pps_cons pe_str pe_int (pps_cons pe_str pe_int pps_nil))) (by rfl) (by rfl) (fun z => by cases z) (by decide))), ?_⟩
    intro t ht
    have s1 : Same H (upd H t (.dK [])) := same_upd ht
    obtain ⟨ms, em, hm⟩ := cut63 ns
    refine ⟨_, rfl, 63, rfl, a, ns.map V.int, rfl, s1.seq hS, fun c hc => ?_⟩
    have nct : c ≠ t := fun z => by
      rw [z, upd_same] at hc
      cases hc
    rw [em]
    refine ⟨!(ms.map V.int).isEmpty, .inl ⟨_, SqL.of upd_same, rfl⟩, ite2 (fun e => ?_) (fun e => ?_)⟩
    · refine ⟨Eq.trans (upd_ne nct.symm) upd_same, tpd c 0 0, rfl, by show 3 ≤ 15; decide, ?_⟩
      rw [tp_merge]
      refine k _ t c (fun b o eb => ?_) ht (s1.free hc) ⟨ms, 0, 0, upd_same, Eq.trans (upd_ne nct) upd_same, ?_, hm, Nat.le_refl _, Int.le_refl _⟩
      · have nb : b ≠ t := ne_of_none eb ht
        rw [upd_ne nb]
        exact same_upd hc _ _ (s1 _ _ eb)
      · cases ms with
        | nil => cases e
        | cons x r => exact Nat.succ_pos _
    · refine ⟨by show 1 ≤ sizeLine; decide, fun d hd => ?_⟩
      have ndt : d ≠ t := fun z => by
        rw [z, upd_ne nct.symm, upd_same] at hd
        cases hd
      refine ⟨Eq.trans (upd_ne ndt.symm) (Eq.trans (upd_ne nct.symm) upd_same), tpd d 0 0, rfl, by show 3 ≤ 15; decide, ?_⟩
      rw [tp_merge]
      refine k _ t d (fun b o eb => ?_) ht (s1.free ((same_upd hc).free hd)) ⟨[0], 0, 0, upd_same, Eq.trans (upd_ne ndt) upd_same, Nat.succ_pos _, by decide, Nat.le_refl _, Int.le_refl _⟩
      have nb : b ≠ t := ne_of_none eb ht
      rw [upd_ne nb]
      exact same_upd hd _ _ (same_upd hc _ _ (s1 _ _ eb))
theorem scDraw : FnScope ["_law_tape", "_law_many", "_law_place", "_law_count", "_law_cell", "_law_found"] ["_law_tape", "_law_many"] (defScope sDraw) := ⟨rfl, rfl, rfl, by decide +kernel, rfl, by decide +kernel, by decide +kernel⟩
theorem tape_put {H : Hp} {t c : Addr} {cells : List Int} {n p : Nat} {l : Int} {kvs : List (Key × V)} (e : H t = some (.dK kvs)) (hc : H c = some (.lst (cells.map V.int))) (h1 : 0 < cells.length) (h2 : cells.length ≤ 63) (hp : p ≤ n) (hl : 0 ≤ l) :
    Tape (upd H t (.dK (tpd c p l))) t c n := by
  have nct : c ≠ t := ne_of hc e (by intro z; cases z)
  exact ⟨cells, p, l, upd_same, Eq.trans (upd_ne nct) hc, h1, h2, hp, hl⟩
theorem kp_put {H : Hp} {t : Addr} {kvs kvs' : List (Key × V)} (e : H t = some (.dK kvs)) : Kp t H (upd H t (.dK kvs')) := ⟨⟨_, e⟩, ⟨_, upd_same⟩, fun b o n h => (upd_ne n).trans h⟩
theorem ok_draw (D : Df K mg "_law_draw" sDraw ["_law_tape", "_law_many"]) (ml : mg "len" = none) : FnOk P w K mg base CX0 1 D.f D.fd ["_law_tape", "_law_many"] spDraw := by
  refine D.F.ok scDraw (fun vs H Q E h => ?_) (fun cdv A outer s H vs Q E hr h => ?_)
  · obtain ⟨t, c, m, n, rfl, _⟩ := h
    rfl
  · obtain ⟨t, c, m, n, rfl, T, hn, m0, m1, k⟩ := h
    have hu := hu_of hr
    refine ⟨_, C8.pss_cut (ps_if (pt_cmpR op_lt (pe_dget hu (pv 0) pe_str (fun _ _ => rfl)) (pv 1) (nomark _))
        (pss_cons (ps_par (i := 2) (j := 3) rfl scDraw.nd rfl rfl (by decide) rfl rfl (pa_cons (pe_dget hu (pv 0) pe_str (fun _ _ => rfl)) (pa_cons (pe_callB call_len_seq (by rfl) ml PySem.boot_len (pa_cons (pe_dget hu (pv 0) pe_str (fun _ _ => rfl)) pa_nil)) pa_nil)) (by rfl))
        (pss_cons (ps_asg (pe_tup (pa_cons (pe_ix ix_list (pe_dget hu (pv 0) pe_str (fun _ _ => rfl)) (pe_op op_mod (pv 2) (pv 3)) (fun _ _ => rfl)) (pa_cons (pe_op op_add (pv 2) pe_int) pa_nil)))
            (pg_tup rfl (pgs_cons (pg_name (i := 4) scDraw.nd rfl (.inl rfl)) (pgs_cons (pg_sub (pv 0) pe_str (set_dict hu)) pgs_nil))))
        (pss_cons (ps_dput hu (pv 0) pe_str (pe_op op_mod (pe_op op_pow (pe_op op_add (pe_op op_add (pe_op op_mod (pv 4) pe_int) (pe_op op_mul pe_int (pv 2))) pe_int) pe_int) (pe_op op_add (pe_op op_pow pe_int pe_int) pe_int)) rfl)
        (pss_one (ps_if (pw_and (pt_cmpR op_ge (pv 4) (pe_op op_pow pe_int pe_int) (nomark _)) (pw_and1 (pt_cmpR op_lt (pv 2) (pv 3) (nomark _)))).pt
          (pss_one (ps_dput hu (pv 0) pe_str (pe_op op_sub (pv 4) (pe_op op_pow pe_int pe_int)) rfl)) pss_nil))))) pss_nil)
      (pss_cons (ps_asg (pe_tup (pa_cons (pe_op op_mod (pe_dget hu (pv 0) pe_str (fun _ _ => rfl)) (pv 1)) (pa_cons (pe_op op_fdiv (pe_dget hu (pv 0) pe_str (fun _ _ => rfl)) (pv 1)) pa_nil)))
            (pg_tup rfl (pgs_cons (pg_name (i := 5) scDraw.nd rfl (.inl rfl)) (pgs_cons (pg_sub (pv 0) pe_str (set_dict hu)) pgs_nil))))
      (pss_one (ps_ret (pv 5)))), ?_⟩
    have m1' : m < 1073741824 := m1
    obtain ⟨cells, p, l, ht, hc, c0, c63, hp, l0⟩ := T.ex
    refine ⟨fun σ' H' => ∃ y2 y3 y4, σ' = [some (.ref t), some (.int m), y2, y3, y4, none] ∧ Kp t H H' ∧ Tape H' t c (n + 1), ?_, ?_⟩
    · refine ⟨.ref t, rfl, t, .int l, rfl, g_left ht, .int m, rfl, l, m, rfl, rfl, _, rfl, ite2 (fun e => ?_) (fun e => ?_)⟩
      · refine ⟨.ref t, rfl, t, .int p, rfl, g_place ht, .ref t, rfl, t, .ref c, rfl, g_cells ht, c, _, rfl, .inl (SqL.of hc), _, _, rfl, ?_⟩
        have lp : 0 < (cells.map V.int).length := by
          rw [List.length_map]
          exact c0
        have jl : p % (cells.map V.int).length < cells.length := by
          have := Nat.mod_lt p lp
          rw [List.length_map] at this ⊢
          exact this
        have ga : (cells.map V.int)[p % (cells.map V.int).length]? = some (.int cells[p % (cells.map V.int).length]) := by
          rw [List.getElem?_map, List.getElem?_eq_getElem jl]
          rfl
        generalize cells[p % (cells.map V.int).length] = z at ga
        refine ⟨.ref t, rfl, t, .ref c, rfl, g_cells ht, _, rfl, _, rfl, (p : Int), ((cells.map V.int).length : Int), rfl, rfl, by omega, c, _, _, .int z, rfl, rfl, SqL.of hc, at_of (j := p % (cells.map V.int).length) (by rw [Int.natCast_emod]) ga, .int p, rfl, (p : Int), 1, rfl, rfl, by show 2 ≤ sizeLine; decide, fun q hq => ?_⟩
        have s1 : Same H (upd H q (.tup [.int z, .int ((p : Int) + 1)])) := same_upd hq
        have ht1 := s1 _ _ ht
        have hc1 := s1 _ _ hc
        have nct : c ≠ t := ne_of hc ht (by intro z; cases z)
        refine ⟨q, _, rfl, SqT.of upd_same, rfl, _, _, rfl, _, _, rfl, .ref t, rfl, t, _, rfl, p_place ((p : Int) + 1) ht1, rfl, ?_⟩
        have hn' : n < 1099511627776 := hn
        have zm0 : 0 ≤ z % 2147483647 := Int.emod_nonneg _ (by decide)
        have zm1 : z % 2147483647 < 2147483647 := Int.emod_lt_of_pos _ (by decide)
        have b0 : (z % 2147483647 + 69621 * (p : Int) + 48271).natAbs < 2 ^ 64 := by omega
        refine ⟨.int z, rfl, z, 2147483647, rfl, rfl, (by show (0 : Int) < 2147483647; decide), .int p, rfl, 69621, (p : Int), rfl, rfl, .inl ⟨by decide, by decide⟩, _, _, rfl, rfl, _, 48271, rfl, rfl, _, 17, rfl, rfl, ⟨by decide, by decide, b0⟩, 10, 50, rfl, rfl, ⟨by decide, by decide, by decide⟩, _, 151, rfl, rfl, _, _, rfl, rfl, ?_, ?_⟩
        · exact (by decide +kernel : (0 : Int) < 10 ^ (50 : Int).toNat + 151)
        have ht2 : (upd (upd H q (.tup [.int z, .int ((p : Int) + 1)])) t (.dK (tpd c ((p : Int) + 1) l))) t = some (.dK (tpd c ((p : Int) + 1) l)) := upd_same
        refine ⟨.ref t, rfl, t, _, rfl, p_left ((z % 2147483647 + 69621 * (p : Int) + 48271) ^ (17 : Int).toNat % (10 ^ (50 : Int).toNat + 151)) ht2, ?_⟩
        have x0 : 0 ≤ (z % 2147483647 + 69621 * (p : Int) + 48271) ^ (17 : Int).toNat % (10 ^ (50 : Int).toNat + 151) := Int.emod_nonneg _ (by decide +kernel)
        generalize (z % 2147483647 + 69621 * (p : Int) + 48271) ^ (17 : Int).toNat % (10 ^ (50 : Int).toNat + 151) = x17 at x0 ⊢
        have k3 : Kp t H (upd (upd (upd H q (.tup [.int z, .int ((p : Int) + 1)])) t (.dK (tpd c ((p : Int) + 1) l))) t (.dK (tpd c ((p : Int) + 1) x17))) := ((Kp.of ht s1).trans (kp_put ht1)).trans (kp_put ht2)
        have hc3 := k3.at hc (fun _ z => by cases z)
        refine ⟨.int z, rfl, 10, 18, rfl, rfl, ⟨by decide, by decide, by decide⟩, z, _, rfl, rfl, _, rfl, ite2 (fun e2 => ?_) (fun e2 => ?_)⟩
        · refine ⟨.int p, rfl, _, rfl, _, _, rfl, rfl, _, rfl, ite2 (fun e3 => ?_) (fun e3 => ?_)⟩
          · have hz : (0 : Int) ≤ z - 10 ^ (18 : Int).toNat := by
              have e4 : (10 : Int) ^ (18 : Int).toNat ≤ z := of_decide_eq_true e2
              omega
            refine ⟨.int z, rfl, 10, 18, rfl, rfl, ⟨by decide, by decide, by decide⟩, z, _, rfl, rfl, .ref t, rfl, t, _, rfl, p_left (z - 10 ^ (18 : Int).toNat) upd_same, ?_⟩
            exact ⟨_, _, _, rfl, k3.trans (kp_put upd_same), tape_put (p := p + 1) upd_same hc3 c0 c63 (by omega) hz⟩
          · exact ⟨_, _, _, rfl, k3, ⟨cells, p + 1, x17, upd_same, hc3, c0, c63, by omega, x0⟩⟩
        · exact ⟨_, _, _, rfl, k3, ⟨cells, p + 1, x17, upd_same, hc3, c0, c63, by omega, x0⟩⟩
      · exact ⟨none, none, none, rfl, Kp.refl T, T.mono (Nat.le_succ n)⟩
    · rintro σ' H' ⟨y2, y3, y4, rfl, k1, T1⟩
      obtain ⟨cells, p, l, ht, hc, c0, c63, hp, l0⟩ := T1.ex
      refine ⟨.ref t, rfl, t, .int l, rfl, g_left ht, .int m, rfl, l, m, rfl, rfl, m0, .ref t, rfl, t, .int l, rfl, g_left ht, .int m, rfl, l, m, rfl, rfl, ⟨m0, m1⟩, by show 2 ≤ sizeLine; decide, fun q hq => ?_⟩
      have s1 : Same H' (upd H' q (.tup [.int (l % m), .int (l / m)])) := same_upd hq
      have ht1 := s1 _ _ ht
      refine ⟨q, _, rfl, SqT.of upd_same, rfl, _, _, rfl, _, _, rfl, .ref t, rfl, t, _, rfl, p_left (l / m) ht1, rfl, ?_⟩
      refine ⟨_, rfl, k _ _ ((k1.trans (T1.kp s1)).trans (kp_put ht1)) (tape_put ht1 (s1 _ _ hc) c0 c63 hp (Int.ediv_nonneg l0 (by omega))) (Int.emod_nonneg _ (by omega)) (Int.emod_lt_of_pos _ m0)⟩
theorem at_cp {α : Type} {xs : List α} {z : Int} {j : Nat} {v : α} (e : z = (j : Int)) (h : xs[j]? = some v) : atI xs z = some v := by
  rw [e]
  exact atI_nat h
theorem scPick : FnScope ["_law_tape", "_law_items_here"] ["_law_tape", "_law_items_here"] (defScope sPick) := ⟨rfl, rfl, rfl, by decide +kernel, rfl, by decide +kernel, by decide +kernel⟩
theorem ok_pick (D : Df K mg "_law_pick" sPick ["_law_tape", "_law_items_here"]) (Dd : Df K mg "_law_draw" sDraw ["_law_tape", "_law_many"]) (ml : mg "len" = none) : FnOk P w K mg base CX0 2 D.f D.fd ["_law_tape", "_law_items_here"] (spPick K) := by
  have Gd : FnOk P w K mg base CX0 1 Dd.f Dd.fd ["_law_tape", "_law_many"] spDraw := ok_draw Dd ml
  refine D.F.ok scPick (fun vs H Q E h => ?_) (fun cdv A outer s H vs Q E hr h => ?_)
  · obtain ⟨t, c, n, x, rfl, _⟩ := h
    rfl
  · obtain ⟨t, c, n, x, rfl, T, hn, h⟩ := h
    rcases h with ⟨a, xs, rfl, hx, ne, hl, k⟩ | ⟨z, rfl, ne, hl, k⟩
    · refine ⟨_, pss_one (ps_ret (pe_ix ix_list (pv 1) (pe_call Gd hr (by rfl) Dd.g Dd.F.kp Dd.b .nil pass0 (pa_cons (pv 0) (pa_cons (pe_callB call_len_seq (by rfl) ml PySem.boot_len (pa_cons (pv 1) pa_nil)) pa_nil))) (fun _ _ => rfl))), ?_⟩
      have l0 : 0 < xs.length := List.length_pos_iff.mpr ne
      refine ⟨.ref a, rfl, .ref t, rfl, .ref a, rfl, a, xs, rfl, .inl hx, t, c, _, n, rfl, T, hn, by omega, by omega, fun H' r k1 T1 r0 r1 => ?_⟩
      have rl : r.toNat < xs.length := by omega
      refine ⟨a, xs, r, xs[r.toNat], rfl, rfl, k1.lst hx, at_of (j := r.toNat) (by omega) (List.getElem?_eq_getElem rl), k H' _ k1 T1 (List.getElem_mem rl)⟩
    · refine ⟨_, pss_one (ps_ret (pe_ix ix_str (pv 1) (pe_call Gd hr (by rfl) Dd.g Dd.F.kp Dd.b .nil pass0 (pa_cons (pv 0) (pa_cons (pe_callB call_len_str (by rfl) ml PySem.boot_len (pa_cons (pv 1) pa_nil)) pa_nil))) (fun _ _ => rfl))), ?_⟩
      have zl : z.cps.toList.length = z.length := Array.length_toList
      refine ⟨.str z, rfl, .ref t, rfl, .str z, rfl, z, rfl, ?_, t, c, _, n, rfl, T, hn, by omega, by omega, fun H' r k1 T1 r0 r1 => ?_⟩
      · rw [sizeLine_eq]; omega
      have rl : r.toNat < z.cps.toList.length := by omega
      refine ⟨z, r, z.cps.toList[r.toNat], rfl, rfl, ?_, at_cp (by omega) (List.getElem?_eq_getElem rl), k H' _ k1 T1 (List.getElem_mem rl)⟩
      rw [sizeLine_eq]
      omega
end
end DW
namespace DW
open PySem PySem.Spec PyProof.Rows L2 TL
set_option autoImplicit false
/-! ### texts as lists of codes -/
def one (c : Nat) : Str := ⟨#[c]⟩
theorem tl_one (c : Nat) : tl (one c) = [c] := rfl
theorem tl_inj {x y : Str} (h : tl x = tl y) : x = y := by
  obtain ⟨⟨a⟩⟩ := x
  obtain ⟨⟨b⟩⟩ := y
  have e : a = b := h
  rw [e]
theorem joinL_nil : ∀ l : List (List Nat), joinL [] l = l.flatten
  | [] => rfl
  | [p] => by simp [joinL]
  | p :: q :: r => by
    show p ++ ([] ++ joinL [] (q :: r)) = (p :: q :: r).flatten
    rw [joinL_nil (q :: r)]
    simp
theorem tl_cat (ys : List Str) : tl (Txt.join "" ys) = (ys.map tl).flatten := by
  have e : tl (Str.join "" ys) = joinL (tl "") (ys.map tl) := tl_join "" ys
  rw [join_eq, e, show tl "" = [] from rfl, joinL_nil]
theorem flat_ones (cs : List Nat) : ((cs.map one).map tl).flatten = cs := by
  induction cs with
  | nil => rfl
  | cons c r ih =>
    show [c] ++ ((r.map one).map tl).flatten = c :: r
    rw [ih]
    rfl
theorem lt_ones (x p : Nat) : ltCps (tl (one x)) (tl (one p)) = decide (x < p) := by
  simp [one, ltCps]
theorem sorted_ones : ∀ ys : List Str, (∀ y ∈ ys, ∃ c, y = one c) → ys.Nodup → sortedS ys = true → ∃ cs : List Nat, ys = cs.map one ∧ cs.Pairwise (· < ·)
  | [], _, _, _ => ⟨[], rfl, List.Pairwise.nil⟩
  | [y], h, _, _ => by
    obtain ⟨c, rfl⟩ := h y List.mem_cons_self
    exact ⟨[c], rfl, List.pairwise_singleton _ _⟩
  | y :: z :: r, h, nd, so => by
    obtain ⟨hy, nd'⟩ := List.nodup_cons.mp nd
    obtain ⟨c, rfl⟩ := h y List.mem_cons_self
    obtain ⟨d, rfl⟩ := h z (List.mem_cons_of_mem _ List.mem_cons_self)
    have so' : (!ltCps (tl (one d)) (tl (one c)) && risingS (one d) r) = true := so
    rw [Bool.and_eq_true] at so'
    obtain ⟨cs, e, pw⟩ := sorted_ones (one d :: r) (fun u hu => h u (List.mem_cons_of_mem _ hu)) nd' so'.2
    have lt : c < d := by
      have q := so'.1
      rw [lt_ones] at q
      have n1 : ¬ d < c := by simpa using q
      have n2 : c ≠ d := fun z => hy (by rw [z]; exact List.mem_cons_self)
      omega
    cases cs with
    | nil => cases e
    | cons d' cs =>
      have e1 : one d = one d' := (List.cons.inj e).1
      have e2 : d = d' := by
        have q := congrArg tl e1
        exact (List.cons.inj q).1
      subst e2
      refine ⟨c :: d :: cs, by rw [List.map_cons, ← e], List.pairwise_cons.mpr ⟨fun u hu => ?_, pw⟩⟩
      rcases List.mem_cons.mp hu with q | q
      · omega
      · have := (List.pairwise_cons.mp pw).1 u q
        omega
theorem sum_ones : ∀ ys : List Str, (∀ y ∈ ys, ∃ c, y = one c) → (ys.map (·.length)).sum = ys.length
  | [], _ => rfl
  | y :: r, h => by
    obtain ⟨c, rfl⟩ := h y List.mem_cons_self
    rw [List.map_cons, List.sum_cons, sum_ones r fun u hu => h u (List.mem_cons_of_mem _ hu), List.length_cons]
    show 1 + r.length = r.length + 1
    omega
theorem yes {σ : L2.St} {H : Hp} {F G : Hp → Prop} (h : F H) : tYes σ H (fun b H3 => if b = true then F H3 else G H3) := by
  show (if true = true then F H else G H)
  rw [if_pos rfl]
  exact h
/-- an alphabet -/
def Alph (z : Str) : Prop := (tl z).Pairwise (· < ·) ∧ 1 ≤ (tl z).length ∧ (tl z).length ≤ 3 ∧ ∀ c ∈ tl z, 97 ≤ c ∧ c ≤ 122
def abc : Str := "abcdefghijklmnopqrstuvwxyz"
theorem abc_low : ∀ c ∈ tl abc, 97 ≤ c ∧ c ≤ 122 := by decide +kernel
theorem abc_len : (tl abc).length = 26 := by decide +kernel
theorem al1 : Alph "ab" := by unfold Alph; decide +kernel
theorem al2 : Alph "abc" := by unfold Alph; decide +kernel
theorem al3 : Alph "a" := by unfold Alph; decide +kernel
theorem al4 : Alph "bx" := by unfold Alph; decide +kernel
theorem al5 : Alph "cmz" := by unfold Alph; decide +kernel
theorem alph_of {ds : List Nat} {ls ys : List Str} (h1 : 1 ≤ ds.length) (h3 : ds.length ≤ 3) (low : ∀ c ∈ ds, 97 ≤ c ∧ c ≤ 122) (nd : ls.Nodup) (mem : ∀ k, k ∈ ls ↔ k ∈ ds.map one) (le : ls.length ≤ (ds.map one).length)
    (pm : ys.Perm ls) (so : sortedS ys = true) : Alph (Txt.join "" ys) := by
  have hm : ∀ y ∈ ys, y ∈ ds.map one := fun y hy => (mem y).mp (pm.mem_iff.mp hy)
  obtain ⟨cs, rfl, pw⟩ := sorted_ones ys (fun y hy => by
    obtain ⟨c, _, e⟩ := List.mem_map.mp (hm y hy)
    exact ⟨c, e.symm⟩) (pm.nodup_iff.mpr nd) so
  have e : tl (Txt.join "" (cs.map one)) = cs := by rw [tl_cat, flat_ones]
  have hl : cs.length = ls.length := by
    have q := pm.length_eq
    rw [List.length_map] at q
    exact q
  rw [List.length_map] at le
  unfold Alph
  rw [e]
  refine ⟨pw, ?_, by omega, fun c hc => ?_⟩
  · cases ds with
    | nil => cases h1
    | cons d r =>
      have q : one d ∈ ls := (mem _).mpr List.mem_cons_self
      have q2 : one d ∈ cs.map one := pm.mem_iff.mpr q
      have := List.length_pos_of_mem q2
      rw [List.length_map] at this
      omega
  · obtain ⟨d, hd, e⟩ := List.mem_map.mp (hm (one c) (List.mem_map.mpr ⟨c, hc, rfl⟩))
    have e2 : d = c := by
      have q := congrArg tl e
      exact (List.cons.inj q).1
    rw [← e2]
    exact low d hd
/-! ### what the module's names hold -/
structure Bl (mg : Str → Option Value) : Prop where
  len : mg "len" = none
  range : mg "range" = none
  sorted : mg "sorted" = none
  set : mg "set" = none
def spAlpha : Sp := fun vs H Q _ => ∃ (t c : Addr) (n : Nat), vs = [.ref t] ∧ Tape H t c n ∧ n + 10 < 2 ^ 40 ∧ ∀ H' z, Kp t H H' → Tape H' t c (n + 10) → Alph z → Q (.str z) H'
abbrev DfDraw (K : PySem.W.Frag) (mg : Str → Option Value) := Df K mg "_law_draw" sDraw ["_law_tape", "_law_many"]
abbrev DfPick (K : PySem.W.Frag) (mg : Str → Option Value) := Df K mg "_law_pick" sPick ["_law_tape", "_law_items_here"]
end DW
namespace DW
open PySem PySem.Spec PyProof.Rows L2 TL
set_option autoImplicit false
section
variable {P : Program} {w : World} {K : PySem.W.Frag} {mg : Str → Option Value} {base : Heap}
theorem scAlpha : FnScope ["_law_tape", "_law_letters", "_law_drawn", "_law_k"] ["_law_tape"] (defScope sAlpha) := ⟨rfl, rfl, rfl, by decide +kernel, rfl, by decide +kernel, by decide +kernel⟩
theorem ok_alpha (D : Df K mg "_law_alphabet" sAlpha ["_law_tape"]) (Dd : DfDraw K mg) (Dp : DfPick K mg) (B : Bl mg) : FnOk P w K mg base CX0 3 D.f D.fd ["_law_tape"] spAlpha := by
  have Gd : FnOk P w K mg base CX0 1 Dd.f Dd.fd ["_law_tape", "_law_many"] spDraw := ok_draw Dd B.len
  have Gp : FnOk P w K mg base CX0 2 Dp.f Dp.fd ["_law_tape", "_law_items_here"] (spPick K) := ok_pick Dp Dd B.len
  refine D.F.ok scAlpha (fun vs H Q E h => ?_) (fun cdv A outer s H vs Q E hr h => ?_)
  · obtain ⟨t, c, n, rfl, _⟩ := h
    rfl
  · obtain ⟨t, c, n, rfl, T, hn, k⟩ := h
    have hr1 : Room 1 _ := hr.mono (by decide)
    refine ⟨_, pss_cons (ps_set (i := 1) scAlpha.nd rfl (Or.inr rfl) pe_str)
      (pss_cons (ps_setLc (i := 2) (own := [("_law_k", 3)]) (g := gName 3) (tt := tYes) rfl scAlpha.nd rfl rfl (sw_true rfl rfl rfl (by decide +kernel))
        (pi_range1 rfl B.range (pa_cons (pe_op op_add pe_int (pe_call Gd hr1 (by rfl) Dd.g Dd.F.kp Dd.b .nil pass0 (pa_cons (pv 0) (pa_cons pe_int pa_nil)))) pa_nil))
        (blkOk_by (N := ["_law_tape", "_law_letters", "_law_drawn", "_law_k"]) (sc := defScope sAlpha) (by decide +kernel)) (fun _ _ _ _ _ => pg_name (i := 3) scAlpha.nd rfl (Or.inl rfl)) (fun _ _ _ _ _ => pts_nil)
        (fun _ _ _ _ _ => pe_ix ix_str (pv 1) (pe_call Gd hr1 (by rfl) Dd.g Dd.F.kp Dd.b .nil pass0 (pa_cons (pv 0) (pa_cons pe_int pa_nil))) (fun _ _ => rfl)))
      (pss_one (ps_ret (pe_call Gp hr (by rfl) Dp.g Dp.F.kp Dp.b .nil pass0 (pa_cons (pv 0) (pa_cons
        (pe_op op_cat (pe_lst (pa_cons pe_str (pa_cons pe_str (pa_cons pe_str (pa_cons pe_str (pa_cons pe_str pa_nil))))))
          (pe_op op_rep (pe_lst (pa_cons (pe_join pe_str (pe_callB (TX.cr_sortTx rfl) (by rfl) B.sorted (by decide +kernel) (pa_cons (pe_callTy (TX.cr_setL rfl) (by rfl) B.set (by decide +kernel) (pa_cons (pv 2) pa_nil)) pa_nil))) pa_nil)) pe_int)) pa_nil)))))), ?_⟩
    refine ⟨.ref t, rfl, t, c, 3, n, rfl, T, by omega, by decide, by decide, fun H1 r k1 T1 r0 r1 => ?_⟩
    refine ⟨1, r, rfl, rfl, 1 + r, rfl, by omega, by omega, fun D hD => ?_⟩
    have D1 := T1.ne1 hD
    have D2 := T1.ne2 hD
    have D0 := k1.gone hD
    refine lc_range (lo := 0) (n := (1 + r).toNat) (fun i H' => ∃ ds : List Nat, ds.length = i ∧ (∀ c ∈ ds, 97 ≤ c ∧ c ≤ 122) ∧ H' D = some (.lst ((ds.map one).map V.str)) ∧ Kp t H H' ∧ Tape H' t c (n + 1 + i)) ?_ ?_ ?_
    · exact ⟨[], rfl, fun c hc => (nomatch hc), upd_same, k1.put D0 D1, T1.upd D1 D2⟩
    · rintro i G hi ⟨ds, dl, low, gD, kG, TG⟩
      refine ⟨rfl, yes ?_⟩
      refine ⟨.str abc, rfl, .ref t, rfl, t, c, 26, n + 1 + i, rfl, TG, by omega, by decide, by decide, fun H4 q k4 T4 q0 q1 => ?_⟩
      have ql : q.toNat < (tl abc).length := by
        rw [abc_len]
        omega
      have gD4 := k4.at gD (fun _ z => by cases z)
      refine ⟨abc, q, (tl abc)[q.toNat], rfl, rfl, by decide +kernel, at_cp (j := q.toNat) (by omega) (List.getElem?_eq_getElem ql), _, gD4, ?_, ?_⟩
      · rw [List.length_map, List.length_map, dl, sizeLine_eq]
        omega
      · refine ⟨ds ++ [(tl abc)[q.toNat]], by rw [List.length_append, dl]; rfl, fun c hc => ?_, ?_, ?_, ?_⟩
        · rcases List.mem_append.mp hc with z | z
          · exact low c z
          · rw [List.mem_singleton.mp z]
            exact abc_low _ (List.getElem_mem ql)
        · rw [upd_same, List.map_append, List.map_append]
          rfl
        · exact (kG.trans k4).put D0 D1
        · exact T4.upd D1 D2
    · rintro G ⟨ds, dl, low, gD, kG, TG⟩
      refine ⟨.ref t, rfl, by show 5 ≤ sizeLine; decide, fun l1 e1 => ?_⟩
      have s1 := same_upd (o := .lst [V.str "ab", V.str "abc", V.str "a", V.str "bx", V.str "cmz"]) e1
      refine ⟨⟨_, rfl⟩, .ref D, rfl, D, ds.map one, rfl, SqL.of (s1 _ _ gD), ?_, fun a ls ea nd mem le => ?_⟩
      · rw [List.length_map, dl]
        unfold scanBound
        omega
      have s2 := same_upd (o := TX.SetTx P w a ls) ea
      refine ⟨a, ls, rfl, upd_same, ?_, fun ys p pm so ep => ?_⟩
      · rw [List.length_map] at le
        omega
      have al := alph_of (by omega) (by omega) low nd mem le pm so
      have s3 := same_upd (o := .lst (ys.map V.str)) ep
      refine ⟨"", p, ys, rfl, rfl, .inl (SqL.of upd_same), ?_, by show 1 ≤ sizeLine; decide, fun l2 e2 => ?_⟩
      · rw [sum_ones ys fun y hy => ?_]
        · rw [pm.length_eq]
          rw [List.length_map] at le
          show ls.length + ls.length * 0 ≤ 16777216
          omega
        · obtain ⟨u, _, e⟩ := List.mem_map.mp ((mem y).mp (pm.mem_iff.mp hy))
          exact ⟨u, e.symm⟩
      have s4 := same_upd (o := .lst [V.str (Txt.join "" ys)]) e2
      refine ⟨l2, 5, _, rfl, rfl, upd_same, by decide, by decide, by show 1 * 5 ≤ sizeLine; decide, fun l3 e3 => ?_⟩
      have s5 := same_upd (o := .lst (List.replicate (5 : Int).toNat [V.str (Txt.join "" ys)]).flatten) e3
      refine ⟨l1, l3, _, _, rfl, rfl, s5 _ _ (s4 _ _ (s3 _ _ (s2 _ _ upd_same))), upd_same, by show 5 + 5 ≤ sizeLine; decide, fun l4 e4 => ?_⟩
      have s6 := same_upd (o := .lst ([V.str "ab", V.str "abc", V.str "a", V.str "bx", V.str "cmz"] ++ (List.replicate (5 : Int).toNat [V.str (Txt.join "" ys)]).flatten)) e4
      have sa := ((((s1.trans s2).trans s3).trans s4).trans s5).trans s6
      refine ⟨t, c, n + 1 + (1 + r).toNat, .ref l4, rfl, TG.same sa, by omega, .inl ⟨l4, _, rfl, SqL.of upd_same, by simp, by show 10 < 2 ^ 30; decide, fun H' y k' T' hy => ?_⟩⟩
      have hy' : ∃ z, y = V.str z ∧ Alph z := by
        rcases List.mem_append.mp hy with q | q
        · simp only [List.mem_cons, List.not_mem_nil, or_false] at q
          rcases q with q | q | q | q | q
          · exact ⟨_, q, al1⟩
          · exact ⟨_, q, al2⟩
          · exact ⟨_, q, al3⟩
          · exact ⟨_, q, al4⟩
          · exact ⟨_, q, al5⟩
        · obtain ⟨u, hu, hy⟩ := List.mem_flatten.mp q
          rw [List.eq_of_mem_replicate hu] at hy
          exact ⟨_, List.mem_singleton.mp hy, al⟩
      obtain ⟨z, rfl, az⟩ := hy'
      exact k H' z ((kG.trans (TG.kp sa)).trans k') (T'.mono (by omega)) az
end
end DW
/-! is_ascending, is_alphabet, is_word -/
namespace DW
open PySem PySem.Spec PyProof.Rows L2 TL
set_option autoImplicit false
def ascB (l : List Nat) : Bool := (l.zip (l.drop 1)).all fun p => decide (p.1 < p.2)
def lowB (c : Nat) : Bool := decide (97 ≤ c) && decide (c ≤ 122)
def alphB (l : List Nat) : Bool := decide (1 ≤ l.length) && decide (l.length ≤ 3) && (l.all lowB && ascB l)
theorem lt1 (c d : Nat) : decide ([c] < [d]) = decide (c < d) := by
  rw [decide_eq_decide]
  constructor
  · intro h
    rcases List.cons_lt_cons_iff.mp h with q | q
    · exact q
    · exact absurd q.2 (List.not_lt_nil _)
  · intro h
    exact List.cons_lt_cons_iff.mpr (.inl h)
theorem low_eq (c : Nat) : (if (!decide (([c] : List Nat) < [97])) = true then !decide (([122] : List Nat) < [c]) else false) = lowB c := by
  rw [lt1, lt1]
  unfold lowB
  by_cases h : c < 97
  · rw [decide_eq_true h]
    simp
    omega
  · rw [decide_eq_false h]
    simp
    by_cases g : 122 < c
    · rw [decide_eq_true g, decide_eq_true (by omega : 97 ≤ c), decide_eq_false (by omega : ¬ c ≤ 122)]
      rfl
    · rw [decide_eq_false g, decide_eq_true (by omega : 97 ≤ c), decide_eq_true (by omega : c ≤ 122)]
      rfl
/-- not a text -/
def NoS (K : PySem.W.Frag) (H : Hp) (v : V) : Prop := ∃ t, TyX K H v t ∧ PySem.W.kitOne K t (.type "str") = some false
theorem isi_kit {K : PySem.W.Frag} : PySem.W.kitOne K (.type "str") (.type "str") = some true := kit_ty (by decide +kernel)
def spAsc : Sp := fun vs H Q _ => ∃ (x : Str), vs = [.str x] ∧ (tl x).length ≤ 100000 ∧ ∀ H', Same H H' → Q (.bl (ascB (tl x))) H'
def spAlp (K : PySem.W.Frag) : Sp := fun vs H Q _ => ∃ v : V, vs = [v] ∧ ((∃ x : Str, v = .str x ∧ (tl x).length ≤ 100000 ∧ ∀ H', Same H H' → Q (.bl (alphB (tl x))) H') ∨ (NoS K H v ∧ ∀ H', Same H H' → Q (.bl false) H'))
def spIw (K : PySem.W.Frag) : Sp := fun vs H Q _ => ∃ (z : Str) (v : V), vs = [.str z, v] ∧ ((∃ x : Str, v = .str x ∧ (tl x).length ≤ 100000 ∧ ∀ H', Same H H' → Q (.bl ((tl x).all fun c => decide (c ∈ tl z))) H') ∨ (NoS K H v ∧ ∀ H', Same H H' → Q (.bl false) H'))
theorem cut1 (x : Str) : tl (cutS x (some 1) none) = (tl x).drop 1 := by
  show (x.cps.toList.drop (HT.sIx x.length 0 (some 1))).take (HT.sIx x.length x.length none - HT.sIx x.length 0 (some 1)) = x.cps.toList.drop 1
  rw [show HT.sIx x.length 0 (some 1) = min 1 x.length from HT.sIx_nat x.length 0 1, HT.sIx_none]
  have e : x.length = x.cps.toList.length := (Array.length_toList).symm
  by_cases h : 1 ≤ x.length
  · rw [show min 1 x.length = 1 by omega]
    exact List.take_of_length_le (by rw [List.length_drop]; omega)
  · have h0 : x.cps.toList = [] := List.length_eq_zero_iff.mp (by omega)
    rw [h0]
    simp
section
variable {P : Program} {w : World} {K : PySem.W.Frag} {mg : Str → Option Value} {base : Heap}
theorem scAsc : FnScope ["letters", "one", "other"] ["letters"] (defScope sIsAscending) := ⟨rfl, rfl, rfl, by decide +kernel, rfl, by decide +kernel, by decide +kernel⟩
theorem ok_asc (D : Df K mg "is_ascending" sIsAscending ["letters"]) (ma : mg "all" = none) (mz : mg "zip" = none) : FnOk P w K mg base CX0 1 D.f D.fd ["letters"] spAsc := by
  refine D.F.ok scAsc (fun vs H Q E h => ?_) (fun cdv A outer s H vs Q E hr h => ?_)
  · obtain ⟨x, rfl, _⟩ := h
    rfl
  · obtain ⟨x, rfl, xl, k⟩ := h
    have sz : ∀ y : Str, y.length = (tl y).length := fun y => (Array.length_toList).symm
    refine ⟨_, (pss_one (ps_ret (pe_callB (cr_all rfl) (by rfl) ma (by decide +kernel) (pa_cons (pe_lc (own := [("one", 1), ("other", 2)]) (g := gTup K 2 (gCons (gName 1) (gCons (gName 2) gNil))) rfl scAsc.nd (ZX.pi_zipX (by rfl) mz (pa_cons (pv 0) (pa_cons (pe_slice sl_str (pv 0) (po_some pe_int) po_none) pa_nil))) (blkOk_by (N := ["letters", "one", "other"]) (sc := defScope sIsAscending) (by decide +kernel)) (fun _ _ _ _ _ => pg_tup rfl (pgs_cons (pg_name (i := 1) scAsc.nd rfl (.inl rfl)) (pgs_cons (pg_name (i := 2) scAsc.nd rfl (.inl rfl)) pgs_nil))) (fun _ _ _ _ _ => pts_nil) (fun _ _ _ _ _ => (pe_cmpR op_lt_str (pv 1) (pv 2) (nomark _)))) pa_nil)))), ?_⟩
    refine ⟨.str x, rfl, .str x, rfl, 1, rfl, ?_⟩
    unfold tNoPart
    refine ⟨x, rfl, by rw [sz, sizeLine_eq]; omega, x, _, rfl, fun L hL => ?_⟩
    have e1 := cut1 x
    generalize hy : cutS x (some 1) none = y at e1 ⊢
    have xs : x.cps.size = (tl x).length := (Array.length_toList).symm
    have ys : y.cps.size = (tl y).length := (Array.length_toList).symm
    have sL := same_upd (o := .lst []) hL
    refine lc_it ZX.walk_zipX (fun i H' => ∃ bs : List Bool, H' L = some (.lst (bs.map V.bl)) ∧ bs = (((tl x).zip (tl y)).take i).map (fun p => decide (p.1 < p.2)) ∧ Same H H') ⟨[], upd_same, rfl, sL⟩ (fun _ _ _ _ => trivial) ?_ ?_
    · rintro i v G G' hi ⟨bs, gL, be, sm⟩ ⟨T, c, d, rfl, hT, rfl, hc, hd⟩
      have sT := same_upd (o := .tup [.str ⟨#[c]⟩, .str ⟨#[d]⟩]) hT
      have hc' : (tl x)[i]? = some c := by rw [Array.getElem?_toList]; exact hc
      have hd' : (tl y)[i]? = some d := by rw [Array.getElem?_toList]; exact hd
      have hz : ((tl x).zip (tl y))[i]? = some (c, d) := List.getElem?_zip_eq_some.mpr ⟨hc', hd'⟩
      refine ⟨T, _, rfl, SqT.of upd_same, rfl, _, _, rfl, _, _, rfl, rfl, rfl, yes ?_⟩
      refine ⟨_, rfl, _, rfl, _, _, rfl, rfl, _, sT _ _ gL, ?_, bs ++ [decide (c < d)], ?_, ?_, fun b o e => (upd_ne (ne_of_none e hL)).trans ((sm.trans sT) _ _ e)⟩
      · rw [List.length_map, be, List.length_map, List.length_take, sizeLine_eq]
        omega
      · rw [upd_same, List.map_append]
        show some (HO.lst (_ ++ [V.bl (decide ([c] < [d]))])) = _
        rw [lt1]
        rfl
      · rw [be, List.take_add_one, hz, List.map_append]
        rfl
    · rintro G ⟨bs, gL, be, sm⟩
      refine ⟨L, bs, rfl, SqL.of gL, ?_⟩
      have e2 : bs.all id = ascB (tl x) := by
        rw [be, xs, ys, List.take_of_length_le (by rw [List.length_zip]; omega), List.all_map, e1]
        rfl
      rw [e2]
      exact k _ sm
theorem scAlp : FnScope ["thing", "letter"] ["thing"] (defScope sIsAlphabet) := ⟨rfl, rfl, rfl, by decide +kernel, rfl, by decide +kernel, by decide +kernel⟩
theorem ok_alp (D : Df K mg "is_alphabet" sIsAlphabet ["thing"]) (Da0 : Df K mg "is_ascending" sIsAscending ["letters"]) (ma : mg "all" = none) (mz : mg "zip" = none) (mi : mg "isinstance" = none) (ms : mg "str" = none) (ml : mg "len" = none) (mm0 : ∃ t, mg "MOST_LETTERS" = some (.int 3 t)) : FnOk P w K mg base CX0 2 D.f D.fd ["thing"] (spAlp K) := by
  have Ga : FnOk P w K mg base CX0 1 Da0.f Da0.fd ["letters"] spAsc := ok_asc Da0 ma mz
  have mm : ∃ u, mg "MOST_LETTERS" = some u ∧ RelV (.int 3) u := by
    obtain ⟨t, e⟩ := mm0
    exact ⟨_, e, t, rfl⟩
  refine D.F.ok scAlp (fun vs H Q E h => ?_) (fun cdv A outer s H vs Q E hr h => ?_)
  · obtain ⟨x, rfl, _⟩ := h
    rfl
  · obtain ⟨v, rfl, h⟩ := h
    have sz : ∀ y : Str, y.length = (tl y).length := fun y => (Array.length_toList).symm
    refine ⟨_, (pss_cons (ps_if (pw_or (pt_not (pt_val (pe_callB call_isi (by rfl) mi (by decide +kernel) (pa_cons (pv 0) (pa_cons (pe_bltn (v := V.ty "str") (by rfl) ms (by decide +kernel : bootBuiltins "str" = some (.type "str")) rfl) pa_nil))))) (pw_or1 (pt_not (pt_chain op_le op_le pe_int (pe_callB call_len_str (by rfl) ml PySem.boot_len (pa_cons (pv 0) pa_nil)) (C8.pe_gc (by rfl) mm))))).pt (pss_one (ps_ret pe_bl)) pss_nil) (pss_one (ps_ret (pe_and (pe_callB (cr_all rfl) (by rfl) ma (by decide +kernel) (pa_cons (pe_lc (own := [("letter", 1)]) (g := gName 1) rfl scAlp.nd (pi_str (pv 0)) (blkOk_by (N := ["thing", "letter"]) (sc := defScope sIsAlphabet) (by decide +kernel)) (fun _ _ _ _ _ => pg_name (i := 1) scAlp.nd rfl (Or.inl rfl)) (fun _ _ _ _ _ => pts_nil) (fun _ _ _ _ _ => (pe_chain op_le_str op_le_str pe_str (pv 1) pe_str))) pa_nil)) (pe_one (pe_call Ga hr (by rfl) Da0.g Da0.F.kp Da0.b .nil pass0 (pa_cons (pv 0) pa_nil))))))), ?_⟩
    rcases h with ⟨x, rfl, xl, k⟩ | ⟨⟨t, ty, kt⟩, k⟩
    · have xs : x.cps.size = (tl x).length := (Array.length_toList).symm
      refine ⟨.str x, rfl, _, _, _, _, true, rfl, .ty "str", .base (.str x), isi_kit, true, rfl, ?_⟩
      refine iteF ?_
      refine ⟨.str x, rfl, x, rfl, by rw [sz, sizeLine_eq]; omega, 1, _, rfl, rfl, _, rfl, ?_⟩
      refine ite2 (fun e1 => ?_) (fun e1 => ?_)
      · have e1' : 1 ≤ (tl x).length := by
          have := of_decide_eq_true e1
          rw [sz] at this
          omega
        refine ⟨_, 3, rfl, rfl, _, rfl, ?_⟩
        refine ite2 (fun e2 => ?_) (fun e2 => ?_)
        · have e2' : ¬ (tl x).length ≤ 3 := by
            rw [sz] at e2
            simp at e2
            omega
          have q := k _ (Same.refl H)
          rw [show alphB (tl x) = false by unfold alphB; rw [decide_eq_false e2']; simp] at q
          exact q
        · have e2' : (tl x).length ≤ 3 := by
            rw [sz] at e2
            simp at e2
            omega
          have ea : alphB (tl x) = ((tl x).all lowB && ascB (tl x)) := by
            unfold alphB
            rw [decide_eq_true e1', decide_eq_true e2']
            rfl
          rw [ea] at k
          refine ⟨.str x, rfl, x, rfl, fun L hL => ?_⟩
          have sL := same_upd (o := .lst []) hL
          refine lc_it walk_str (fun i H' => ∃ bs : List Bool, H' L = some (.lst (bs.map V.bl)) ∧ bs = ((tl x).take i).map lowB ∧ Same H H') ⟨[], upd_same, rfl, sL⟩ (fun _ _ _ _ => trivial) ?_ ?_
          · rintro i v G G' hi ⟨bs, gL, be, sm⟩ ⟨rfl, c, hc, rfl⟩
            have hc' : (tl x)[i]? = some c := by rw [Array.getElem?_toList]; exact hc
            refine ⟨rfl, yes ?_⟩
            have fin : ∀ G2 : Hp, G2 = G' → ∃ acc, G2 L = some (.lst acc) ∧ acc.length < sizeLine ∧ ∃ bs : List Bool, (upd G2 L (.lst (acc ++ [V.bl (lowB c)]))) L = some (.lst (bs.map V.bl)) ∧ bs = ((tl x).take (i + 1)).map lowB ∧ Same H (upd G2 L (.lst (acc ++ [V.bl (lowB c)]))) := by
              rintro G2 rfl
              refine ⟨_, gL, ?_, bs ++ [lowB c], ?_, ?_, fun b o e => (upd_ne (ne_of_none e hL)).trans (sm _ _ e)⟩
              · rw [List.length_map, be, List.length_map, List.length_take, sizeLine_eq]
                omega
              · rw [upd_same, List.map_append]
                rfl
              · rw [be, List.take_add_one, hc', List.map_append]
                rfl
            have le := low_eq c
            refine ⟨_, rfl, _, _, rfl, rfl, _, rfl, ?_⟩
            refine ite2 (fun e3 => ?_) (fun e3 => ?_)
            · rw [show (!decide (([c] : List Nat) < [97])) = true from e3, if_pos rfl] at le
              refine ⟨_, _, rfl, rfl, ?_⟩
              have q := fin _ rfl
              rw [← le] at q
              exact q
            · rw [if_neg (show ¬ (!decide (([c] : List Nat) < [97])) = true from e3)] at le
              have q := fin _ rfl
              rw [← le] at q
              exact q
          · rintro G ⟨bs, gL, be, sm⟩
            refine ⟨L, bs, rfl, SqL.of gL, _, rfl, ?_⟩
            have e2 : bs.all id = (tl x).all lowB := by
              rw [be, xs, List.take_length, List.all_map]
              rfl
            rw [e2]
            refine ite2 (fun e3 => ?_) (fun e3 => ?_)
            · refine ⟨.str x, rfl, x, rfl, xl, fun H' s' => ?_⟩
              have q := k _ (sm.trans s')
              rw [e3] at q
              exact q
            · have q := k _ sm
              have e3' : (tl x).all lowB = false := by simpa using e3
              rw [e3'] at q
              exact q
      · have e1' : ¬ 1 ≤ (tl x).length := by
          intro h
          exact e1 (decide_eq_true (by rw [sz]; omega))
        have q := k _ (Same.refl H)
        rw [show alphB (tl x) = false by unfold alphB; rw [decide_eq_false e1']; rfl] at q
        exact ⟨_, rfl, q⟩
    · refine ⟨v, rfl, _, _, _, _, false, rfl, .ty "str", ty, kt, false, rfl, ?_⟩
      exact k _ (Same.refl H)
end
end DW
/-! is_symbol, symbols_among -/
namespace DW
open PySem PySem.Spec PyProof.Rows L2 TL
set_option autoImplicit false
/-- a capital letter -/
def symB (c : Nat) : Bool := decide (65 ≤ c) && decide (c ≤ 90)
theorem sym_eq (c : Nat) : (if (!decide (([c] : List Nat) < [65])) = true then !decide (([90] : List Nat) < [c]) else false) = symB c := by
  rw [lt1, lt1]
  unfold symB
  by_cases h : c < 65
  · rw [decide_eq_true h]
    simp
    omega
  · rw [decide_eq_false h]
    simp
    by_cases g : 90 < c
    · rw [decide_eq_true g, decide_eq_true (by omega : 65 ≤ c), decide_eq_false (by omega : ¬ c ≤ 90)]
      rfl
    · rw [decide_eq_false g, decide_eq_true (by omega : 65 ≤ c), decide_eq_true (by omega : c ≤ 90)]
      rfl
def spSym : Sp := fun vs H Q _ => ∃ c : Nat, vs = [.str ⟨#[c]⟩] ∧ Q (.bl (symB c)) H
section
variable {P : Program} {w : World} {K : PySem.W.Frag} {mg : Str → Option Value} {base : Heap}
theorem scSym : FnScope ["item"] ["item"] (defScope sIsSymbol) := ⟨rfl, rfl, rfl, by decide +kernel, rfl, by decide +kernel, by decide +kernel⟩
theorem ok_sym (D : Df K mg "is_symbol" sIsSymbol ["item"]) : FnOk P w K mg base CX0 1 D.f D.fd ["item"] spSym := by
  refine D.F.ok scSym (fun vs H Q E h => ?_) (fun cdv A outer s H vs Q E hr h => ?_)
  · obtain ⟨c, rfl, _⟩ := h
    rfl
  · obtain ⟨c, rfl, k⟩ := h
    refine ⟨_, pss_one (ps_ret (pe_chain op_le_str op_le_str pe_str (pv 0) pe_str)), ?_⟩
    have le := sym_eq c
    refine ⟨.str ⟨#[c]⟩, rfl, _, _, rfl, rfl, _, rfl, ?_⟩
    refine ite2 (fun e3 => ?_) (fun e3 => ?_)
    · rw [show (!decide (([c] : List Nat) < [65])) = true from e3, if_pos rfl] at le
      refine ⟨_, _, rfl, rfl, ?_⟩
      rw [← le] at k
      exact k
    · rw [if_neg (show ¬ (!decide (([c] : List Nat) < [65])) = true from e3)] at le
      rw [← le] at k
      exact k
end
end DW
/-! symbols_among -/
namespace DW
open PySem PySem.Spec PyProof.Rows L2 TL
set_option autoImplicit false
def spSa : Sp := fun vs H Q _ => ∃ x : Str, vs = [.str x] ∧ (tl x).length ≤ 100000 ∧ ∀ H' q (ys : List Str), Same H H' → H' q = some (.lst (ys.map V.str)) → ys.Nodup → (∀ y, y ∈ ys ↔ ∃ c ∈ tl x, symB c = true ∧ y = ⟨#[c]⟩) → Q (.ref q) H'
theorem u16s {k : Nat} {A : Around} (hr : Room k A) : A.units + 16 < cLine := by
  have := hr.un
  omega
def syms : List Str := (List.range 26).map fun k => ⟨#[65 + k]⟩
theorem syms_all {c : Nat} (h : symB c = true) : (⟨#[c]⟩ : Str) ∈ syms := by
  unfold symB at h
  rw [Bool.and_eq_true] at h
  have h1 := of_decide_eq_true h.1
  have h2 := of_decide_eq_true h.2
  exact List.mem_map.mpr ⟨c - 65, List.mem_range.mpr (by omega), by rw [show 65 + (c - 65) = c by omega]⟩
theorem nodup_lenS {α : Type} [DecidableEq α] : ∀ (l m : List α), l.Nodup → (∀ x ∈ l, x ∈ m) → l.length ≤ m.length
  | [], _, _, _ => Nat.zero_le _
  | a :: l, m, nd, h => by
    obtain ⟨na, nd⟩ := List.nodup_cons.mp nd
    have hm := h a List.mem_cons_self
    have q := nodup_lenS l (m.erase a) nd fun x hx => (List.mem_erase_of_ne (by intro e; subst e; exact na hx)).mpr (h x (List.mem_cons_of_mem _ hx))
    rw [List.length_erase_of_mem hm] at q
    have := List.length_pos_of_mem hm
    rw [List.length_cons]
    omega
section
variable {P : Program} {w : World} {K : PySem.W.Frag} {mg : Str → Option Value} {base : Heap}
theorem scSa : FnScope ["items", "item"] ["items"] (defScope sSymbolsAmong) := ⟨rfl, rfl, rfl, by decide +kernel, rfl, by decide +kernel, by decide +kernel⟩
theorem ok_sa (D : Df K mg "symbols_among" sSymbolsAmong ["items"]) (Ds0 : Df K mg "is_symbol" sIsSymbol ["item"]) (ms : mg "sorted" = none) : FnOk P w K mg base CX0 2 D.f D.fd ["items"] spSa := by
  have Gs : FnOk P w K mg base CX0 1 Ds0.f Ds0.fd ["item"] spSym := ok_sym Ds0
  refine D.F.ok scSa (fun vs H Q E h => ?_) (fun cdv A outer s H vs Q E hr h => ?_)
  · obtain ⟨x, rfl, _⟩ := h
    rfl
  · obtain ⟨x, rfl, xl, k⟩ := h
    have hr1 := hr
    refine ⟨_, (pss_one (ps_ret (pe_callB (TX.cr_sortTx rfl) (by rfl) ms (by decide +kernel) (pa_cons (NSet.pe_sc (own := [("item", 1)]) (g := gName 1) (NSet.adds_Tx _ _ _) (NSet.setTx_fresh _ _) (u16s hr) rfl scSa.nd (pi_str (pv 0)) (blkOk_by (N := ["items", "item"]) (sc := defScope sSymbolsAmong) (by decide +kernel)) (fun _ _ _ _ _ => pg_name (i := 1) scSa.nd rfl (Or.inl rfl)) (fun _ _ _ _ _ => (pts_one (pt_val (pe_call Gs hr1 (by rfl) Ds0.g Ds0.F.kp Ds0.b .nil pass0 (pa_cons (pv 1) pa_nil))))) (fun _ _ _ _ _ => (pv 1))) pa_nil)))), ?_⟩
    refine ⟨.str x, rfl, x, rfl, fun D1 hD1 => ?_⟩
    have xs : x.cps.size = (tl x).length := (Array.length_toList).symm
    refine NSet.sc_it (so := fun D => TX.SetTx P w D []) (put := NSet.putTx P w) walk_str (fun i H' => ∃ l : List Str, H' D1 = some (TX.SetTx P w D1 l) ∧ l.Nodup ∧ (∀ y, y ∈ l ↔ ∃ c ∈ (tl x).take i, symB c = true ∧ y = ⟨#[c]⟩) ∧ Same H H') ⟨[], upd_same, List.nodup_nil, fun y => ⟨fun h => (nomatch h), fun ⟨c, hc, _⟩ => (nomatch hc)⟩, same_upd hD1⟩ (fun _ _ _ _ => trivial) ?_ ?_
    · rintro i v G G' hi ⟨l, gD, nd, mem, sm⟩ ⟨rfl, c, hc, rfl⟩
      have hc' : (tl x)[i]? = some c := by rw [Array.getElem?_toList]; exact hc
      have tk : (tl x).take (i + 1) = (tl x).take i ++ [c] := by rw [List.take_add_one, hc']; rfl
      refine ⟨rfl, .str ⟨#[c]⟩, rfl, c, rfl, _, rfl, ?_⟩
      have small : l.length ≤ 26 := nodup_lenS l syms nd fun y hy => by
        obtain ⟨c', _, h, rfl⟩ := (mem y).mp hy
        exact syms_all h
      cases e : symB c with
      | false =>
        refine iteF ⟨l, gD, nd, fun y => ?_, sm⟩
        rw [mem y, tk]
        constructor
        · rintro ⟨d, hd, h⟩
          exact ⟨d, List.mem_append_left _ hd, h⟩
        · rintro ⟨d, hd, h1, h2⟩
          rcases List.mem_append.mp hd with q | q
          · exact ⟨d, q, h1, h2⟩
          · rw [List.mem_singleton.mp q, e] at h1
            cases h1
      | true =>
        refine iteT ⟨.str ⟨#[c]⟩, rfl, ⟨#[c]⟩, l, rfl, gD, Nat.lt_of_le_of_lt (show l.length + 1 ≤ 27 by omega) (by decide), fun hin => ⟨l, gD, nd, fun y => ?_, sm⟩, fun hout => ⟨⟨#[c]⟩ :: l, upd_same, List.nodup_cons.mpr ⟨hout, nd⟩, fun y => ?_, fun b o h => (upd_ne (fun q => by rw [q, hD1] at h; cases h)).trans (sm b o h)⟩⟩
        · rw [tk]
          constructor
          · intro hy
            obtain ⟨d, hd, h⟩ := (mem y).mp hy
            exact ⟨d, List.mem_append_left _ hd, h⟩
          · rintro ⟨d, hd, h1, h2⟩
            rcases List.mem_append.mp hd with q | q
            · exact (mem y).mpr ⟨d, q, h1, h2⟩
            · rw [h2, List.mem_singleton.mp q]
              exact hin
        · rw [tk]
          constructor
          · intro hy
            rcases List.mem_cons.mp hy with rfl | hy
            · exact ⟨c, List.mem_append_right _ List.mem_cons_self, e, rfl⟩
            · obtain ⟨d, hd, h⟩ := (mem y).mp hy
              exact ⟨d, List.mem_append_left _ hd, h⟩
          · rintro ⟨d, hd, h1, h2⟩
            rcases List.mem_append.mp hd with q | q
            · exact List.mem_cons_of_mem _ ((mem y).mpr ⟨d, q, h1, h2⟩)
            · rw [h2, List.mem_singleton.mp q]
              exact List.mem_cons_self
    · rintro G ⟨l, gD, nd, mem, sm⟩
      have small : l.length ≤ 26 := nodup_lenS l syms nd fun y hy => by
        obtain ⟨c', _, h, rfl⟩ := (mem y).mp hy
        exact syms_all h
      rw [xs, List.take_length] at mem
      refine ⟨D1, l, rfl, gD, by omega, fun ys p pm so hp => ?_⟩
      exact k _ p ys (sm.trans (same_upd hp)) upd_same (pm.nodup_iff.mpr nd) (fun y => (pm.mem_iff).trans (mem y))
end
end DW
/-! is_production of any object -/
namespace DW
open PySem PySem.Spec PyProof.Rows L2 TL
set_option autoImplicit false
theorem sqT_ty {K : PySem.W.Frag} {H : Hp} {a : Addr} {xs : List V} (h : SqT K H a xs) : TyX K H (.ref a) (.type "tuple") := by
  rcases h with (h | ⟨o, h⟩) | ⟨o, its, n, h, c, _⟩
  · exact .base (.tup h)
  · exact .fTuple h
  · exact .kTuple h c
theorem tup_kit {K : PySem.W.Frag} : PySem.W.kitOne K (.type "tuple") (.type "tuple") = some true := kit_ty (by decide +kernel)
/-- not a tuple -/
def NoT (K : PySem.W.Frag) (H : Hp) (v : V) : Prop := ∃ t, TyX K H v t ∧ PySem.W.kitOne K t (.type "tuple") = some false
/-- the right side of a production -/
def rightB (z : Str) (y : Str) : Bool := decide ((tl y).length ≤ 3) && (tl y).all fun c => symB c || decide (c ∈ tl z)
/-- is it a production -/
inductive PdB (K : PySem.W.Frag) (H : Hp) (z : Str) : V → Bool → Prop where
  | no {v : V} (h : NoT K H v) : PdB K H z v false
  | len {a : Addr} {xs : List V} (h : SqT K H a xs) (n : xs.length ≠ 2) : PdB K H z (.ref a) false
  | nos {a : Addr} {s y : V} (h : SqT K H a [s, y]) (n : NoS K H s) : PdB K H z (.ref a) false
  | slen {a : Addr} {s : Str} {y : V} (h : SqT K H a [.str s, y]) (n : (tl s).length ≠ 1) (l : (tl s).length ≤ 100000) : PdB K H z (.ref a) false
  | ssym {a : Addr} {c : Nat} {y : V} (h : SqT K H a [.str ⟨#[c]⟩, y]) (n : symB c = false) : PdB K H z (.ref a) false
  | ino {a : Addr} {c : Nat} {y : V} (h : SqT K H a [.str ⟨#[c]⟩, y]) (s : symB c = true) (n : NoS K H y) : PdB K H z (.ref a) false
  | ok {a : Addr} {c : Nat} {y : Str} (h : SqT K H a [.str ⟨#[c]⟩, .str y]) (s : symB c = true) (l : (tl y).length ≤ 100000) : PdB K H z (.ref a) (rightB z y)
def spPd (K : PySem.W.Frag) : Sp := fun vs H Q _ => ∃ (z : Str) (v : V) (b : Bool), vs = [.str z, v] ∧ (tl z).length ≤ 100000 ∧ PdB K H z v b ∧ ∀ H', Same H H' → Q (.bl b) H'
section
variable {P : Program} {w : World} {K : PySem.W.Frag} {mg : Str → Option Value} {base : Heap}
theorem scPd : FnScope ["alphabet", "thing", "symbol", "items", "item"] ["alphabet", "thing"] (defScope sIsProduction) := ⟨rfl, rfl, rfl, by decide +kernel, rfl, by decide +kernel, by decide +kernel⟩
theorem ok_pd (D : Df K mg "is_production" sIsProduction ["alphabet", "thing"]) (Ds0 : Df K mg "is_symbol" sIsSymbol ["item"]) (ma : mg "all" = none) (mi : mg "isinstance" = none) (mstr : mg "str" = none) (mt : mg "tuple" = none) (ml : mg "len" = none) (m3 : ∃ t, mg "MOST_ITEMS" = some (.int 3 t)) : FnOk P w K mg base CX0 2 D.f D.fd ["alphabet", "thing"] (spPd K) := by
  have Gs : FnOk P w K mg base CX0 1 Ds0.f Ds0.fd ["item"] spSym := ok_sym Ds0
  have mi3 : ∃ u, mg "MOST_ITEMS" = some u ∧ RelV (.int 3) u := by
    obtain ⟨t, e⟩ := m3
    exact ⟨_, e, t, rfl⟩
  refine D.F.ok scPd (fun vs H Q E h => ?_) (fun cdv A outer s H vs Q E hr h => ?_)
  · obtain ⟨z, v, b, rfl, _⟩ := h
    rfl
  · obtain ⟨z, v, b, rfl, zl, pd, k⟩ := h
    have hr1 := hr
    have sz : ∀ y : Str, y.length = (tl y).length := fun y => (Array.length_toList).symm
    refine ⟨_, (pss_cons (ps_if (pw_or (pt_not (pt_val (pe_callB call_isi (by rfl) mi (by decide +kernel) (pa_cons (pv 1) (pa_cons (pe_bltn (v := V.ty "tuple") (by rfl) mt (by decide +kernel : bootBuiltins "tuple" = some (.type "tuple")) rfl) pa_nil))))) (pw_or1 (pt_cmpR op_ne (pe_callB call_len_seq (by rfl) ml PySem.boot_len (pa_cons (pv 1) pa_nil)) pe_int (nomark _)))).pt (pss_one (ps_ret pe_bl)) pss_nil) (pss_cons (ps_asg (pv 1) (pg_tup rfl (pgs_cons (pg_name (i := 2) scPd.nd rfl (.inl rfl)) (pgs_cons (pg_name (i := 3) scPd.nd rfl (.inl rfl)) pgs_nil)))) (pss_cons (ps_if (pw_or (pt_not (pt_val (pe_callB call_isi (by rfl) mi (by decide +kernel) (pa_cons (pv 2) (pa_cons (pe_bltn (v := V.ty "str") (by rfl) mstr (by decide +kernel : bootBuiltins "str" = some (.type "str")) rfl) pa_nil))))) (pw_or (pt_cmpR op_ne (pe_callB call_len_str (by rfl) ml PySem.boot_len (pa_cons (pv 2) pa_nil)) pe_int (nomark _)) (pw_or1 (pt_not (pt_val (pe_call Gs hr1 (by rfl) Ds0.g Ds0.F.kp Ds0.b .nil pass0 (pa_cons (pv 2) pa_nil))))))).pt (pss_one (ps_ret pe_bl)) pss_nil) (pss_cons (ps_if (pw_or (pt_not (pt_val (pe_callB call_isi (by rfl) mi (by decide +kernel) (pa_cons (pv 3) (pa_cons (pe_bltn (v := V.ty "str") (by rfl) mstr (by decide +kernel : bootBuiltins "str" = some (.type "str")) rfl) pa_nil))))) (pw_or1 (pt_cmpR op_gt (pe_callB call_len_str (by rfl) ml PySem.boot_len (pa_cons (pv 3) pa_nil)) (C8.pe_gc (by rfl) mi3) (nomark _)))).pt (pss_one (ps_ret pe_bl)) pss_nil) (pss_one (ps_ret (pe_callB (cr_all rfl) (by rfl) ma (by decide +kernel) (pa_cons (pe_lc (own := [("item", 4)]) (g := gName 4) rfl scPd.nd (pi_str (pv 3)) (blkOk_by (N := ["alphabet", "thing", "symbol", "items", "item"]) (sc := defScope sIsProduction) (by decide +kernel)) (fun _ _ _ _ _ => pg_name (i := 4) scPd.nd rfl (Or.inl rfl)) (fun _ _ _ _ _ => pts_nil) (fun _ _ _ _ _ => (pe_or (pe_call Gs hr1 (by rfl) Ds0.g Ds0.F.kp Ds0.b .nil pass0 (pa_cons (pv 4) pa_nil)) (pe_one (pe_cmpR op_in_sign (pv 4) (pv 0) rfl))))) pa_nil)))))))), ?_⟩
    have two : ∀ {a : Addr} {s y : V}, SqT K H a [s, y] → True := fun _ => trivial
    cases pd with
    | no h =>
      obtain ⟨t, ty, kt⟩ := h
      exact ⟨v, rfl, _, _, _, _, false, rfl, .ty "tuple", ty, kt, false, rfl, iteT (k _ (Same.refl _))⟩
    | @len a xs h n =>
      refine ⟨.ref a, rfl, _, _, _, _, true, rfl, .ty "tuple", sqT_ty h, tup_kit, true, rfl, iteF ?_⟩
      refine ⟨.ref a, rfl, a, _, rfl, .inr h, rfl, _, rfl, ?_⟩
      rw [show (!decide (V.int (xs.length : Int) = V.int 2)) = true by
        rw [decide_eq_false fun e => by
          have := V.int.inj e
          omega]
        rfl]
      exact iteT (k _ (Same.refl _))
    | @nos a s y h n =>
      refine ⟨.ref a, rfl, _, _, _, _, true, rfl, .ty "tuple", sqT_ty h, tup_kit, true, rfl, iteF ?_⟩
      refine ⟨.ref a, rfl, a, _, rfl, .inr h, rfl, _, rfl, iteF ?_⟩
      refine ⟨.ref a, rfl, a, _, rfl, h, rfl, _, _, rfl, _, _, rfl, rfl, ?_⟩
      obtain ⟨t, ty, kt⟩ := n
      exact ⟨s, rfl, _, _, _, _, false, rfl, .ty "str", ty, kt, false, rfl, iteT (k _ (Same.refl _))⟩
    | @slen a s y h n l =>
      refine ⟨.ref a, rfl, _, _, _, _, true, rfl, .ty "tuple", sqT_ty h, tup_kit, true, rfl, iteF ?_⟩
      refine ⟨.ref a, rfl, a, _, rfl, .inr h, rfl, _, rfl, iteF ?_⟩
      refine ⟨.ref a, rfl, a, _, rfl, h, rfl, _, _, rfl, _, _, rfl, rfl, ?_⟩
      refine ⟨.str s, rfl, _, _, _, _, true, rfl, .ty "str", .base (.str s), isi_kit, true, rfl, iteF ?_⟩
      refine ⟨.str s, rfl, s, rfl, by rw [sz, sizeLine_eq]; omega, rfl, _, rfl, ?_⟩
      rw [show (!decide (V.int (s.length : Int) = V.int 1)) = true by
        rw [decide_eq_false fun e => by
          have := V.int.inj e
          rw [sz] at this
          omega]
        rfl]
      exact iteT (k _ (Same.refl _))
    | @ssym a c y h n =>
      refine ⟨.ref a, rfl, _, _, _, _, true, rfl, .ty "tuple", sqT_ty h, tup_kit, true, rfl, iteF ?_⟩
      refine ⟨.ref a, rfl, a, _, rfl, .inr h, rfl, _, rfl, iteF ?_⟩
      refine ⟨.ref a, rfl, a, _, rfl, h, rfl, _, _, rfl, _, _, rfl, rfl, ?_⟩
      refine ⟨.str ⟨#[c]⟩, rfl, _, _, _, _, true, rfl, .ty "str", .base (.str _), isi_kit, true, rfl, iteF ?_⟩
      refine ⟨.str ⟨#[c]⟩, rfl, ⟨#[c]⟩, rfl, by show 1 ≤ sizeLine; decide, rfl, _, rfl, iteF ?_⟩
      refine ⟨.str ⟨#[c]⟩, rfl, c, rfl, _, rfl, ?_⟩
      rw [n]
      exact iteT (k _ (Same.refl _))
    | @ino a c y h s n =>
      refine ⟨.ref a, rfl, _, _, _, _, true, rfl, .ty "tuple", sqT_ty h, tup_kit, true, rfl, iteF ?_⟩
      refine ⟨.ref a, rfl, a, _, rfl, .inr h, rfl, _, rfl, iteF ?_⟩
      refine ⟨.ref a, rfl, a, _, rfl, h, rfl, _, _, rfl, _, _, rfl, rfl, ?_⟩
      refine ⟨.str ⟨#[c]⟩, rfl, _, _, _, _, true, rfl, .ty "str", .base (.str _), isi_kit, true, rfl, iteF ?_⟩
      refine ⟨.str ⟨#[c]⟩, rfl, ⟨#[c]⟩, rfl, by show 1 ≤ sizeLine; decide, rfl, _, rfl, iteF ?_⟩
      refine ⟨.str ⟨#[c]⟩, rfl, c, rfl, _, rfl, ?_⟩
      rw [s]
      refine iteF ?_
      obtain ⟨t, ty, kt⟩ := n
      exact ⟨y, rfl, _, _, _, _, false, rfl, .ty "str", ty, kt, false, rfl, iteT (k _ (Same.refl _))⟩
    | @ok a c y h s l =>
      refine ⟨.ref a, rfl, _, _, _, _, true, rfl, .ty "tuple", sqT_ty h, tup_kit, true, rfl, iteF ?_⟩
      refine ⟨.ref a, rfl, a, _, rfl, .inr h, rfl, _, rfl, iteF ?_⟩
      refine ⟨.ref a, rfl, a, _, rfl, h, rfl, _, _, rfl, _, _, rfl, rfl, ?_⟩
      refine ⟨.str ⟨#[c]⟩, rfl, _, _, _, _, true, rfl, .ty "str", .base (.str _), isi_kit, true, rfl, iteF ?_⟩
      refine ⟨.str ⟨#[c]⟩, rfl, ⟨#[c]⟩, rfl, by show 1 ≤ sizeLine; decide, rfl, _, rfl, iteF ?_⟩
      refine ⟨.str ⟨#[c]⟩, rfl, c, rfl, _, rfl, ?_⟩
      rw [s]
      refine iteF ?_
      refine ⟨.str y, rfl, _, _, _, _, true, rfl, .ty "str", .base (.str y), isi_kit, true, rfl, iteF ?_⟩
      refine ⟨.str y, rfl, y, rfl, by rw [sz, sizeLine_eq]; omega, _, 3, rfl, rfl, _, rfl, ite2 (fun e1 => ?_) (fun e1 => ?_)⟩
      · have e1' : ¬ (tl y).length ≤ 3 := by
          have := of_decide_eq_true e1
          rw [sz] at this
          omega
        have q := k _ (Same.refl H)
        rw [show rightB z y = false by unfold rightB; rw [decide_eq_false e1']; rfl] at q
        exact q
      · have e1' : (tl y).length ≤ 3 := by
          have q : ¬ (3 : Int) < (y.length : Int) := fun h => e1 (decide_eq_true h)
          rw [sz] at q
          omega
        have ea : rightB z y = (tl y).all fun c => symB c || decide (c ∈ tl z) := by
          unfold rightB
          rw [decide_eq_true e1']
          rfl
        rw [ea] at k
        have xs : y.cps.size = (tl y).length := (Array.length_toList).symm
        refine ⟨.str y, rfl, y, rfl, fun L hL => ?_⟩
        have sL := same_upd (o := .lst []) hL
        refine lc_it walk_str (fun i H' => ∃ bs : List Bool, H' L = some (.lst (bs.map V.bl)) ∧ bs = ((tl y).take i).map (fun c => symB c || decide (c ∈ tl z)) ∧ Same H H') ⟨[], upd_same, rfl, sL⟩ (fun _ _ _ _ => trivial) ?_ ?_
        · rintro i v G G' hi ⟨bs, gL, be, sm⟩ ⟨rfl, d, hd, rfl⟩
          have hd' : (tl y)[i]? = some d := by rw [Array.getElem?_toList]; exact hd
          refine ⟨rfl, yes ?_⟩
          have fin : ∀ b : Bool, b = (symB d || decide (d ∈ tl z)) → ∃ acc, G' L = some (.lst acc) ∧ acc.length < sizeLine ∧ ∃ bs : List Bool, (upd G' L (.lst (acc ++ [V.bl b]))) L = some (.lst (bs.map V.bl)) ∧ bs = ((tl y).take (i + 1)).map (fun c => symB c || decide (c ∈ tl z)) ∧ Same H (upd G' L (.lst (acc ++ [V.bl b]))) := by
            rintro b rfl
            refine ⟨_, gL, ?_, bs ++ [symB d || decide (d ∈ tl z)], ?_, ?_, fun b o e => (upd_ne (ne_of_none e hL)).trans (sm _ _ e)⟩
            · rw [List.length_map, be, List.length_map, List.length_take, sizeLine_eq]
              omega
            · rw [upd_same, List.map_append]
              rfl
            · rw [be, List.take_add_one, hd', List.map_append]
              rfl
          refine ⟨.str ⟨#[d]⟩, rfl, d, rfl, _, rfl, ?_⟩
          cases e : symB d with
          | true => exact iteT (fin true (by rw [e]; rfl))
          | false => exact iteF ⟨.str ⟨#[d]⟩, rfl, .str z, rfl, d, z, rfl, rfl, fin _ (by rw [e]; rfl)⟩
        · rintro G ⟨bs, gL, be, sm⟩
          refine ⟨L, bs, rfl, SqL.of gL, ?_⟩
          have e2 : bs.all id = (tl y).all fun c => symB c || decide (c ∈ tl z) := by
            rw [be, xs, List.take_length, List.all_map]
            rfl
          rw [e2]
          exact k _ sm
end
end DW
/-! k62: how many symbols stand in the productions -/
namespace DW
open PySem PySem.Spec PyProof.Rows L2 TL
set_option autoImplicit false
/-- the characters of productions, one behind the other -/
def chs (ps : List (Nat × Str)) : List Nat := ps.flatMap fun p => p.1 :: tl p.2
theorem chs_app (a b : List (Nat × Str)) : chs (a ++ b) = chs a ++ chs b := by
  unfold chs
  rw [List.flatMap_append]
theorem chs_one (c : Nat) (y : Str) : chs [(c, y)] = c :: tl y := by
  unfold chs
  rw [List.flatMap_cons, List.flatMap_nil, List.append_nil]
/-- how many capital letters stand in a list of letters -/
def nsym (l : List Nat) : Nat := ((List.range 26).filter fun k => decide (65 + k ∈ l)).length
theorem one_inj {a b : Nat} (h : (⟨#[a]⟩ : Str) = ⟨#[b]⟩) : a = b := by
  have e := congrArg (fun s : Str => s.cps.toList) h
  exact (List.cons.inj e).1
theorem nodup_one : ∀ {l : List Nat}, l.Nodup → (l.map fun k => (⟨#[65 + k]⟩ : Str)).Nodup
  | [], _ => List.nodup_nil
  | a :: r, h => by
    obtain ⟨n, nd⟩ := List.nodup_cons.mp h
    rw [List.map_cons]
    refine List.nodup_cons.mpr ⟨fun m => ?_, nodup_one nd⟩
    obtain ⟨k, hk, e⟩ := List.mem_map.mp m
    have := one_inj e
    exact n (by rw [show a = k by omega]; exact hk)
theorem nsym_len {x : Str} {ys : List Str} (nd : ys.Nodup) (mem : ∀ y, y ∈ ys ↔ ∃ c ∈ tl x, symB c = true ∧ y = ⟨#[c]⟩) : ys.length = nsym (tl x) := by
  have T := fun y : Str => (List.mem_map (f := fun k : Nat => (⟨#[65 + k]⟩ : Str)) (b := y) (l := (List.range 26).filter fun k => decide (65 + k ∈ tl x)))
  have len : nsym (tl x) = (((List.range 26).filter fun k => decide (65 + k ∈ tl x)).map fun k => (⟨#[65 + k]⟩ : Str)).length := (List.length_map _).symm
  rw [len]
  apply Nat.le_antisymm
  · refine nodup_lenS _ _ nd fun y hy => (T y).mpr ?_
    obtain ⟨c, hc, s, rfl⟩ := (mem y).mp hy
    unfold symB at s
    rw [Bool.and_eq_true] at s
    have h1 := of_decide_eq_true s.1
    have h2 := of_decide_eq_true s.2
    refine ⟨c - 65, List.mem_filter.mpr ⟨List.mem_range.mpr (by omega), decide_eq_true (by rw [show 65 + (c - 65) = c by omega]; exact hc)⟩, by rw [show 65 + (c - 65) = c by omega]⟩
  · refine nodup_lenS _ _ (nodup_one (List.nodup_range.sublist List.filter_sublist)) fun y hy => (mem y).mpr ?_
    obtain ⟨k, hk, rfl⟩ := (T y).mp hy
    obtain ⟨h1, h2⟩ := List.mem_filter.mp hk
    have := List.mem_range.mp h1
    exact ⟨65 + k, of_decide_eq_true h2, by unfold symB; rw [decide_eq_true (by omega : 65 ≤ 65 + k), decide_eq_true (by omega : 65 + k ≤ 90)]; rfl, rfl⟩
theorem nsym_mono {a b : List Nat} (h : ∀ c ∈ a, c ∈ b) : nsym a ≤ nsym b := by
  unfold nsym
  refine nodup_lenS _ _ (List.nodup_range.sublist List.filter_sublist) fun k hk => ?_
  obtain ⟨h1, h2⟩ := List.mem_filter.mp hk
  exact List.mem_filter.mpr ⟨h1, decide_eq_true (h _ (of_decide_eq_true h2))⟩
end DW
/-! class Grammar: made, or refused -/
namespace DW
open PySem PySem.Spec PyProof.Rows L2 TL
set_option autoImplicit false
def clsBody (s : Stmt) : List Stmt := match s with
  | .ClassDef _ _ _ b _ _ _ _ _ _ _ => b
  | _ => []
def clsS (i j : Nat) : Stmt := (clsBody (topS i)).getD j (.Pass ⟨0, 0, 0, 0⟩)
abbrev sGrInit : Stmt := clsS 15 0
/-- a method as the top has made it -/
structure DfM (K : PySem.W.Frag) (C : Addr) (x q : Str) (st : Stmt) (ps : List Str) where
  f : Addr
  fd : FuncData
  F : FunD K x q (defArgs st) (defBody st) (defScope st) [] [] f fd
  b : Binds K fd ps []
/-- the class -/
structure DfG (K : PySem.W.Frag) (mg : Str → Option Value) where
  C : Addr
  g : mg "Grammar" = some (.ref C)
  cl : Cls K C
  nB : NoAttr K C "base"
  nR : NoAttr K C "rules"
  nO : NoAttr K C "occurring"
  i : DfM K C "__init__" "Grammar.__init__" sGrInit ["self", "alphabet", "productions"]
  mkr : Mk K C i.f
structure DfGr (K : PySem.W.Frag) (mg : Str → Option Value) extends DfG K mg where
  al : Df K mg "is_alphabet" sIsAlphabet ["thing"]
  as : Df K mg "is_ascending" sIsAscending ["letters"]
  pd : Df K mg "is_production" sIsProduction ["alphabet", "thing"]
  sy : Df K mg "is_symbol" sIsSymbol ["item"]
  sa : Df K mg "symbols_among" sSymbolsAmong ["items"]
  ma : mg "all" = none
  mz : mg "zip" = none
  mi : mg "isinstance" = none
  ms : mg "str" = none
  mt : mg "tuple" = none
  ml : mg "len" = none
  mli : mg "list" = none
  me : mg "enumerate" = none
  mso : mg "sorted" = none
  mm : ∃ t, mg "MOST_LETTERS" = some (.int 3 t)
  m3 : ∃ t, mg "MOST_ITEMS" = some (.int 3 t)
  m16 : ∃ t, mg "MOST_PRODUCTIONS" = some (.int 16 t)
  m6 : ∃ t, mg "MOST_SYMBOLS" = some (.int 6 t)
theorem ps_noxG {X : Cx} {st : Stmt} {t : TS} (h : PS X.nox st t) : PS X st t := ⟨fun pins s σ H D I hw =>
  wpAny_mono (h.run pins s σ H D (I.wish _) hw) (fun _ _ q => q.unwish) fun _ _ z => False.elim z⟩
/-- a value that is no alphabet -/
inductive BadA (K : PySem.W.Frag) (H : Hp) : V → Prop where
  | str {x : Str} (l : (tl x).length ≤ 100000) (h : alphB (tl x) = false) : BadA K H (.str x)
  | no {v : V} (h : NoS K H v) : BadA K H v
/-- a value that is neither a list nor a tuple -/
def NoLT (K : PySem.W.Frag) (H : Hp) (v : V) : Prop := ∃ t, TyX K H v t ∧ PySem.W.kitAny K t [.type "list", .type "tuple"] = some false
/-- a production -/
def PdAt (K : PySem.W.Frag) (H : Hp) (z : Str) (v : V) (c : Nat) (y : Str) : Prop := ∃ a, v = .ref a ∧ SqT K H a [.str ⟨#[c]⟩, .str y] ∧ symB c = true ∧ (tl y).length ≤ 100 ∧ rightB z y = true
/-- the productions before the first one that is refused -/
def GrPre (K : PySem.W.Frag) (H : Hp) (z : Str) (xs : List V) (ps : List (Nat × Str)) : Prop := ps.length ≤ 16 ∧ (∀ (i : Nat) (v : V), i < ps.length → xs[i]? = some v → ∃ c y, ps[i]? = some (c, y) ∧ PdAt K H z v c y) ∧ nsym (chs ps) ≤ 6
/-- why one is refused behind these -/
def GrBad (K : PySem.W.Frag) (H : Hp) (z : Str) (ps : List (Nat × Str)) (v : V) : Prop := ps.length = 16 ∨ PdB K H z v false ∨ ∃ c y, PdAt K H z v c y ∧ 6 < nsym (chs (ps ++ [(c, y)]))
def flG (z : Str) (r o : Addr) : List (Str × V) := putF "occurring" (.ref o) (putF "rules" (.ref r) (putF "base" (.str z) []))
/-- a Grammar in the heap -/
def GrAt (C : Addr) (H : Hp) (p : Addr) (z : Str) (xs : List V) (ps : List (Nat × Str)) : Prop := ∃ (dx r o : Addr) (ys : List Str), H p = some (.ins C dx (flG z r o)) ∧ H r = some (.lst xs) ∧ H o = some (.lst (ys.map V.str)) ∧ ys.Nodup ∧ ∀ y, y ∈ ys ↔ ∃ c ∈ chs ps, symB c = true ∧ y = ⟨#[c]⟩
theorem ascB_of {l : List Nat} (h : l.Pairwise (· < ·)) : ascB l = true := by
  induction l with
  | nil => rfl
  | cons a l ih =>
    cases l with
    | nil => rfl
    | cons b r =>
      obtain ⟨h1, h2⟩ := List.pairwise_cons.mp h
      show (decide (a < b) && ascB (b :: r)) = true
      rw [ih h2, decide_eq_true (h1 b List.mem_cons_self)]
      rfl
/-- a factor that was drawn is one -/
theorem alphB_of {z : Str} (h : Alph z) : alphB (tl z) = true := by
  obtain ⟨h1, h2, h3, h4⟩ := h
  unfold alphB
  rw [decide_eq_true h2, decide_eq_true h3, ascB_of h1]
  simp only [Bool.true_and, Bool.and_true]
  refine List.all_eq_true.mpr fun c hc => ?_
  unfold lowB
  rw [decide_eq_true (h4 c hc).1, decide_eq_true (h4 c hc).2]
  rfl
theorem lst_kit {K : PySem.W.Frag} : PySem.W.kitOne K (.type "list") (.type "list") = some true := kit_ty (by decide +kernel)
theorem tyX_sameG {K : PySem.W.Frag} {H H' : Hp} {v : V} {t : Value} (s : Same H H') (h : TyX K H v t) : TyX K H' v t := by
  cases h with
  | base b =>
    refine .base ?_
    cases b with
    | non => exact .non
    | bl y => exact .bl y
    | int i => exact .int i
    | str y => exact .str y
    | flt y => exact .flt y
    | lst e => exact .lst (s _ _ e)
    | frz e => exact .frz (s _ _ e)
    | tup e => exact .tup (s _ _ e)
    | dK e => exact .dK (s _ _ e)
    | dT e => exact .dT (s _ _ e)
    | ins e a b c d f => exact .ins (s _ _ e) a b c d f
  | byt b => exact .byt b
  | set e => exact .set (s _ _ e)
  | kList e c => exact .kList e c
  | kTuple e c => exact .kTuple e c
  | kDict e c => exact .kDict e c
  | fTuple e => exact .fTuple (s _ _ e)
  | fDict e => exact .fDict (s _ _ e)
theorem same_tupG {H H' : Hp} {K : PySem.W.Frag} (s : Same H H') (b : Addr) (xs : List V) (h : SqT K H b xs) : SqT K H' b xs := by
  rcases h with (h | ⟨v, h⟩) | h
  · exact .inl (.inl (s _ _ h))
  · exact .inl (.inr ⟨v, s _ _ h⟩)
  · exact .inr h
theorem PdAt.same {K : PySem.W.Frag} {H H' : Hp} {z : Str} {v : V} {c : Nat} {y : Str} (s : Same H H') (h : PdAt K H z v c y) : PdAt K H' z v c y := by
  obtain ⟨a, e, g, h⟩ := h
  exact ⟨a, e, same_tupG s _ _ g, h⟩
theorem NoS.sameG {K : PySem.W.Frag} {H H' : Hp} {v : V} (s : Same H H') (h : NoS K H v) : NoS K H' v := by
  obtain ⟨t, ty, k⟩ := h
  exact ⟨t, tyX_sameG s ty, k⟩
theorem PdB.same {K : PySem.W.Frag} {H H' : Hp} {z : Str} {v : V} {b : Bool} (s : Same H H') (h : PdB K H z v b) : PdB K H' z v b := by
  cases h with
  | no h =>
    obtain ⟨t, ty, k⟩ := h
    exact .no ⟨t, tyX_sameG s ty, k⟩
  | len h n => exact .len (same_tupG s _ _ h) n
  | nos h n => exact .nos (same_tupG s _ _ h) (n.sameG s)
  | slen h n l => exact .slen (same_tupG s _ _ h) n l
  | ssym h n => exact .ssym (same_tupG s _ _ h) n
  | ino h x n => exact .ino (same_tupG s _ _ h) x (n.sameG s)
  | ok h x l => exact .ok (same_tupG s _ _ h) x l
theorem chs_len {z : Str} : ∀ ps : List (Nat × Str), (∀ p ∈ ps, (tl p.2).length ≤ 100) → (chs ps).length ≤ 101 * ps.length
  | [], _ => Nat.le_refl _
  | p :: ps, h => by
    have := chs_len (z := z) ps fun q hq => h q (List.mem_cons_of_mem _ hq)
    have := h p List.mem_cons_self
    show ((p.1 :: tl p.2) ++ chs ps).length ≤ _
    rw [List.length_append, List.length_cons, List.length_cons]
    omega
theorem tl_appG (x y : Str) : tl (x ++ y) = tl x ++ tl y := Array.toList_append
theorem log_small {i : Nat} (h : i ≤ 16) : ((i : Int)).natAbs.log2 < 1920 := (by decide +kernel : ∀ i : Nat, i < 17 → ((i : Int)).natAbs.log2 < 1920) i (by omega)
def spGr (K : PySem.W.Frag) (CA CP : Addr) : Sp := fun vs H Q E => ∃ (p C dx : Addr) (va vb : V), vs = [.ref p, va, vb] ∧ H p = some (.ins C dx []) ∧ Cls K C ∧ NoAttr K C "base" ∧ NoAttr K C "rules" ∧ NoAttr K C "occurring" ∧
  ((BadA K H va ∧ ∀ H', Same H H' → E (.ref CA) none H') ∨
   ∃ z : Str, va = .str z ∧ Alph z ∧
    ((NoLT K H vb ∧ ∀ H' d, Same H H' → H' d = none → E (.ref CP) (some d) (upd H' d (.xd [(("index" : Str), .non)]))) ∨
     ∃ (a : Addr) (xs : List V) (ps : List (Nat × Str)), vb = .ref a ∧ H a = some (.lst xs) ∧ GrPre K H z xs ps ∧
      ((∃ v, xs[ps.length]? = some v ∧ GrBad K H z ps v ∧ ∀ H' d, Same H H' → H' d = none → E (.ref CP) (some d) (upd H' d (.xd [(("index" : Str), .int (ps.length : Int))]))) ∨
       (xs.length = ps.length ∧ ∀ H', (∀ b o, H b = some o → b ≠ p → H' b = some o) → GrAt C H' p z xs ps → Q .non H'))))
section
variable {P : Program} {w : World} {K : PySem.W.Frag} {mg : Str → Option Value} {base : Heap}
theorem scGi : FnScope ["self", "alphabet", "productions", "characters", "index", "production"] ["self", "alphabet", "productions"] (defScope sGrInit) := ⟨rfl, rfl, rfl, by decide +kernel, rfl, by decide +kernel, by decide +kernel⟩
theorem ok_gr (D : DfGr K mg) (A : EX.DfE0 K mg "InvalidAlphabet") (M : EX.DfE P K mg "InvalidProduction" "index" EX.MsgOk) : FnOk P w K mg base (L2.CX P w) 3 D.i.f D.i.fd ["self", "alphabet", "productions"] (spGr K A.C M.C) := by
  have Ga : FnOk P w K mg base CX0 2 D.al.f D.al.fd ["thing"] (spAlp K) := ok_alp D.al D.as D.ma D.mz D.mi D.ms D.ml D.mm
  have Gp : FnOk P w K mg base CX0 2 D.pd.f D.pd.fd ["alphabet", "thing"] (spPd K) := ok_pd D.pd D.sy D.ma D.mi D.ms D.mt D.ml D.m3
  have Gs : FnOk P w K mg base CX0 2 D.sa.f D.sa.fd ["items"] spSa := ok_sa D.sa D.sy D.mso
  have m16 : ∃ u, mg "MOST_PRODUCTIONS" = some u ∧ RelV (.int 16) u := by
    obtain ⟨t, e⟩ := D.m16
    exact ⟨_, e, t, rfl⟩
  have m6 : ∃ u, mg "MOST_SYMBOLS" = some u ∧ RelV (.int 6) u := by
    obtain ⟨t, e⟩ := D.m6
    exact ⟨_, e, t, rfl⟩
  refine D.i.F.ok scGi (fun vs H Q E h => ?_) (fun cdv A0 outer s H vs Q E hr h => ?_)
  · obtain ⟨p, C, dx, va, vb, rfl, _⟩ := h
    rfl
  · obtain ⟨p, C, dx, va, vb, rfl, hp, hcl, nB, nR, nO, h⟩ := h
    have hr2 : Room 2 _ := hr.mono (by decide)
    refine ⟨_, (pss_cons (ps_if (pt_not (pt_val (pe_call Ga hr2 (by rfl) D.al.g D.al.F.kp D.al.b .nil pass0 (pa_cons (pv 1) pa_nil)))) (pss_one (ps_raise rfl (takes_of rfl rfl rfl rfl) (EX.pmk_err0 A.q A.T (by rfl) A.g))) pss_nil) (pss_cons (ps_if (pt_not (pt_val (pe_callB call_isiT (by rfl) D.mi (by decide +kernel) (pa_cons (pv 2) (pa_cons (pe_tup (pa_cons (pe_bltn (v := V.ty "list") (by rfl) D.mli (by decide +kernel : bootBuiltins "list" = some (.type "list")) rfl) (pa_cons (pe_bltn (v := V.ty "tuple") (by rfl) D.mt (by decide +kernel : bootBuiltins "tuple" = some (.type "tuple")) rfl) pa_nil))) pa_nil))))) (pss_one (ps_raise rfl (takes_of rfl rfl rfl rfl) (EX.pmk_err M.T M.iC M.tI (M.F w base) hr2 M.b (by rfl) M.g pe_non))) pss_nil) (pss_cons (ps_noxG (ps_set (i := 3) scGi.nd rfl (.inl rfl) pe_str)) (pss_cons (ps_for (passes_of rfl) rfl (pi_enum (by rfl) D.me (pa_cons (pv 2) pa_nil)) (pg_tup rfl (pgs_cons (pg_name (i := 4) scGi.nd rfl (.inl rfl)) (pgs_cons (pg_name (i := 5) scGi.nd rfl (.inl rfl)) pgs_nil))) (pss_cons (ps_if (pw_or (pt_cmpR op_ge (pv 4) (C8.pe_gc (by rfl) m16) (nomark _)) (pw_or1 (pt_not (pt_val (pe_call Gp hr2 (by rfl) D.pd.g D.pd.F.kp D.pd.b .nil pass0 (pa_cons (pv 1) (pa_cons (pv 5) pa_nil))))))).pt (pss_one (ps_raise rfl (takes_of rfl rfl rfl rfl) (EX.pmk_err M.T M.iC M.tI (M.F w base) hr2 M.b (by rfl) M.g (pv 4)))) pss_nil) (pss_cons (ps_noxG (ps_aug (i := 3) scGi.nd rfl (.inl rfl) (pe_join pe_str (pv 5)) iop_add_str)) (pss_one (ps_if (pt_cmpR op_gt (pe_callB call_len_seq (by rfl) D.ml PySem.boot_len (pa_cons (pe_call Gs hr2 (by rfl) D.sa.g D.sa.F.kp D.sa.b .nil pass0 (pa_cons (pv 3) pa_nil)) pa_nil)) (C8.pe_gc (by rfl) m6) (nomark _)) (pss_one (ps_raise rfl (takes_of rfl rfl rfl rfl) (EX.pmk_err M.T M.iC M.tI (M.F w base) hr2 M.b (by rfl) M.g (pv 4)))) pss_nil))))) (pss_cons (ps_noxG (ps_fld (pv 0) (pv 1) rfl)) (pss_cons (ps_noxG (ps_fld (pv 0) (pe_callTy call_list_of (by rfl) D.mli (by decide +kernel) (pa_cons (pv 2) pa_nil)) rfl)) (pss_one (ps_noxG (ps_fld (pv 0) (pe_call Gs hr2 (by rfl) D.sa.g D.sa.F.kp D.sa.b .nil pass0 (pa_cons (pv 3) pa_nil)) rfl))))))))), ?_⟩
    rcases h with ⟨ba, k⟩ | ⟨z, rfl, al, h⟩
    · refine ⟨va, rfl, va, rfl, ?_⟩
      cases ba with
      | str l h => exact .inl ⟨_, rfl, l, fun H1 s1 => ⟨_, rfl, by rw [h]; exact iteT (k _ s1)⟩⟩
      | no h => exact .inr ⟨h, fun H1 s1 => ⟨_, rfl, iteT (k _ s1)⟩⟩
    have zl : (tl z).length ≤ 100000 := by
      have := al.2.2.1
      omega
    have az : alphB (tl z) = true := alphB_of al
    refine ⟨.str z, rfl, .str z, rfl, .inl ⟨z, rfl, zl, fun H1 s1 => ⟨_, rfl, ?_⟩⟩⟩
    rw [az]
    refine iteF ?_
    rcases h with ⟨nl, k⟩ | ⟨a, xs, ps, rfl, ha, ⟨p16, pre, six⟩, why⟩
    · refine ⟨vb, rfl, by rw [sizeLine_eq]; decide, fun T0 hT0 => ?_⟩
      have sT := same_upd (o := .tup [V.ty "list", V.ty "tuple"]) hT0
      have sH := s1.trans sT
      obtain ⟨t, ty, kt⟩ := nl
      refine ⟨vb, T0, _, t, [.type "list", .type "tuple"], false, rfl, upd_same, .cons (.ty _) (.cons (.ty _) .nil), tyX_sameG sH ty, kt, false, rfl, iteT ?_⟩
      exact ⟨.inr (.inr rfl), fun d nd => k _ d sH nd⟩
    · have tkl : ∀ i, (chs (ps.take i)).length ≤ 101 * 16 := fun i => by
        have h1 := chs_len (z := z) (ps.take i) fun q hq => by
          obtain ⟨n, hn⟩ := List.mem_iff_getElem?.mp (List.mem_of_mem_take hq)
          have nl := (List.getElem?_eq_some_iff.mp hn).1
          have xl : n < xs.length := by
            have w1 : ps.length ≤ xs.length := by
              rcases why with ⟨y, hy, _⟩ | ⟨l, _⟩
              · exact Nat.le_of_lt (List.getElem?_eq_some_iff.mp hy).1
              · omega
            omega
          obtain ⟨c, y, e, a, _, _, _, l, _⟩ := pre n xs[n] nl (List.getElem?_eq_getElem xl)
          rw [hn] at e
          have e := Option.some.inj e
          rw [e]
          exact l
        have h2 : (ps.take i).length ≤ 16 := by
          rw [List.length_take]
          omega
        omega
      refine ⟨.ref a, rfl, by rw [sizeLine_eq]; decide, fun T0 hT0 => ?_⟩
      have sT := same_upd (o := .tup [V.ty "list", V.ty "tuple"]) hT0
      have sH := s1.trans sT
      refine ⟨.ref a, T0, _, .type "list", [.type "list", .type "tuple"], true, rfl, upd_same, .cons (.ty _) (.cons (.ty _) .nil), .base (.lst (sH _ _ ha)), ?_, true, rfl, iteF ?_⟩
      · unfold PySem.W.kitAny
        rw [lst_kit]
      refine ⟨.ref a, rfl, a, xs, rfl, SqL.of (sH _ _ ha), for_it (walk_enum (xs := xs)) (fun i σ G => ∃ x y4 y5, σ = [some (.ref p), some (.str z), some (.ref a), some (.str x), y4, y5] ∧ tl x = chs (ps.take i) ∧ Same H G ∧ i ≤ ps.length) ⟨"", _, _, rfl, rfl, sH, Nat.zero_le _⟩ (fun _ _ _ _ ⟨_, _, _, _, _, sm, _⟩ => SqL.of (sm _ _ ha)) ?_ ?_⟩
      · rintro i v0 σ G G' hi ⟨x, y4, y5, rfl, ex, sm, ij⟩ ⟨T, c0, y', rfl, hT, rfl, hc, hy'⟩
        have s2 := sm.trans (same_upd (o := .tup [c0, y']) hT)
        have hc : c0 = .int (i : Int) := (Option.some.inj hc).symm
        subst hc
        refine ⟨T, [.int (i : Int), y'], rfl, SqT.of upd_same, rfl, _, _, rfl, _, _, rfl, rfl, ?_⟩
        have i16 : i ≤ 16 := by omega
        have cas : ((i = 16 ∨ PdB K H z y' false) ∧ ∀ H' d, Same H H' → H' d = none → E (.ref M.C) (some d) (upd H' d (.xd [(("index" : Str), .int (i : Int))]))) ∨
            (i < 16 ∧ ∃ c yy, PdAt K H z y' c yy ∧ ((i < ps.length ∧ ps.take (i + 1) = ps.take i ++ [(c, yy)]) ∨ (6 < nsym (chs (ps.take i ++ [(c, yy)])) ∧ ∀ H' d, Same H H' → H' d = none → E (.ref M.C) (some d) (upd H' d (.xd [(("index" : Str), .int (i : Int))]))))) := by
          by_cases lt : i < ps.length
          · obtain ⟨c, yy, hp', pa⟩ := pre i y' lt hy'
            exact .inr ⟨by omega, c, yy, pa, .inl ⟨lt, by rw [List.take_add_one, hp']; rfl⟩⟩
          · have ei : i = ps.length := by omega
            rcases why with ⟨y, hy, bad, k⟩ | ⟨l, k⟩
            · rw [← ei] at hy k
              have e : y = y' := Option.some.inj (hy.symm.trans hy')
              subst e
              by_cases h16 : i = 16
              · exact .inl ⟨.inl h16, k⟩
              · rcases bad with h | h | ⟨c, yy, pa, h6⟩
                · exact absurd (ei.trans h) h16
                · exact .inl ⟨.inr h, k⟩
                · exact .inr ⟨by omega, c, yy, pa, .inr ⟨by rw [ei, List.take_length]; exact h6, k⟩⟩
            · exact absurd (List.getElem?_eq_some_iff.mp hy').1 (by omega)
        rcases cas with ⟨bad, k⟩ | ⟨lt16, c, yy, pa, cas⟩
        · by_cases h16 : i = 16
          · refine ⟨_, rfl, _, 16, rfl, rfl, _, rfl, ite2 (fun e => ?_) (fun e => absurd (decide_eq_true (by omega)) e)⟩
            exact iteT ⟨_, rfl, .inr (.inl ⟨_, rfl, log_small i16⟩), fun d nd => k _ d s2 nd⟩
          · have pb : PdB K H z y' false := bad.resolve_left h16
            refine ⟨_, rfl, _, 16, rfl, rfl, _, rfl, ite2 (fun e => absurd (of_decide_eq_true e) (by omega)) (fun e => ?_)⟩
            refine ⟨.str z, rfl, y', rfl, z, y', false, rfl, zl, pb.same s2, fun H2 s3 => ⟨_, rfl, iteT ?_⟩⟩
            exact ⟨_, rfl, .inr (.inl ⟨_, rfl, log_small i16⟩), fun d nd => k _ d (s2.trans s3) nd⟩
        · have pb : PdB K H z y' true := by
            obtain ⟨ad, rfl, sq, sc, yl, rb⟩ := pa
            rw [← rb]
            exact .ok sq sc (by omega)
          obtain ⟨ad, rfl, sq, sc, yl, rb⟩ := pa
          refine ⟨_, rfl, _, 16, rfl, rfl, _, rfl, ite2 (fun e => absurd (of_decide_eq_true e) (by omega)) (fun e => ?_)⟩
          refine ⟨.str z, rfl, _, rfl, z, _, true, rfl, zl, pb.same s2, fun H2 s3 => ⟨_, rfl, iteF ?_⟩⟩
          refine ⟨.str x, rfl, ⟨_, rfl⟩, .ref ad, rfl, _, ad, [⟨#[c]⟩, yy], rfl, rfl, .inr (same_tupG (s2.trans s3) _ _ sq), ?_, ?_⟩
          · have yz : yy.length = (tl yy).length := (Array.length_toList).symm
            show 1 + (yy.length + 0) + 2 * 0 ≤ 16777216
            omega
          have xyl : (tl x).length ≤ 101 * 16 := by
            rw [ex]
            exact tkl i
          have xz : x.length = (tl x).length := (Array.length_toList).symm
          have tj : tl (Txt.join "" [⟨#[c]⟩, yy]) = c :: tl yy := by
            rw [tl_cat]
            show c :: (tl yy ++ []) = _
            rw [List.append_nil]
          have jz : (Txt.join "" [⟨#[c]⟩, yy]).length = (tl (Txt.join "" [⟨#[c]⟩, yy])).length := (Array.length_toList).symm
          have tx : tl (x ++ Txt.join "" [⟨#[c]⟩, yy]) = chs (ps.take i ++ [(c, yy)]) := by
            rw [tl_appG, tj, ex, chs_app, chs_one]
          refine ⟨_, _, rfl, rfl, ?_, ?_⟩
          · rw [jz, tj, List.length_cons, sizeLine_eq]
            omega
          dsimp only [List.set]
          have nl : (tl (x ++ Txt.join "" [⟨#[c]⟩, yy])).length ≤ 100000 := by
            rw [tl_appG, tj, List.length_append, List.length_cons]
            omega
          refine ⟨.str _, rfl, _, rfl, nl, fun H4 q ys s4 hq nd mem => ?_⟩
          have yn := nsym_len nd mem
          have s5 := (s2.trans s3).trans s4
          rw [tx] at yn
          have up : i < ps.length → ps.take (i + 1) = ps.take i ++ [(c, yy)] → nsym (chs (ps.take i ++ [(c, yy)])) ≤ 6 := fun lt tk => by
            rw [← tk]
            refine Nat.le_trans (nsym_mono fun d hd => ?_) six
            obtain ⟨pr, hpr, hd⟩ := List.mem_flatMap.mp hd
            exact List.mem_flatMap.mpr ⟨pr, List.mem_of_mem_take hpr, hd⟩
          refine ⟨q, _, rfl, .inl (SqL.of hq), _, 6, rfl, rfl, _, rfl, ite2 (fun e => ?_) (fun e => ?_)⟩
          · have e := of_decide_eq_true e
            rw [List.length_map, yn] at e
            rcases cas with ⟨lt, tk⟩ | ⟨_, k⟩
            · have := up lt tk
              omega
            · exact ⟨_, rfl, .inr (.inl ⟨_, rfl, log_small i16⟩), fun d nd => k _ d s5 nd⟩
          · have e : ¬ (6 : Int) < ((ys.map V.str).length : Int) := fun h => e (decide_eq_true h)
            rw [List.length_map, yn] at e
            rcases cas with ⟨lt, tk⟩ | ⟨h6, k⟩
            · exact ⟨_, _, _, rfl, by rw [tx, tk], s5, lt⟩
            · omega
      · rintro σ G ⟨x, y4, y5, rfl, ex, sm, ij⟩
        rcases why with ⟨y, hy, bad, k⟩ | ⟨l, k⟩
        · exact absurd (List.getElem?_eq_some_iff.mp hy).1 (by omega)
        · have hpG := sm _ _ hp
          refine ⟨.str z, rfl, .ref p, rfl, p, C, dx, [], rfl, hpG, hcl, nB, by decide, ?_⟩
          have npa : a ≠ p := ne_of ha hp (by intro z; cases z)
          refine ⟨.ref a, rfl, a, xs, rfl, .inl (SqL.of ((upd_ne npa).trans (sm _ _ ha))), fun r hr0 => ?_⟩
          have npr : p ≠ r := fun e => by
            rw [← e, upd_same] at hr0
            cases hr0
          refine ⟨.ref p, rfl, p, C, dx, _, rfl, (upd_ne npr).trans upd_same, hcl, nR, (by show 1 < 1000; decide), ?_⟩
          have xl : (tl x).length ≤ 100000 := by
            rw [ex]
            have := tkl xs.length
            omega
          refine ⟨.str x, rfl, x, rfl, xl, fun H' q ys s2 hq nd mem => ?_⟩
          have hp2 := s2 _ _ (upd_same : (upd _ p _) p = _)
          refine ⟨.ref p, rfl, p, C, dx, _, rfl, hp2, hcl, nO, (by show 2 < 1000; decide), ?_⟩
          rw [ex, l, List.take_length] at mem
          have nqp : q ≠ p := ne_of hq hp2 (by intro z; cases z)
          have nrp : r ≠ p := fun e => npr e.symm
          refine k _ (fun b o hb nb => ?_) ⟨dx, r, q, ys, upd_same, (upd_ne nrp).trans (s2 _ _ ((upd_ne nrp).trans upd_same)), (upd_ne nqp).trans hq, nd, mem⟩
          have hb2 := sm _ _ hb
          have nbr : b ≠ r := fun e => by
            rw [e] at hb2 nb
            rw [upd_ne nb] at hr0
            rw [hb2] at hr0
            cases hr0
          exact (upd_ne nb).trans (s2 _ _ ((upd_ne nb).trans ((upd_ne nbr).trans ((upd_ne nb).trans hb2))))
end
end DW
set_option maxHeartbeats 0
namespace DW
open PySem PySem.Spec PyProof.Rows L2
def mkD (x : Str) (st : Stmt) : He.DefD := ⟨(x, none), x, x, defArgs st, defBody st, defScope st, [], []⟩
def fn : List He.DefD := [mkD "law" sLaw, mkD "is_ascending" sIsAscending, mkD "is_alphabet" sIsAlphabet, mkD "is_symbol" sIsSymbol, mkD "symbols_among" sSymbolsAmong, mkD "is_production" sIsProduction, mkD "_law_begin" sBegin, mkD "_law_draw" sDraw, mkD "_law_pick" sPick, mkD "_law_alphabet" sAlpha, mkD "_law_items" sLItems, mkD "_law_bad" sLBad, mkD "_law_good" sLGood, mkD "_law_told" sLTold, ⟨("Grammar", some "__init__"), "__init__", "Grammar.__init__", defArgs sGrInit, defBody sGrInit, defScope sGrInit, [], []⟩]
def fa : List He.Fa := [.glo "law", .glo "is_ascending", .glo "is_alphabet", .glo "is_symbol", .glo "symbols_among", .glo "is_production", .glo "_law_begin", .glo "_law_draw", .glo "_law_pick", .glo "_law_alphabet", .glo "_law_items", .glo "_law_bad", .glo "_law_good", .glo "_law_told", .free "all", .free "zip", .free "isinstance", .free "str", .free "len", .free "sorted", .free "tuple", .free "range", .free "set", .free "list", .free "enumerate", .int "MOST_LETTERS" 3, .int "MOST_ITEMS" 3, .int "MOST_PRODUCTIONS" 16, .int "MOST_SYMBOLS" 6, .glo "Grammar", .cls "Grammar", .noat "Grammar" "base", .noat "Grammar" "rules", .noat "Grammar" "occurring", .mkr "Grammar", .free "super"]
abbrev R : PySem.W.OpenRow := PySem.W.OpenLaw.row PySem.Challenge.rw_downwords_k62_invalid_grammars
def xs : EX.Xs := { ini := [⟨"InvalidProduction", "InvalidProduction.__init__", "index", defArgs (clsS 3 0), defBody (clsS 3 0), defScope (clsS 3 0)⟩], ex := ["InvalidAlphabet", "DownwordsError"], kit := [("InvalidAlphabet", "DownwordsError", true), ("InvalidProduction", "DownwordsError", true), ("InvalidAlphabet", "InvalidAlphabet", true), ("InvalidProduction", "InvalidAlphabet", false)], exm := [("InvalidAlphabet", "InvalidAlphabet", true), ("InvalidAlphabet", "InvalidProduction", false), ("InvalidProduction", "InvalidAlphabet", false), ("InvalidProduction", "InvalidProduction", true)], own := ["Grammar"], kty := [], ktn := [("Grammar", "list"), ("Grammar", "tuple")] }
abbrev hk : PySem.W.Hook := EX.hookX R.prog 4 fa fn xs
def ob (s : PySem.W.SharedT) : EX.AlX := EX.obsXG R.prog 4 fa fn xs (HandSHeadRun.getT s)
theorem ob_eq (s : PySem.W.SharedT) : ob s = hk.obs s.abs := EX.obsXG_eq (HandSHeadRun.getT_eq s)
abbrev names : List Str := ["__name__", "DownwordsError", "InvalidAlphabet", "InvalidProduction", "Grammar", "MOST_LETTERS", "MOST_ITEMS", "MOST_PRODUCTIONS", "MOST_SYMBOLS", "is_ascending", "is_alphabet", "is_symbol", "symbols_among", "is_production", "_law_begin", "_law_draw", "_law_pick", "_law_alphabet", "_law_items", "_law_bad", "_law_good", "_law_told"]
theorem run (w : World) : HandSHeadRun.RunEq R (PySem.W.view R.prog [25]) hk ob 4000 names w := by
  intro os
  kernel_rfl
end DW
set_option maxHeartbeats 4000000
/-! class Grammar: made of a tuple, or refused -/
namespace DW
open PySem PySem.Spec PyProof.Rows L2 TL
set_option autoImplicit false
def spGrT (K : PySem.W.Frag) (CA CP : Addr) : Sp := fun vs H Q E => ∃ (p C dx : Addr) (va vb : V), vs = [.ref p, va, vb] ∧ H p = some (.ins C dx []) ∧ Cls K C ∧ NoAttr K C "base" ∧ NoAttr K C "rules" ∧ NoAttr K C "occurring" ∧
  ((BadA K H va ∧ ∀ H', Same H H' → E (.ref CA) none H') ∨
   ∃ z : Str, va = .str z ∧ Alph z ∧
    ((NoLT K H vb ∧ ∀ H' d, Same H H' → H' d = none → E (.ref CP) (some d) (upd H' d (.xd [(("index" : Str), .non)]))) ∨
     ∃ (a : Addr) (xs : List V) (ps : List (Nat × Str)), vb = .ref a ∧ H a = some (.tup xs) ∧ GrPre K H z xs ps ∧
      ((∃ v, xs[ps.length]? = some v ∧ GrBad K H z ps v ∧ ∀ H' d, Same H H' → H' d = none → E (.ref CP) (some d) (upd H' d (.xd [(("index" : Str), .int (ps.length : Int))]))) ∨
       (xs.length = ps.length ∧ ∀ H', (∀ b o, H b = some o → b ≠ p → H' b = some o) → GrAt C H' p z xs ps → Q .non H'))))
section
variable {P : Program} {w : World} {K : PySem.W.Frag} {mg : Str → Option Value} {base : Heap}
theorem ok_grT (D : DfGr K mg) (A : EX.DfE0 K mg "InvalidAlphabet") (M : EX.DfE P K mg "InvalidProduction" "index" EX.MsgOk) : FnOk P w K mg base (L2.CX P w) 3 D.i.f D.i.fd ["self", "alphabet", "productions"] (spGrT K A.C M.C) := by
  have Ga : FnOk P w K mg base CX0 2 D.al.f D.al.fd ["thing"] (spAlp K) := ok_alp D.al D.as D.ma D.mz D.mi D.ms D.ml D.mm
  have Gp : FnOk P w K mg base CX0 2 D.pd.f D.pd.fd ["alphabet", "thing"] (spPd K) := ok_pd D.pd D.sy D.ma D.mi D.ms D.mt D.ml D.m3
  have Gs : FnOk P w K mg base CX0 2 D.sa.f D.sa.fd ["items"] spSa := ok_sa D.sa D.sy D.mso
  have m16 : ∃ u, mg "MOST_PRODUCTIONS" = some u ∧ RelV (.int 16) u := by
    obtain ⟨t, e⟩ := D.m16
    exact ⟨_, e, t, rfl⟩
  have m6 : ∃ u, mg "MOST_SYMBOLS" = some u ∧ RelV (.int 6) u := by
    obtain ⟨t, e⟩ := D.m6
    exact ⟨_, e, t, rfl⟩
  refine D.i.F.ok scGi (fun vs H Q E h => ?_) (fun cdv A0 outer s H vs Q E hr h => ?_)
  · obtain ⟨p, C, dx, va, vb, rfl, _⟩ := h
    rfl
  · obtain ⟨p, C, dx, va, vb, rfl, hp, hcl, nB, nR, nO, h⟩ := h
    have hr2 : Room 2 _ := hr.mono (by decide)
    refine ⟨_, (pss_cons (ps_if (pt_not (pt_val (pe_call Ga hr2 (by rfl) D.al.g D.al.F.kp D.al.b .nil pass0 (pa_cons (pv 1) pa_nil)))) (pss_one (ps_raise rfl (takes_of rfl rfl rfl rfl) (EX.pmk_err0 A.q A.T (by rfl) A.g))) pss_nil) (pss_cons (ps_if (pt_not (pt_val (pe_callB call_isiT (by rfl) D.mi (by decide +kernel) (pa_cons (pv 2) (pa_cons (pe_tup (pa_cons (pe_bltn (v := V.ty "list") (by rfl) D.mli (by decide +kernel : bootBuiltins "list" = some (.type "list")) rfl) (pa_cons (pe_bltn (v := V.ty "tuple") (by rfl) D.mt (by decide +kernel : bootBuiltins "tuple" = some (.type "tuple")) rfl) pa_nil))) pa_nil))))) (pss_one (ps_raise rfl (takes_of rfl rfl rfl rfl) (EX.pmk_err M.T M.iC M.tI (M.F w base) hr2 M.b (by rfl) M.g pe_non))) pss_nil) (pss_cons (ps_noxG (ps_set (i := 3) scGi.nd rfl (.inl rfl) pe_str)) (pss_cons (ps_for (passes_of rfl) rfl (EN.pi_enT (by rfl) D.me (pa_cons (pv 2) pa_nil)) (pg_tup rfl (pgs_cons (pg_name (i := 4) scGi.nd rfl (.inl rfl)) (pgs_cons (pg_name (i := 5) scGi.nd rfl (.inl rfl)) pgs_nil))) (pss_cons (ps_if (pw_or (pt_cmpR op_ge (pv 4) (C8.pe_gc (by rfl) m16) (nomark _)) (pw_or1 (pt_not (pt_val (pe_call Gp hr2 (by rfl) D.pd.g D.pd.F.kp D.pd.b .nil pass0 (pa_cons (pv 1) (pa_cons (pv 5) pa_nil))))))).pt (pss_one (ps_raise rfl (takes_of rfl rfl rfl rfl) (EX.pmk_err M.T M.iC M.tI (M.F w base) hr2 M.b (by rfl) M.g (pv 4)))) pss_nil) (pss_cons (ps_noxG (ps_aug (i := 3) scGi.nd rfl (.inl rfl) (pe_join pe_str (pv 5)) iop_add_str)) (pss_one (ps_if (pt_cmpR op_gt (pe_callB call_len_seq (by rfl) D.ml PySem.boot_len (pa_cons (pe_call Gs hr2 (by rfl) D.sa.g D.sa.F.kp D.sa.b .nil pass0 (pa_cons (pv 3) pa_nil)) pa_nil)) (C8.pe_gc (by rfl) m6) (nomark _)) (pss_one (ps_raise rfl (takes_of rfl rfl rfl rfl) (EX.pmk_err M.T M.iC M.tI (M.F w base) hr2 M.b (by rfl) M.g (pv 4)))) pss_nil))))) (pss_cons (ps_noxG (ps_fld (pv 0) (pv 1) rfl)) (pss_cons (ps_noxG (ps_fld (pv 0) (pe_callTy call_list_of (by rfl) D.mli (by decide +kernel) (pa_cons (pv 2) pa_nil)) rfl)) (pss_one (ps_noxG (ps_fld (pv 0) (pe_call Gs hr2 (by rfl) D.sa.g D.sa.F.kp D.sa.b .nil pass0 (pa_cons (pv 3) pa_nil)) rfl))))))))), ?_⟩
    rcases h with ⟨ba, k⟩ | ⟨z, rfl, al, h⟩
    · refine ⟨va, rfl, va, rfl, ?_⟩
      cases ba with
      | str l h => exact .inl ⟨_, rfl, l, fun H1 s1 => ⟨_, rfl, by rw [h]; exact iteT (k _ s1)⟩⟩
      | no h => exact .inr ⟨h, fun H1 s1 => ⟨_, rfl, iteT (k _ s1)⟩⟩
    have zl : (tl z).length ≤ 100000 := by
      have := al.2.2.1
      omega
    have az : alphB (tl z) = true := alphB_of al
    refine ⟨.str z, rfl, .str z, rfl, .inl ⟨z, rfl, zl, fun H1 s1 => ⟨_, rfl, ?_⟩⟩⟩
    rw [az]
    refine iteF ?_
    rcases h with ⟨nl, k⟩ | ⟨a, xs, ps, rfl, ha, ⟨p16, pre, six⟩, why⟩
    · refine ⟨vb, rfl, by rw [sizeLine_eq]; decide, fun T0 hT0 => ?_⟩
      have sT := same_upd (o := .tup [V.ty "list", V.ty "tuple"]) hT0
      have sH := s1.trans sT
      obtain ⟨t, ty, kt⟩ := nl
      refine ⟨vb, T0, _, t, [.type "list", .type "tuple"], false, rfl, upd_same, .cons (.ty _) (.cons (.ty _) .nil), tyX_sameG sH ty, kt, false, rfl, iteT ?_⟩
      exact ⟨.inr (.inr rfl), fun d nd => k _ d sH nd⟩
    · have tkl : ∀ i, (chs (ps.take i)).length ≤ 101 * 16 := fun i => by
        have h1 := chs_len (z := z) (ps.take i) fun q hq => by
          obtain ⟨n, hn⟩ := List.mem_iff_getElem?.mp (List.mem_of_mem_take hq)
          have nl := (List.getElem?_eq_some_iff.mp hn).1
          have xl : n < xs.length := by
            have w1 : ps.length ≤ xs.length := by
              rcases why with ⟨y, hy, _⟩ | ⟨l, _⟩
              · exact Nat.le_of_lt (List.getElem?_eq_some_iff.mp hy).1
              · omega
            omega
          obtain ⟨c, y, e, a, _, _, _, l, _⟩ := pre n xs[n] nl (List.getElem?_eq_getElem xl)
          rw [hn] at e
          have e := Option.some.inj e
          rw [e]
          exact l
        have h2 : (ps.take i).length ≤ 16 := by
          rw [List.length_take]
          omega
        omega
      refine ⟨.ref a, rfl, by rw [sizeLine_eq]; decide, fun T0 hT0 => ?_⟩
      have sT := same_upd (o := .tup [V.ty "list", V.ty "tuple"]) hT0
      have sH := s1.trans sT
      refine ⟨.ref a, T0, _, .type "tuple", [.type "list", .type "tuple"], true, rfl, upd_same, .cons (.ty _) (.cons (.ty _) .nil), .base (.tup (sH _ _ ha)), ?_, true, rfl, iteF ?_⟩
      · have k1 : PySem.W.kitOne K (.type "tuple") (.type "list") = some false := kit_ty (by decide +kernel)
        have k2 : PySem.W.kitOne K (.type "tuple") (.type "tuple") = some true := kit_ty (by decide +kernel)
        show PySem.W.kitAny K (.type "tuple") [.type "list", .type "tuple"] = some true
        simp only [PySem.W.kitAny, k1, k2]
      refine ⟨.ref a, rfl, a, xs, rfl, SqT.of (sH _ _ ha), for_it (EN.walk_T (xs := xs)) (fun i σ G => ∃ x y4 y5, σ = [some (.ref p), some (.str z), some (.ref a), some (.str x), y4, y5] ∧ tl x = chs (ps.take i) ∧ Same H G ∧ i ≤ ps.length) ⟨"", _, _, rfl, rfl, sH, Nat.zero_le _⟩ (fun _ _ _ _ ⟨_, _, _, _, _, sm, _⟩ => SqT.of (sm _ _ ha)) ?_ ?_⟩
      · rintro i v0 σ G G' hi ⟨x, y4, y5, rfl, ex, sm, ij⟩ ⟨T, c0, y', rfl, hT, rfl, hc, hy'⟩
        have s2 := sm.trans (same_upd (o := .tup [c0, y']) hT)
        have hc : c0 = .int (i : Int) := (Option.some.inj hc).symm
        subst hc
        refine ⟨T, [.int (i : Int), y'], rfl, SqT.of upd_same, rfl, _, _, rfl, _, _, rfl, rfl, ?_⟩
        have i16 : i ≤ 16 := by omega
        have cas : ((i = 16 ∨ PdB K H z y' false) ∧ ∀ H' d, Same H H' → H' d = none → E (.ref M.C) (some d) (upd H' d (.xd [(("index" : Str), .int (i : Int))]))) ∨
            (i < 16 ∧ ∃ c yy, PdAt K H z y' c yy ∧ ((i < ps.length ∧ ps.take (i + 1) = ps.take i ++ [(c, yy)]) ∨ (6 < nsym (chs (ps.take i ++ [(c, yy)])) ∧ ∀ H' d, Same H H' → H' d = none → E (.ref M.C) (some d) (upd H' d (.xd [(("index" : Str), .int (i : Int))]))))) := by
          by_cases lt : i < ps.length
          · obtain ⟨c, yy, hp', pa⟩ := pre i y' lt hy'
            exact .inr ⟨by omega, c, yy, pa, .inl ⟨lt, by rw [List.take_add_one, hp']; rfl⟩⟩
          · have ei : i = ps.length := by omega
            rcases why with ⟨y, hy, bad, k⟩ | ⟨l, k⟩
            · rw [← ei] at hy k
              have e : y = y' := Option.some.inj (hy.symm.trans hy')
              subst e
              by_cases h16 : i = 16
              · exact .inl ⟨.inl h16, k⟩
              · rcases bad with h | h | ⟨c, yy, pa, h6⟩
                · exact absurd (ei.trans h) h16
                · exact .inl ⟨.inr h, k⟩
                · exact .inr ⟨by omega, c, yy, pa, .inr ⟨by rw [ei, List.take_length]; exact h6, k⟩⟩
            · exact absurd (List.getElem?_eq_some_iff.mp hy').1 (by omega)
        rcases cas with ⟨bad, k⟩ | ⟨lt16, c, yy, pa, cas⟩
        · by_cases h16 : i = 16
          · refine ⟨_, rfl, _, 16, rfl, rfl, _, rfl, ite2 (fun e => ?_) (fun e => absurd (decide_eq_true (by omega)) e)⟩
            exact iteT ⟨_, rfl, .inr (.inl ⟨_, rfl, log_small i16⟩), fun d nd => k _ d s2 nd⟩
          · have pb : PdB K H z y' false := bad.resolve_left h16
            refine ⟨_, rfl, _, 16, rfl, rfl, _, rfl, ite2 (fun e => absurd (of_decide_eq_true e) (by omega)) (fun e => ?_)⟩
            refine ⟨.str z, rfl, y', rfl, z, y', false, rfl, zl, pb.same s2, fun H2 s3 => ⟨_, rfl, iteT ?_⟩⟩
            exact ⟨_, rfl, .inr (.inl ⟨_, rfl, log_small i16⟩), fun d nd => k _ d (s2.trans s3) nd⟩
        · have pb : PdB K H z y' true := by
            obtain ⟨ad, rfl, sq, sc, yl, rb⟩ := pa
            rw [← rb]
            exact .ok sq sc (by omega)
          obtain ⟨ad, rfl, sq, sc, yl, rb⟩ := pa
          refine ⟨_, rfl, _, 16, rfl, rfl, _, rfl, ite2 (fun e => absurd (of_decide_eq_true e) (by omega)) (fun e => ?_)⟩
          refine ⟨.str z, rfl, _, rfl, z, _, true, rfl, zl, pb.same s2, fun H2 s3 => ⟨_, rfl, iteF ?_⟩⟩
          refine ⟨.str x, rfl, ⟨_, rfl⟩, .ref ad, rfl, _, ad, [⟨#[c]⟩, yy], rfl, rfl, .inr (same_tupG (s2.trans s3) _ _ sq), ?_, ?_⟩
          · have yz : yy.length = (tl yy).length := (Array.length_toList).symm
            show 1 + (yy.length + 0) + 2 * 0 ≤ 16777216
            omega
          have xyl : (tl x).length ≤ 101 * 16 := by
            rw [ex]
            exact tkl i
          have xz : x.length = (tl x).length := (Array.length_toList).symm
          have tj : tl (Txt.join "" [⟨#[c]⟩, yy]) = c :: tl yy := by
            rw [tl_cat]
            show c :: (tl yy ++ []) = _
            rw [List.append_nil]
          have jz : (Txt.join "" [⟨#[c]⟩, yy]).length = (tl (Txt.join "" [⟨#[c]⟩, yy])).length := (Array.length_toList).symm
          have tx : tl (x ++ Txt.join "" [⟨#[c]⟩, yy]) = chs (ps.take i ++ [(c, yy)]) := by
            rw [tl_appG, tj, ex, chs_app, chs_one]
          refine ⟨_, _, rfl, rfl, ?_, ?_⟩
          · rw [jz, tj, List.length_cons, sizeLine_eq]
            omega
          dsimp only [List.set]
          have nl : (tl (x ++ Txt.join "" [⟨#[c]⟩, yy])).length ≤ 100000 := by
            rw [tl_appG, tj, List.length_append, List.length_cons]
            omega
          refine ⟨.str _, rfl, _, rfl, nl, fun H4 q ys s4 hq nd mem => ?_⟩
          have yn := nsym_len nd mem
          have s5 := (s2.trans s3).trans s4
          rw [tx] at yn
          have up : i < ps.length → ps.take (i + 1) = ps.take i ++ [(c, yy)] → nsym (chs (ps.take i ++ [(c, yy)])) ≤ 6 := fun lt tk => by
            rw [← tk]
            refine Nat.le_trans (nsym_mono fun d hd => ?_) six
            obtain ⟨pr, hpr, hd⟩ := List.mem_flatMap.mp hd
            exact List.mem_flatMap.mpr ⟨pr, List.mem_of_mem_take hpr, hd⟩
          refine ⟨q, _, rfl, .inl (SqL.of hq), _, 6, rfl, rfl, _, rfl, ite2 (fun e => ?_) (fun e => ?_)⟩
          · have e := of_decide_eq_true e
            rw [List.length_map, yn] at e
            rcases cas with ⟨lt, tk⟩ | ⟨_, k⟩
            · have := up lt tk
              omega
            · exact ⟨_, rfl, .inr (.inl ⟨_, rfl, log_small i16⟩), fun d nd => k _ d s5 nd⟩
          · have e : ¬ (6 : Int) < ((ys.map V.str).length : Int) := fun h => e (decide_eq_true h)
            rw [List.length_map, yn] at e
            rcases cas with ⟨lt, tk⟩ | ⟨h6, k⟩
            · exact ⟨_, _, _, rfl, by rw [tx, tk], s5, lt⟩
            · omega
      · rintro σ G ⟨x, y4, y5, rfl, ex, sm, ij⟩
        rcases why with ⟨y, hy, bad, k⟩ | ⟨l, k⟩
        · exact absurd (List.getElem?_eq_some_iff.mp hy).1 (by omega)
        · have hpG := sm _ _ hp
          refine ⟨.str z, rfl, .ref p, rfl, p, C, dx, [], rfl, hpG, hcl, nB, by decide, ?_⟩
          have npa : a ≠ p := ne_of ha hp (by intro z; cases z)
          refine ⟨.ref a, rfl, a, xs, rfl, .inr (SqT.of ((upd_ne npa).trans (sm _ _ ha))), fun r hr0 => ?_⟩
          have npr : p ≠ r := fun e => by
            rw [← e, upd_same] at hr0
            cases hr0
          refine ⟨.ref p, rfl, p, C, dx, _, rfl, (upd_ne npr).trans upd_same, hcl, nR, (by show 1 < 1000; decide), ?_⟩
          have xl : (tl x).length ≤ 100000 := by
            rw [ex]
            have := tkl xs.length
            omega
          refine ⟨.str x, rfl, x, rfl, xl, fun H' q ys s2 hq nd mem => ?_⟩
          have hp2 := s2 _ _ (upd_same : (upd _ p _) p = _)
          refine ⟨.ref p, rfl, p, C, dx, _, rfl, hp2, hcl, nO, (by show 2 < 1000; decide), ?_⟩
          rw [ex, l, List.take_length] at mem
          have nqp : q ≠ p := ne_of hq hp2 (by intro z; cases z)
          have nrp : r ≠ p := fun e => npr e.symm
          refine k _ (fun b o hb nb => ?_) ⟨dx, r, q, ys, upd_same, (upd_ne nrp).trans (s2 _ _ ((upd_ne nrp).trans upd_same)), (upd_ne nqp).trans hq, nd, mem⟩
          have hb2 := sm _ _ hb
          have nbr : b ≠ r := fun e => by
            rw [e] at hb2 nb
            rw [upd_ne nb] at hr0
            rw [hb2] at hr0
            cases hr0
          exact (upd_ne nb).trans (s2 _ _ ((upd_ne nb).trans ((upd_ne nbr).trans ((upd_ne nb).trans hb2))))
end
end DW
/-! k62: why a Grammar is refused -/
namespace DW
open PySem PySem.Spec PyProof.Rows L2 TL
set_option autoImplicit false
theorem fnOk_orX {P : Program} {w : World} {K : PySem.W.Frag} {mg : Str → Option Value} {base : Heap} {CX : CXT} {k : Nat} {f : Addr} {fd : FuncData} {ps : List Str} {sp sq : Sp} (F : FnOk P w K mg base CX k f fd ps sp) (G : FnOk P w K mg base CX k f fd ps sq) :
    FnOk P w K mg base CX k f fd ps (fun vs H Q E => sp vs H Q E ∨ sq vs H Q E) :=
  ⟨fun vs H Q E h => h.elim (F.len vs H Q E) (G.len vs H Q E), fun A outer s H as us vs Q E hr e0 hb r h => by
    rcases h with h | h
    · exact F.run A outer s H as us vs Q E hr e0 hb r h
    · exact G.run A outer s H as us vs Q E hr e0 hb r h⟩
/-- what is asked of the classes -/
structure ToldJ (K : PySem.W.Frag) (mg : Str → Option Value) (CA CP CD : Addr) : Prop where
  gA : mg "InvalidAlphabet" = some (.ref CA)
  gP : mg "InvalidProduction" = some (.ref CP)
  gD : mg "DownwordsError" = some (.ref CD)
  mi : mg "isinstance" = none
  tA : EX.ErrC K CA
  tP : EX.ErrC K CP
  no : PySem.W.findIn K (.ref CP) "index" = some none
  eA : PySem.W.exmAny K (.ref CA) [.ref CA, .ref CP] = some true
  eP : PySem.W.exmAny K (.ref CP) [.ref CA, .ref CP] = some true
  kAD : PySem.W.kitOne K (.ref CA) (.ref CD) = some true
  kPD : PySem.W.kitOne K (.ref CP) (.ref CD) = some true
  kAA : PySem.W.kitOne K (.ref CA) (.ref CA) = some true
  kPA : PySem.W.kitOne K (.ref CP) (.ref CA) = some false
/-- a list or a tuple -/
def LT (H : Hp) (a : Addr) (xs : List V) : Prop := H a = some (.lst xs) ∨ H a = some (.tup xs)
def spTold (K : PySem.W.Frag) : Sp := fun vs H Q _ => ∃ va vb : V, vs = [va, vb] ∧
  ((BadA K H va ∧ ∀ H', Same H H' → Q (.str "alphabet") H') ∨
   ∃ z : Str, va = .str z ∧ Alph z ∧
    ((NoLT K H vb ∧ ∀ H' t, Same H H' → H' t = some (.tup [.str "production", .non]) → Q (.ref t) H') ∨
     ∃ (a : Addr) (xs : List V) (ps : List (Nat × Str)), vb = .ref a ∧ LT H a xs ∧ GrPre K H z xs ps ∧
      ((∃ v, xs[ps.length]? = some v ∧ GrBad K H z ps v ∧ ∀ H' t, Same H H' → H' t = some (.tup [.str "production", .int (ps.length : Int)]) → Q (.ref t) H') ∨
       (xs.length = ps.length ∧ ∀ H', Same H H' → Q .non H'))))
theorem NoLT.same {K : PySem.W.Frag} {H H' : Hp} {v : V} (s : Same H H') (h : NoLT K H v) : NoLT K H' v := by
  obtain ⟨t, ty, kt⟩ := h
  exact ⟨t, tyX_sameG s ty, kt⟩
theorem BadA.same {K : PySem.W.Frag} {H H' : Hp} {v : V} (s : Same H H') (h : BadA K H v) : BadA K H' v := by
  cases h with
  | str l h => exact .str l h
  | no h => exact .no (h.sameG s)
theorem GrPre.same {K : PySem.W.Frag} {H H' : Hp} {z : Str} {xs : List V} {ps : List (Nat × Str)} (s : Same H H') (h : GrPre K H z xs ps) : GrPre K H' z xs ps := by
  obtain ⟨h1, h2, h3⟩ := h
  refine ⟨h1, fun i v hi hv => ?_, h3⟩
  obtain ⟨c, y, e, p⟩ := h2 i v hi hv
  exact ⟨c, y, e, p.same s⟩
theorem GrBad.same {K : PySem.W.Frag} {H H' : Hp} {z : Str} {ps : List (Nat × Str)} {v : V} (s : Same H H') (h : GrBad K H z ps v) : GrBad K H' z ps v := by
  rcases h with h | h | ⟨c, y, p, h⟩
  · exact .inl h
  · exact .inr (.inl (h.same s))
  · exact .inr (.inr ⟨c, y, p.same s, h⟩)
section
variable {P : Program} {w : World} {K : PySem.W.Frag} {mg : Str → Option Value} {base : Heap}
theorem scTold : FnScope ["_law_alphabet_here", "_law_productions", "_law_caught", "e"] ["_law_alphabet_here", "_law_productions"] (defScope sLTold) := ⟨rfl, rfl, rfl, by decide +kernel, rfl, by decide +kernel, by decide +kernel⟩
theorem ok_told (D : Df K mg "_law_told" sLTold ["_law_alphabet_here", "_law_productions"]) (L : DfGr K mg) (A : EX.DfE0 K mg "InvalidAlphabet") (M : EX.DfE P K mg "InvalidProduction" "index" EX.MsgOk) {CD : Addr} (J : ToldJ K mg A.C M.C CD) : FnOk P w K mg base CX0 5 D.f D.fd ["_law_alphabet_here", "_law_productions"] (spTold K) := by
  have GI := fnOk_orX (ok_gr (P := P) (w := w) (base := base) L A M) (ok_grT L A M)
  refine D.F.ok scTold (fun vs H Q E h => ?_) (fun cdv A0 outer s H vs Q E hr h => ?_)
  · obtain ⟨va, vb, rfl, _⟩ := h
    rfl
  · obtain ⟨va, vb, rfl, h⟩ := h
    have hr3 : Room (3 + 1) _ := hr.mono (by decide)
    refine ⟨_, (pss_cons (ps_set (i := 2) scTold.nd rfl (.inl rfl) pe_non) (pss_cons (EK.ps_try_keep (i := 3) rfl rfl rfl scTold.nd rfl rfl ⟨rfl, by decide, .inl J.gA⟩ ⟨rfl, by decide, .inl J.gP⟩ (fun W pn xe tk _ => (pss_one (ps_expr (EK.pe_makeS L.mkr GI hr3 (by rfl) L.g L.i.b (fun σ => passAt tk σ) (pa_cons (pv 0) (pa_cons (pv 1) pa_nil)))))) (fun a oe pn => pss_one (ps_set (i := 2) scTold.nd rfl (.inl rfl) (pv 3)))) (pss_cons (ps_if (pt_cmpR op_isN (pv 2) pe_non (nomark _)) (pss_one (ps_ret pe_non)) pss_nil) (pss_cons (ps_if (pt_not (pt_val (pe_callB EK.call_isK (by rfl) J.mi (by decide +kernel) (pa_cons (pv 2) (pa_cons (pe_glob (v := V.ref CD) (by rfl) J.gD rfl) pa_nil))))) (pss_one (ps_ret pe_str)) pss_nil) (pss_one (ps_ret (pe_ifExp (pt_val (pe_callB EK.call_isK (by rfl) J.mi (by decide +kernel) (pa_cons (pv 2) (pa_cons (pe_glob (v := V.ref A.C) (by rfl) J.gA rfl) pa_nil)))) pe_str (pe_tup (pa_cons pe_str (pa_cons (EK.pe_xfK (pv 2)) pa_nil)))))))))), ?_⟩
    refine ⟨va, rfl, vb, rfl, fun x dx hx hdx nxd => ?_⟩
    have sX : Same H (upd (upd H dx (.own x)) x (.ins L.C dx [])) := fun b o e => (upd_ne (ne_of_none e hx)).trans ((upd_ne (ne_of_none e hdx)).trans e)
    rcases h with ⟨bA, k⟩ | ⟨z, rfl, al, h⟩
    · refine .inl ⟨x, L.C, dx, va, vb, rfl, upd_same, L.cl, L.nB, L.nR, L.nO, .inl ⟨bA.same sX, fun H' s' => ?_⟩⟩
      refine ⟨J.eA, fun a na => ?_⟩
      have sa := same_upd (o := EK.Kep a (.ref A.C) none) na
      refine ⟨.ref a, rfl, ?_⟩
      refine ⟨.ref a, rfl, rfl, _, rfl, iteF ?_⟩
      refine ⟨.ref a, rfl, a, A.C, none, .ref CD, .ref CD, true, rfl, upd_same, J.tA, (fun dd e => nomatch e), (fun u h => h), J.kAD, _, rfl, iteF ?_⟩
      refine ⟨.ref a, rfl, a, A.C, none, .ref A.C, .ref A.C, true, rfl, upd_same, J.tA, (fun dd e => nomatch e), (fun u h => h), J.kAA, _, rfl, iteT ?_⟩
      exact k _ ((sX.trans s').trans sa)
    rcases h with ⟨nl, k⟩ | ⟨a0, xs, ps, rfl, lt, pre, h⟩
    · refine .inl ⟨x, L.C, dx, .str z, vb, rfl, upd_same, L.cl, L.nB, L.nR, L.nO, .inr ⟨z, rfl, al, .inl ⟨nl.same sX, fun H' d s' nd => ?_⟩⟩⟩
      have sd := same_upd (o := .xd [(("index" : Str), V.non)]) nd
      have gd : (upd H' d (.xd [(("index" : Str), V.non)])) d = some (.xd [(("index" : Str), V.non)]) := upd_same
      generalize upd H' d (.xd [(("index" : Str), V.non)]) = H2 at sd gd ⊢
      refine ⟨J.eP, fun a na => ?_⟩
      have sa := same_upd (o := EK.Kep a (.ref M.C) (some d)) na
      have hdd : ∀ dd, some d = some dd → ∃ fs, (upd H2 a (EK.Kep a (.ref M.C) (some d))) dd = some (.xd fs) := fun dd e => by cases e; exact ⟨_, sa _ _ gd⟩
      refine ⟨.ref a, rfl, ?_⟩
      refine ⟨.ref a, rfl, rfl, _, rfl, iteF ?_⟩
      refine ⟨.ref a, rfl, a, M.C, some d, .ref CD, .ref CD, true, rfl, upd_same, J.tP, hdd, (fun u h => h), J.kPD, _, rfl, iteF ?_⟩
      refine ⟨.ref a, rfl, a, M.C, some d, .ref A.C, .ref A.C, false, rfl, upd_same, J.tP, hdd, (fun u h => h), J.kPA, _, rfl, iteF ?_⟩
      refine ⟨.ref a, rfl, a, M.C, d, _, V.non, rfl, upd_same, J.tP, J.no, sa _ _ gd, rfl, ?_⟩
      exact ⟨by show 2 ≤ sizeLine; decide, fun t ht => k _ t ((((sX.trans s').trans sd).trans sa).trans (same_upd ht)) upd_same⟩
    have pre' := pre.same sX
    rcases lt with ha | ha
    · rcases h with ⟨v, hv, bad, k⟩ | ⟨l, k⟩
      · refine .inl ⟨x, L.C, dx, .str z, .ref a0, rfl, upd_same, L.cl, L.nB, L.nR, L.nO, .inr ⟨z, rfl, al, .inr ⟨a0, xs, ps, rfl, sX _ _ ha, pre', .inl ⟨v, hv, bad.same sX, fun H' d s' nd => ?_⟩⟩⟩⟩
        have sd := same_upd (o := .xd [(("index" : Str), V.int (ps.length : Int))]) nd
        have gd : (upd H' d (.xd [(("index" : Str), V.int (ps.length : Int))])) d = some (.xd [(("index" : Str), V.int (ps.length : Int))]) := upd_same
        generalize upd H' d (.xd [(("index" : Str), V.int (ps.length : Int))]) = H2 at sd gd ⊢
        refine ⟨J.eP, fun a na => ?_⟩
        have sa := same_upd (o := EK.Kep a (.ref M.C) (some d)) na
        have hdd : ∀ dd, some d = some dd → ∃ fs, (upd H2 a (EK.Kep a (.ref M.C) (some d))) dd = some (.xd fs) := fun dd e => by cases e; exact ⟨_, sa _ _ gd⟩
        refine ⟨.ref a, rfl, ?_⟩
        refine ⟨.ref a, rfl, rfl, _, rfl, iteF ?_⟩
        refine ⟨.ref a, rfl, a, M.C, some d, .ref CD, .ref CD, true, rfl, upd_same, J.tP, hdd, (fun u h => h), J.kPD, _, rfl, iteF ?_⟩
        refine ⟨.ref a, rfl, a, M.C, some d, .ref A.C, .ref A.C, false, rfl, upd_same, J.tP, hdd, (fun u h => h), J.kPA, _, rfl, iteF ?_⟩
        refine ⟨.ref a, rfl, a, M.C, d, _, V.int (ps.length : Int), rfl, upd_same, J.tP, J.no, sa _ _ gd, rfl, ?_⟩
        exact ⟨by show 2 ≤ sizeLine; decide, fun t ht => k _ t ((((sX.trans s').trans sd).trans sa).trans (same_upd ht)) upd_same⟩
      · refine .inl ⟨x, L.C, dx, .str z, .ref a0, rfl, upd_same, L.cl, L.nB, L.nR, L.nO, .inr ⟨z, rfl, al, .inr ⟨a0, xs, ps, rfl, sX _ _ ha, pre', .inr ⟨l, fun H' kp _ => ?_⟩⟩⟩⟩
        have sH : Same H H' := fun b o e => kp b o (sX _ _ e) (ne_of_none e hx)
        exact ⟨rfl, .non, rfl, rfl, _, rfl, iteT (k _ sH)⟩
    · rcases h with ⟨v, hv, bad, k⟩ | ⟨l, k⟩
      · refine .inr ⟨x, L.C, dx, .str z, .ref a0, rfl, upd_same, L.cl, L.nB, L.nR, L.nO, .inr ⟨z, rfl, al, .inr ⟨a0, xs, ps, rfl, sX _ _ ha, pre', .inl ⟨v, hv, bad.same sX, fun H' d s' nd => ?_⟩⟩⟩⟩
        have sd := same_upd (o := .xd [(("index" : Str), V.int (ps.length : Int))]) nd
        have gd : (upd H' d (.xd [(("index" : Str), V.int (ps.length : Int))])) d = some (.xd [(("index" : Str), V.int (ps.length : Int))]) := upd_same
        generalize upd H' d (.xd [(("index" : Str), V.int (ps.length : Int))]) = H2 at sd gd ⊢
        refine ⟨J.eP, fun a na => ?_⟩
        have sa := same_upd (o := EK.Kep a (.ref M.C) (some d)) na
        have hdd : ∀ dd, some d = some dd → ∃ fs, (upd H2 a (EK.Kep a (.ref M.C) (some d))) dd = some (.xd fs) := fun dd e => by cases e; exact ⟨_, sa _ _ gd⟩
        refine ⟨.ref a, rfl, ?_⟩
        refine ⟨.ref a, rfl, rfl, _, rfl, iteF ?_⟩
        refine ⟨.ref a, rfl, a, M.C, some d, .ref CD, .ref CD, true, rfl, upd_same, J.tP, hdd, (fun u h => h), J.kPD, _, rfl, iteF ?_⟩
        refine ⟨.ref a, rfl, a, M.C, some d, .ref A.C, .ref A.C, false, rfl, upd_same, J.tP, hdd, (fun u h => h), J.kPA, _, rfl, iteF ?_⟩
        refine ⟨.ref a, rfl, a, M.C, d, _, V.int (ps.length : Int), rfl, upd_same, J.tP, J.no, sa _ _ gd, rfl, ?_⟩
        exact ⟨by show 2 ≤ sizeLine; decide, fun t ht => k _ t ((((sX.trans s').trans sd).trans sa).trans (same_upd ht)) upd_same⟩
      · refine .inr ⟨x, L.C, dx, .str z, .ref a0, rfl, upd_same, L.cl, L.nB, L.nR, L.nO, .inr ⟨z, rfl, al, .inr ⟨a0, xs, ps, rfl, sX _ _ ha, pre', .inr ⟨l, fun H' kp _ => ?_⟩⟩⟩⟩
        have sH : Same H H' := fun b o e => kp b o (sX _ _ e) (ne_of_none e hx)
        exact ⟨rfl, .non, rfl, rfl, _, rfl, iteT (k _ sH)⟩
end
end DW
/-! k62: items drawn, productions drawn -/
namespace DW
open PySem PySem.Spec PyProof.Rows L2 TL
set_option autoImplicit false
def spItems : Sp := fun vs H Q _ => ∃ (t c : Addr) (n : Nat) (z nm : Str) (most : Int), vs = [.ref t, .str z, .str nm, .int most] ∧ Tape H t c n ∧ n + 7 < 2 ^ 40 ∧ (tl z).length ≠ 0 ∧ (tl z).length ≤ 100 ∧ (tl nm).length ≠ 0 ∧ (tl nm).length ≤ 100 ∧ most.natAbs ≤ 1000 ∧
  ∀ H' y, Kp t H H' → Tape H' t c (n + 7) → (tl y).length ≤ 3 → (∀ d ∈ tl y, d ∈ tl z ∨ d ∈ tl nm) → Q (.str y) H'
section
variable {P : Program} {w : World} {K : PySem.W.Frag} {mg : Str → Option Value} {base : Heap}
theorem scItems : FnScope ["_law_tape", "_law_alphabet_here", "_law_names", "_law_most", "_law_found", "_law_k", "_law_used", "_law_third", "_law_sign"] ["_law_tape", "_law_alphabet_here", "_law_names", "_law_most"] (defScope sLItems) := ⟨rfl, rfl, rfl, by decide +kernel, rfl, by decide +kernel, by decide +kernel⟩
theorem ok_items (D : Df K mg "_law_items" sLItems ["_law_tape", "_law_alphabet_here", "_law_names", "_law_most"]) (Dd : DfDraw K mg) (Dp : DfPick K mg) (B : Bl mg) : FnOk P w K mg base CX0 3 D.f D.fd ["_law_tape", "_law_alphabet_here", "_law_names", "_law_most"] spItems := by
  have Gd : FnOk P w K mg base CX0 1 Dd.f Dd.fd ["_law_tape", "_law_many"] spDraw := ok_draw Dd B.len
  have Gp : FnOk P w K mg base CX0 2 Dp.f Dp.fd ["_law_tape", "_law_items_here"] (spPick K) := ok_pick Dp Dd B.len
  refine D.F.ok scItems (fun vs H Q E h => ?_) (fun cdv A0 outer s H vs Q E hr h => ?_)
  · obtain ⟨t, c, n, z, nm, most, rfl, _⟩ := h
    rfl
  · obtain ⟨t, c, n, z, nm, most, rfl, T, hn, z0, zl, n0, nl, ml, k⟩ := h
    have hr1 : Room 1 _ := hr.mono (by decide)
    have hr2 : Room 2 _ := hr.mono (by decide)
    refine ⟨_, PSs.nox (pss_cons (ps_set (i := 4) scItems.nd rfl (.inl rfl) pe_str) (pss_cons (ps_for PassesOwn.never rfl (pi_range1 rfl B.range (pa_cons (pe_call Gd hr1 (by rfl) Dd.g Dd.F.kp Dd.b .nil pass0 (pa_cons (pv 0) (pa_cons pe_int pa_nil))) pa_nil)) (pg_name (i := 5) scItems.nd rfl (.inl rfl)) (pss_cons (ps_set (i := 6) scItems.nd rfl (.inl rfl) (pe_callB call_len_seq (by rfl) B.len PySem.boot_len (pa_cons (pe_lc (own := [("_law_sign", 8)]) (g := gName 8) rfl scItems.nd (pi_str (pv 4)) (blkOk_by (N := ["_law_tape", "_law_alphabet_here", "_law_names", "_law_most", "_law_found", "_law_k", "_law_used", "_law_third", "_law_sign"]) (sc := defScope sLItems) (by decide +kernel)) (fun _ _ _ _ _ => pg_name (i := 8) scItems.nd rfl (Or.inl rfl)) (fun _ _ _ _ _ => (pts_one (pt_cmpR op_in_sign (pv 8) (pv 2) rfl))) (fun _ _ _ _ _ => (pv 8))) pa_nil))) (pss_cons (ps_set (i := 7) scItems.nd rfl (.inl rfl) (pe_ifExp (pt_cmpR op_lt (pv 6) (pv 3) (nomark _)) (pv 2) (pv 1))) (pss_one (ps_set (i := 4) scItems.nd rfl (.inl rfl) (pe_op op_add_str (pv 4) (pe_call Gp hr2 (by rfl) Dp.g Dp.F.kp Dp.b .nil pass0 (pa_cons (pv 0) (pa_cons (pe_call Gp hr2 (by rfl) Dp.g Dp.F.kp Dp.b .nil pass0 (pa_cons (pv 0) (pa_cons (pe_lst (pa_cons (pv 1) (pa_cons (pv 1) (pa_cons (pv 7) pa_nil)))) pa_nil))) pa_nil))))))))) (pss_one (ps_ret (pv 4))))), ?_⟩
    refine ⟨.ref t, rfl, t, c, 4, n, rfl, T, by omega, by decide, by decide, fun H1 r k1 T1 r0 r1 => ?_⟩
    refine ⟨r, rfl, by omega, by omega, for_range (lo := 0) (n := r.toNat) (fun i σ G => ∃ (y : Str) (y5 y6 y7 y8 : Option V), σ = [some (.ref t), some (.str z), some (.str nm), some (.int most), some (.str y), y5, y6, y7, y8] ∧ (tl y).length = i ∧ (∀ d ∈ tl y, d ∈ tl z ∨ d ∈ tl nm) ∧ Kp t H G ∧ Tape G t c (n + 1 + 2 * i)) ?_ ?_ ?_⟩
    · exact ⟨"", _, _, _, _, rfl, rfl, (fun d hd => by cases hd), k1, T1⟩
    · rintro i σ G hi ⟨y, y5, y6, y7, y8, rfl, yl, ym, kG, TG⟩
      dsimp only [gName, List.set]
      have yz : y.cps.size = (tl y).length := (Array.length_toList).symm
      refine ⟨.str y, rfl, y, rfl, fun L hL => ?_⟩
      refine lc_it (walk_str (z := y)) (fun j G' => ∃ ls : List V, G' L = some (.lst ls) ∧ ls.length ≤ j ∧ Same G G') ⟨[], upd_same, Nat.le_refl _, same_upd hL⟩ (fun _ _ _ _ => trivial) ?_ ?_
      · rintro j v G1 G2 hj ⟨ls, gL, ll, sm⟩ ⟨rfl, d, hd, rfl⟩
        refine ⟨rfl, .str ⟨#[d]⟩, rfl, .str nm, rfl, d, nm, rfl, rfl, ?_⟩
        refine ⟨_, rfl, ite2 (fun e => ⟨_, rfl, ls, gL, by rw [sizeLine_eq]; omega, _, upd_same, by rw [List.length_append]; show ls.length + 1 ≤ j + 1; omega, fun b o h => (upd_ne (ne_of_none h hL)).trans (sm b o h)⟩) (fun e => ⟨ls, gL, by omega, sm⟩)⟩
      · rintro G1 ⟨ls, gL, ll, sm⟩
        refine ⟨L, ls, rfl, .inl (SqL.of gL), _, rfl, .int most, rfl, _, most, rfl, rfl, _, rfl, ite2 (fun e => ?_) (fun e => ?_)⟩
        · refine ⟨.str nm, rfl, ?_⟩
          dsimp only [List.set]
          refine ⟨.str y, rfl, .ref t, rfl, .ref t, rfl, .str z, rfl, .str z, rfl, .str nm, rfl, by show 3 ≤ sizeLine; decide, fun W hW => ?_⟩
          have sW := same_upd (o := .lst [V.str z, V.str z, V.str nm]) hW
          have TW := (TG.same sm).same sW
          have kW := kG.trans (TG.kp (sm.trans sW))
          refine ⟨t, c, n + 1 + 2 * i, .ref W, rfl, TW, by omega, .inl ⟨W, _, rfl, SqL.of upd_same, (by intro e; cases e), by show 3 < 2 ^ 30; decide, fun H2 x2 k2 T2 mx => ?_⟩⟩
          have mx' : x2 = .str z ∨ x2 = .str nm := by
            simp only [List.mem_cons, List.not_mem_nil, or_false] at mx
            rcases mx with h | h | h
            · exact .inl h
            · exact .inl h
            · exact .inr h
          have us : ∃ u : Str, x2 = .str u ∧ (tl u).length ≠ 0 ∧ (tl u).length ≤ 100 ∧ ∀ d ∈ tl u, d ∈ tl z ∨ d ∈ tl nm := by
            rcases mx' with h | h
            · exact ⟨z, h, z0, zl, fun d hd => .inl hd⟩
            · exact ⟨nm, h, n0, nl, fun d hd => .inr hd⟩
          obtain ⟨u, rfl, u0, ul, um⟩ := us
          have uz : u.length = (tl u).length := (Array.length_toList).symm
          refine ⟨t, c, n + 1 + 2 * i + 1, .str u, rfl, T2, by omega, .inr ⟨u, rfl, by omega, by omega, fun H3 d k3 T3 hd => ?_⟩⟩
          have yz2 : y.length = (tl y).length := (Array.length_toList).symm
          have r3 : r.toNat ≤ 3 := by omega
          have e1 : tl (y ++ (⟨#[d]⟩ : Str)) = tl y ++ [d] := tl_appG _ _
          refine ⟨y, ⟨#[d]⟩, rfl, rfl, by rw [yz2, yl, sizeLine_eq]; show i + 1 ≤ _; omega, _, _, _, _, _, rfl, by rw [e1, List.length_append, yl]; rfl, fun q hq => ?_, kW.trans (k2.trans k3), T3.mono (by omega)⟩
          rw [e1] at hq
          rcases List.mem_append.mp hq with h | h
          · exact ym q h
          · rw [List.mem_singleton.mp h]
            exact um d hd
        · refine ⟨.str z, rfl, ?_⟩
          dsimp only [List.set]
          refine ⟨.str y, rfl, .ref t, rfl, .ref t, rfl, .str z, rfl, .str z, rfl, .str z, rfl, by show 3 ≤ sizeLine; decide, fun W hW => ?_⟩
          have sW := same_upd (o := .lst [V.str z, V.str z, V.str z]) hW
          have TW := (TG.same sm).same sW
          have kW := kG.trans (TG.kp (sm.trans sW))
          refine ⟨t, c, n + 1 + 2 * i, .ref W, rfl, TW, by omega, .inl ⟨W, _, rfl, SqL.of upd_same, (by intro e; cases e), by show 3 < 2 ^ 30; decide, fun H2 x2 k2 T2 mx => ?_⟩⟩
          have mx' : x2 = .str z ∨ x2 = .str z := by
            simp only [List.mem_cons, List.not_mem_nil, or_false] at mx
            rcases mx with h | h | h
            · exact .inl h
            · exact .inl h
            · exact .inr h
          have us : ∃ u : Str, x2 = .str u ∧ (tl u).length ≠ 0 ∧ (tl u).length ≤ 100 ∧ ∀ d ∈ tl u, d ∈ tl z ∨ d ∈ tl nm := by
            rcases mx' with h | h
            · exact ⟨z, h, z0, zl, fun d hd => .inl hd⟩
            · exact ⟨z, h, z0, zl, fun d hd => .inl hd⟩
          obtain ⟨u, rfl, u0, ul, um⟩ := us
          have uz : u.length = (tl u).length := (Array.length_toList).symm
          refine ⟨t, c, n + 1 + 2 * i + 1, .str u, rfl, T2, by omega, .inr ⟨u, rfl, by omega, by omega, fun H3 d k3 T3 hd => ?_⟩⟩
          have yz2 : y.length = (tl y).length := (Array.length_toList).symm
          have r3 : r.toNat ≤ 3 := by omega
          have e1 : tl (y ++ (⟨#[d]⟩ : Str)) = tl y ++ [d] := tl_appG _ _
          refine ⟨y, ⟨#[d]⟩, rfl, rfl, by rw [yz2, yl, sizeLine_eq]; show i + 1 ≤ _; omega, _, _, _, _, _, rfl, by rw [e1, List.length_append, yl]; rfl, fun q hq => ?_, kW.trans (k2.trans k3), T3.mono (by omega)⟩
          rw [e1] at hq
          rcases List.mem_append.mp hq with h | h
          · exact ym q h
          · rw [List.mem_singleton.mp h]
            exact um d hd
    · rintro σ G ⟨y, y5, y6, y7, y8, rfl, yl, ym, kG, TG⟩
      exact ⟨.str y, rfl, k _ _ kG (TG.mono (by omega)) (by omega) ym⟩
end
end DW
/-! k62: good productions -/
namespace DW
open PySem PySem.Spec PyProof.Rows L2 TL
set_option autoImplicit false
/-- productions of the symbols U to Z over an alphabet -/
def GoodPs (K : PySem.W.Frag) (H : Hp) (z : Str) (xs : List V) (ps : List (Nat × Str)) : Prop := ps.length = xs.length ∧ ∀ (i : Nat) (v : V), xs[i]? = some v → ∃ c y, ps[i]? = some (c, y) ∧ PdAt K H z v c y ∧ c = 85 + i % 6 ∧ ∀ d ∈ tl y, d ∈ tl z ∨ (85 ≤ d ∧ d ≤ 90)
theorem PdAt.kp {K : PySem.W.Frag} {H H' : Hp} {z : Str} {v : V} {c : Nat} {y : Str} {t : Addr} (s : Kp t H H') (h : PdAt K H z v c y) : PdAt K H' z v c y := by
  obtain ⟨a, e, g, h⟩ := h
  exact ⟨a, e, s.tup g, h⟩
theorem PdAt.put {K : PySem.W.Frag} {H : Hp} {z : Str} {v : V} {c : Nat} {y : Str} {W : Addr} {us : List V} {o : HO} (hW : H W = some (.lst us)) (h : PdAt K H z v c y) : PdAt K (upd H W o) z v c y := by
  obtain ⟨a, e, g, h⟩ := h
  refine ⟨a, e, ?_, h⟩
  rcases g with (g | ⟨o, g⟩) | g
  · exact .inl (.inl ((upd_ne (ne_of g hW (by intro z; cases z))).trans g))
  · exact .inl (.inr ⟨o, (upd_ne (ne_of g hW (by intro z; cases z))).trans g⟩)
  · exact .inr g
def nmS (r : Nat) : Str := cutS "UVWXYZ" none (some ((r : Int) + 1))
theorem nmS_len : ∀ r : Nat, r < 6 → (tl (nmS r)).length = r + 1 := by decide +kernel
theorem nmS_last : ∀ r : Nat, r < 6 → atI (nmS r).cps.toList (-1) = some (85 + r) := by decide +kernel
theorem nmS_mem : ∀ r : Nat, r < 6 → ∀ d ∈ tl (nmS r), 85 ≤ d ∧ d ≤ 90 := by decide +kernel
def spGood (K : PySem.W.Frag) : Sp := fun vs H Q _ => ∃ (t c : Addr) (n : Nat) (z : Str) (many : Int), vs = [.ref t, .str z, .int many] ∧ Tape H t c n ∧ n + 200 < 2 ^ 40 ∧ Alph z ∧ 0 ≤ many ∧ many ≤ 17 ∧
  ∀ H' a xs ps, Kp t H H' → Tape H' t c (n + 200) → H a = none → H' a = some (.lst xs) → (xs.length : Int) = many → GoodPs K H' z xs ps → Q (.ref a) H'
section
variable {P : Program} {w : World} {K : PySem.W.Frag} {mg : Str → Option Value} {base : Heap}
theorem scGood : FnScope ["_law_tape", "_law_alphabet_here", "_law_many", "_law_found", "_law_k", "_law_names"] ["_law_tape", "_law_alphabet_here", "_law_many"] (defScope sLGood) := ⟨rfl, rfl, rfl, by decide +kernel, rfl, by decide +kernel, by decide +kernel⟩
theorem ok_good (D : Df K mg "_law_good" sLGood ["_law_tape", "_law_alphabet_here", "_law_many"]) (Di0 : Df K mg "_law_items" sLItems ["_law_tape", "_law_alphabet_here", "_law_names", "_law_most"]) (Dd : DfDraw K mg) (Dp : DfPick K mg) (B : Bl mg) : FnOk P w K mg base CX0 4 D.f D.fd ["_law_tape", "_law_alphabet_here", "_law_many"] (spGood K) := by
  have Gi : FnOk P w K mg base CX0 3 Di0.f Di0.fd ["_law_tape", "_law_alphabet_here", "_law_names", "_law_most"] spItems := ok_items Di0 Dd Dp B
  refine D.F.ok scGood (fun vs H Q E h => ?_) (fun cdv A0 outer s H vs Q E hr h => ?_)
  · obtain ⟨t, c, n, z, many, rfl, _⟩ := h
    rfl
  · obtain ⟨t, c, n, z, many, rfl, T, hn, al, m0, m17, k⟩ := h
    have hr3 : Room 3 _ := hr.mono (by decide)
    refine ⟨_, PSs.nox (pss_cons (ps_set (i := 3) scGood.nd rfl (.inl rfl) (pe_lst pa_nil)) (pss_cons (ps_for PassesOwn.never rfl (pi_range1 rfl B.range (pa_cons (pv 2) pa_nil)) (pg_name (i := 4) scGood.nd rfl (.inl rfl)) (pss_cons (ps_set (i := 5) scGood.nd rfl (.inl rfl) (pe_slice sl_str pe_str po_none (po_some (pe_op op_add (pe_op op_mod (pv 4) pe_int) pe_int)))) (pss_one (ps_expr (pe_bm PySem.F.plainAttrs_list PySem.F.slot_list_append PySem.F.type_list_append mt_append (pv 3) (pa_cons (pe_tup (pa_cons (pe_ix ix_str (pv 5) (pe_un un_neg pe_int) (fun _ _ => rfl)) (pa_cons (pe_call Gi hr3 (by rfl) Di0.g Di0.F.kp Di0.b .nil pass0 (pa_cons (pv 0) (pa_cons (pv 1) (pa_cons (pv 5) (pa_cons pe_int pa_nil))))) pa_nil))) pa_nil)))))) (pss_one (ps_ret (pv 3))))), ?_⟩
    refine ⟨by show 0 ≤ sizeLine; decide, fun W hW => ?_⟩
    have T0 := T.same (same_upd (o := .lst []) hW)
    have k0 := T.kp (same_upd (o := .lst []) hW)
    have nWt : W ≠ t := T.ne1 hW
    have nWc : W ≠ c := T.ne2 hW
    dsimp only [List.set]
    refine ⟨.int many, rfl, many, rfl, by omega, by omega, for_range (lo := 0) (n := many.toNat) (fun i σ G => ∃ (y4 y5 : Option V) (xs : List V) (ps : List (Nat × Str)), σ = [some (.ref t), some (.str z), some (.int many), some (.ref W), y4, y5] ∧ G W = some (.lst xs) ∧ xs.length = i ∧ GoodPs K G z xs ps ∧ Kp t H G ∧ Tape G t c (n + 7 * i)) ?_ ?_ ?_⟩
    · exact ⟨_, _, [], [], rfl, upd_same, rfl, ⟨rfl, fun i v h => by simp at h⟩, k0, T0⟩
    · rintro i σ G hi ⟨y4, y5, xs, ps, rfl, gW, xl, gp, kG, TG⟩
      dsimp only [gName, List.set]
      unfold tNoPart
      refine ⟨.int (0 + (i : Int)), rfl, _, 6, rfl, rfl, (by show (0 : Int) < 6; decide), _, 1, rfl, rfl, ?_⟩
      have r6 : i % 6 < 6 := Nat.mod_lt _ (by decide)
      have en : cutS "UVWXYZ" none (some ((0 + (i : Int)) % 6 + 1)) = nmS (i % 6) := by
        unfold nmS
        rw [show (0 + (i : Int)) % 6 = ((i % 6 : Nat) : Int) by omega]
      refine ⟨_, rfl, "UVWXYZ", rfl, by rw [sizeLine_eq]; decide, ?_⟩
      rw [en]
      dsimp only [gName, List.set]
      refine ⟨.ref W, rfl, .inl ⟨rfl, _, SqL.of gW⟩, ?_⟩
      refine ⟨.str (nmS (i % 6)), rfl, 1, rfl, nmS (i % 6), -1, 85 + i % 6, rfl, rfl, ?_, nmS_last _ r6, ?_⟩
      · have := nmS_len _ r6
        have e : (nmS (i % 6)).length = (tl (nmS (i % 6))).length := (Array.length_toList).symm
        rw [e, sizeLine_eq]
        omega
      have nl := nmS_len _ r6
      have zl := al.2.2.1
      have z0 := al.2.1
      refine ⟨.ref t, rfl, .str z, rfl, .str (nmS (i % 6)), rfl, t, c, n + 7 * i, z, nmS (i % 6), 3, rfl, TG, by omega, by omega, by omega, by omega, by omega, by decide, fun H2 y k2 T2 yl ym => ?_⟩
      refine ⟨by show 2 ≤ sizeLine; decide, fun A hA => ?_⟩
      have sA := same_upd (o := .tup [V.str ⟨#[85 + i % 6]⟩, V.str y]) hA
      have gW2 := k2.at gW (fun _ q => by cases q)
      have gW3 := sA _ _ gW2
      refine ⟨W, xs, _, rfl, rfl, gW3, ?_, ?_⟩
      · rw [sizeLine_eq]
        omega
      have rb : rightB z y = true := by
        unfold rightB
        rw [decide_eq_true yl, Bool.true_and]
        refine List.all_eq_true.mpr fun d hd => ?_
        rcases ym d hd with h | h
        · rw [decide_eq_true h, Bool.or_true]
        · have := nmS_mem _ r6 d h
          unfold symB
          rw [decide_eq_true (by omega : 65 ≤ d), decide_eq_true (by omega : d ≤ 90)]
          rfl
      have sb : symB (85 + i % 6) = true := by
        unfold symB
        rw [decide_eq_true (by omega : 65 ≤ 85 + i % 6), decide_eq_true (by omega : 85 + i % 6 ≤ 90)]
        rfl
      refine ⟨_, _, xs ++ [.ref A], ps ++ [(85 + i % 6, y)], rfl, upd_same, by rw [List.length_append, xl]; rfl, ⟨by rw [List.length_append, List.length_append, gp.1]; rfl, fun q v hq => ?_⟩, ?_, ?_⟩
      · by_cases lt : q < xs.length
        · rw [List.getElem?_append_left lt] at hq
          obtain ⟨c', y', e, pa, h⟩ := gp.2 q v hq
          exact ⟨c', y', by rw [List.getElem?_append_left (by rw [gp.1]; exact lt)]; exact e, ((pa.kp k2).same sA).put gW3, h⟩
        · have ql : q = xs.length := by
            have := (List.getElem?_eq_some_iff.mp hq).1
            rw [List.length_append] at this
            simp at this
            omega
          subst ql
          rw [List.getElem?_append_right (Nat.le_refl _), Nat.sub_self] at hq
          have ev : v = .ref A := (Option.some.inj hq).symm
          subst ev
          have nAW : A ≠ W := fun e => by
            rw [e, gW2] at hA
            cases hA
          refine ⟨85 + i % 6, y, by rw [← gp.1, List.getElem?_append_right (Nat.le_refl _), Nat.sub_self]; rfl, ⟨A, rfl, SqT.of ((upd_ne nAW).trans upd_same), sb, by omega, rb⟩, by rw [xl], fun d hd => ?_⟩
          rcases ym d hd with h | h
          · exact .inl h
          · exact .inr (nmS_mem _ r6 d h)
      · have k3 := kG.trans (k2.trans (T2.kp sA))
        exact k3.put hW nWt
      · exact ((T2.same sA).upd nWt nWc).mono (by omega)
    · rintro σ G ⟨y4, y5, xs, ps, rfl, gW, xl, gp, kG, TG⟩
      exact ⟨.ref W, rfl, k _ W xs ps kG (TG.mono (by omega)) hW gW (by omega) gp⟩
end
end DW
/-! k62: an object that is no production -/
namespace DW
open PySem PySem.Spec PyProof.Rows L2 TL
set_option autoImplicit false
def spBad (K : PySem.W.Frag) : Sp := fun vs H Q _ => ∃ (t c : Addr) (n : Nat) (z : Str), vs = [.ref t, .str z] ∧ Tape H t c n ∧ n + 1 < 2 ^ 40 ∧ Alph z ∧
  ∀ H' v, Kp t H H' → Tape H' t c (n + 1) → PdB K H' z v false → Q v H'
theorem tyX_kp {K : PySem.W.Frag} {H H' : Hp} {v : V} {ty : Value} {t : Addr} (k : Kp t H H') (h : TyX K H v ty) : TyX K H' v ty := by
  have s : ∀ b o, H b = some o → (∀ kvs, o ≠ .dK kvs) → H' b = some o := fun b o e n => k.at e n
  cases h with
  | base b =>
    cases b with
    | non => exact .base .non
    | bl y => exact .base (.bl y)
    | int i => exact .base (.int i)
    | str y => exact .base (.str y)
    | flt y => exact .base (.flt y)
    | lst e => exact .base (.lst (s _ _ e (fun _ q => by cases q)))
    | frz e => exact .base (.frz (s _ _ e (fun _ q => by cases q)))
    | tup e => exact .base (.tup (s _ _ e (fun _ q => by cases q)))
    | @dK a kvs e =>
      by_cases q : a = t
      · subst q
        obtain ⟨kvs', e'⟩ := k.new
        exact .base (.dK e')
      · exact .base (.dK (k.oth _ _ q e))
    | dT e => exact .base (.dT (s _ _ e (fun _ q => by cases q)))
    | ins e a b c d f => exact .base (.ins (s _ _ e (fun _ q => by cases q)) a b c d f)
  | byt b => exact .byt b
  | set e => exact .set (s _ _ e (fun _ q => by cases q))
  | kList e c => exact .kList e c
  | kTuple e c => exact .kTuple e c
  | kDict e c => exact .kDict e c
  | fTuple e => exact .fTuple (s _ _ e (fun _ q => by cases q))
  | fDict e => exact .fDict (s _ _ e (fun _ q => by cases q))
theorem NoS.kp {K : PySem.W.Frag} {H H' : Hp} {v : V} {t : Addr} (s : Kp t H H') (h : NoS K H v) : NoS K H' v := by
  obtain ⟨ty, a, k⟩ := h
  exact ⟨ty, tyX_kp s a, k⟩
theorem PdB.kp {K : PySem.W.Frag} {H H' : Hp} {z : Str} {v : V} {b : Bool} {t : Addr} (s : Kp t H H') (h : PdB K H z v b) : PdB K H' z v b := by
  cases h with
  | no h =>
    obtain ⟨ty, a, k⟩ := h
    exact .no ⟨ty, tyX_kp s a, k⟩
  | len h n => exact .len (s.tup h) n
  | nos h n => exact .nos (s.tup h) (n.kp s)
  | slen h n l => exact .slen (s.tup h) n l
  | ssym h n => exact .ssym (s.tup h) n
  | ino h x n => exact .ino (s.tup h) x (n.kp s)
  | ok h x l => exact .ok (s.tup h) x l
def AllB (K : PySem.W.Frag) (H : Hp) (z : Str) (l : List V) : Prop := ∀ v ∈ l, PdB K H z v false
theorem AllB.same {K : PySem.W.Frag} {H H' : Hp} {z : Str} {l : List V} (h : AllB K H z l) (s : Same H H') : AllB K H' z l := fun v hv => (h v hv).same s
theorem AllB.add {K : PySem.W.Frag} {H : Hp} {z : Str} {l : List V} {v : V} (h : AllB K H z l) (b : PdB K H z v false) : AllB K H z (v :: l) := fun x hx => by
  rcases List.mem_cons.mp hx with rfl | hx
  · exact b
  · exact h x hx
section
variable {K : PySem.W.Frag} {H : Hp} {z : Str}
theorem noT_non : NoT K H .non := ⟨_, .base .non, kit_ty (by decide +kernel)⟩
theorem noT_bl (b : Bool) : NoT K H (.bl b) := ⟨_, .base (.bl b), kit_ty (by decide +kernel)⟩
theorem noT_str (x : Str) : NoT K H (.str x) := ⟨_, .base (.str x), kit_ty (by decide +kernel)⟩
theorem noT_int (i : Int) : NoT K H (.int i) := ⟨_, .base (.int i), kit_ty (by decide +kernel)⟩
theorem noT_lst {a : Addr} {xs : List V} (h : H a = some (.lst xs)) : NoT K H (.ref a) := ⟨_, .base (.lst h), kit_ty (by decide +kernel)⟩
theorem noT_dct {a : Addr} {xs : List (Key × V)} (h : H a = some (.dK xs)) : NoT K H (.ref a) := ⟨_, .base (.dK h), kit_ty (by decide +kernel)⟩
theorem noS_non : NoS K H .non := ⟨_, .base .non, kit_ty (by decide +kernel)⟩
theorem noS_lst {a : Addr} {xs : List V} (h : H a = some (.lst xs)) : NoS K H (.ref a) := ⟨_, .base (.lst h), kit_ty (by decide +kernel)⟩
theorem noS_tup {a : Addr} {xs : List V} (h : H a = some (.tup xs)) : NoS K H (.ref a) := ⟨_, .base (.tup h), kit_ty (by decide +kernel)⟩
theorem eS : ("S" : Str) = ⟨#[83]⟩ := by decide +kernel
theorem es : ("s" : Str) = ⟨#[115]⟩ := by decide +kernel
theorem bad_ok {t : Addr} {y : Str} (h : H t = some (.tup [V.str "S", V.str y])) (l : (tl y).length ≤ 100000) (r : rightB z y = false) : PdB K H z (.ref t) false := by
  have q : SqT K H t [.str ⟨#[83]⟩, .str y] := by
    rw [← eS]
    exact SqT.of h
  rw [← r]
  exact .ok q (by decide) l
theorem bad_ino {t : Addr} {y : V} (h : H t = some (.tup [V.str "S", y])) (n : NoS K H y) : PdB K H z (.ref t) false := by
  have q : SqT K H t [.str ⟨#[83]⟩, y] := by
    rw [← eS]
    exact SqT.of h
  exact .ino q (by decide) n
theorem bad_nos {t : Addr} {s y : V} (h : H t = some (.tup [s, y])) (n : NoS K H s) : PdB K H z (.ref t) false := .nos (SqT.of h) n
theorem bad_slen {t : Addr} {s : Str} {y : V} (h : H t = some (.tup [.str s, y])) (n : (tl s).length ≠ 1) (l : (tl s).length ≤ 100000) : PdB K H z (.ref t) false := .slen (SqT.of h) n l
theorem bad_low {t : Addr} {y : V} (h : H t = some (.tup [.str "s", y])) : PdB K H z (.ref t) false := by
  have q : SqT K H t [.str ⟨#[115]⟩, y] := by
    rw [← es]
    exact SqT.of h
  exact .ssym q (by decide)
theorem bad_len {t : Addr} {xs : List V} (h : H t = some (.tup xs)) (n : xs.length ≠ 2) : PdB K H z (.ref t) false := .len (SqT.of h) n
theorem right_no {y : Str} {d : Nat} (m : d ∈ tl y) (s : symB d = false) (n : d ∉ tl z) : rightB z y = false := by
  unfold rightB
  have e : ((tl y).all fun c => symB c || decide (c ∈ tl z)) = false := by
    cases q : ((tl y).all fun c => symB c || decide (c ∈ tl z)) with
    | false => rfl
    | true =>
      have := List.all_eq_true.mp q d m
      rw [s, decide_eq_false n] at this
      cases this
  rw [e, Bool.and_false]
theorem right_long {y : Str} (n : 3 < (tl y).length) : rightB z y = false := by
  unfold rightB
  rw [decide_eq_false (by omega), Bool.false_and]
/-- a letter of q w y z that is not in the alphabet -/
theorem other_one (zl : (tl z).length ≤ 3) : ∃ d rest, ([113, 119, 121, 122].filter fun c => !decide (c ∈ tl z)) = d :: rest ∧ d ∉ tl z ∧ symB d = false := by
  cases e : ([113, 119, 121, 122].filter fun c => !decide (c ∈ tl z)) with
  | nil =>
    have all : ∀ c ∈ [113, 119, 121, 122], c ∈ tl z := fun c hc => by
      by_cases q : c ∈ tl z
      · exact q
      · have : c ∈ ([113, 119, 121, 122].filter fun c => !decide (c ∈ tl z)) := List.mem_filter.mpr ⟨hc, by rw [decide_eq_false q]; rfl⟩
        rw [e] at this
        cases this
    have h4 := nodup_lenS [113, 119, 121, 122] (tl z) (by decide) all
    have h5 : 4 ≤ (tl z).length := h4
    omega
  | cons d rest =>
    have hd : d ∈ ([113, 119, 121, 122].filter fun c => !decide (c ∈ tl z)) := by rw [e]; exact List.mem_cons_self
    obtain ⟨h1, h2⟩ := List.mem_filter.mp hd
    refine ⟨d, rest, rfl, ?_, (by decide : ∀ c ∈ [113, 119, 121, 122], symB c = false) d h1⟩
    intro q
    rw [decide_eq_true q] at h2
    cases h2
end
section
variable {P : Program} {w : World} {K : PySem.W.Frag} {mg : Str → Option Value} {base : Heap}
theorem scBad : FnScope ["_law_tape", "_law_alphabet_here", "_law_some", "_law_other", "_law_letter"] ["_law_tape", "_law_alphabet_here"] (defScope sLBad) := ⟨rfl, rfl, rfl, by decide +kernel, rfl, by decide +kernel, by decide +kernel⟩
theorem ok_bad (D : Df K mg "_law_bad" sLBad ["_law_tape", "_law_alphabet_here"]) (Dd : DfDraw K mg) (Dp : DfPick K mg) (B : Bl mg) : FnOk P w K mg base CX0 3 D.f D.fd ["_law_tape", "_law_alphabet_here"] (spBad K) := by
  have Gp : FnOk P w K mg base CX0 2 Dp.f Dp.fd ["_law_tape", "_law_items_here"] (spPick K) := ok_pick Dp Dd B.len
  refine D.F.ok scBad (fun vs H Q E h => ?_) (fun cdv A0 outer s H vs Q E hr h => ?_)
  · obtain ⟨t, c, n, z, rfl, _⟩ := h
    rfl
  · obtain ⟨t, c, n, z, rfl, T, hn, al, k⟩ := h
    have hr2 : Room 2 _ := hr.mono (by decide)
    have zl := al.2.2.1
    have z0 := al.2.1
    have lowz : ∀ d, d < 97 ∨ 122 < d → d ∉ tl z := fun d hd h => by
      have := al.2.2.2 d h
      omega
    refine ⟨_, PSs.nox (pss_cons (ps_set (i := 2) scBad.nd rfl (.inl rfl) (pe_lst (pa_cons pe_non (pa_cons pe_int (pa_cons pe_bl (pa_cons pe_str (pa_cons pe_str (pa_cons (pe_tup pa_nil) (pa_cons (pe_tup (pa_cons pe_str pa_nil)) (pa_cons (pe_lst (pa_cons pe_str (pa_cons pe_str pa_nil))) (pa_cons (pe_tup (pa_cons pe_str (pa_cons pe_str (pa_cons pe_str pa_nil)))) (pa_cons (pe_tup (pa_cons pe_str (pa_cons pe_str pa_nil))) (pa_cons (pe_tup (pa_cons pe_str (pa_cons pe_str pa_nil))) (pa_cons (pe_tup (pa_cons pe_str (pa_cons pe_str pa_nil))) pa_nil)))))))))))))) (pss_cons (ps_set (i := 2) scBad.nd rfl (.inl rfl) (pe_op op_cat (pv 2) (pe_lst (pa_cons (pe_tup (pa_cons pe_str (pa_cons pe_non pa_nil))) (pa_cons (pe_tup (pa_cons pe_non (pa_cons pe_str pa_nil))) (pa_cons (pe_tup (pa_cons pe_str (pa_cons pe_str pa_nil))) (pa_cons (pe_tup (pa_cons pe_str (pa_cons (pe_lst (pa_cons pe_str pa_nil)) pa_nil))) (pa_cons (pe_tup (pa_cons pe_str (pa_cons pe_str pa_nil))) (pa_cons (pe_tup (pa_cons pe_str (pa_cons pe_str pa_nil))) (pa_cons (pe_tup (pa_cons pe_str (pa_cons pe_str pa_nil))) (pa_cons pe_dnewK pa_nil))))))))))) (pss_cons (ps_set (i := 3) scBad.nd rfl (.inl rfl) (pe_ix ix_list (pe_lc (own := [("_law_letter", 4)]) (g := gName 4) rfl scBad.nd (pi_str pe_str) (blkOk_by (N := ["_law_tape", "_law_alphabet_here", "_law_some", "_law_other", "_law_letter"]) (sc := defScope sLBad) (by decide +kernel)) (fun _ _ _ _ _ => pg_name (i := 4) scBad.nd rfl (Or.inl rfl)) (fun _ _ _ _ _ => (pts_one (pt_cmpR op_notIn_sign (pv 4) (pv 1) rfl))) (fun _ _ _ _ _ => (pv 4))) pe_int (fun _ _ => rfl))) (pss_cons (ps_set (i := 2) scBad.nd rfl (.inl rfl) (pe_op op_cat (pv 2) (pe_lst (pa_cons (pe_tup (pa_cons pe_str (pa_cons pe_str pa_nil))) (pa_cons (pe_tup (pa_cons (pe_tup (pa_cons pe_str pa_nil)) (pa_cons pe_str pa_nil))) (pa_cons (pe_tup (pa_cons pe_str (pa_cons (pe_op op_add_str (pe_ix ix_str (pv 1) pe_int (fun _ _ => rfl)) (pv 3)) pa_nil))) (pa_cons (pe_tup (pa_cons pe_str (pa_cons (pe_tup (pa_cons pe_str pa_nil)) pa_nil))) pa_nil))))))) (pss_one (ps_ret (pe_call Gp hr2 (by rfl) Dp.g Dp.F.kp Dp.b .nil pass0 (pa_cons (pv 0) (pa_cons (pv 2) pa_nil))))))))), ?_⟩
    have sm : Same H H := Same.refl H
    have al0 : AllB K H z [] := fun v hv => (nomatch hv)
    have al0 := al0.add (.no noT_non)
    have al0 := al0.add (.no (noT_int 0))
    have al0 := al0.add (.no (noT_bl true))
    have al0 := al0.add (.no (noT_str "S"))
    have al0 := al0.add (.no (noT_str "Sa"))
    refine ⟨by show 0 ≤ sizeLine; decide, fun o0 h_o0 => ?_⟩
    have s_o0 := same_upd (o := .tup []) h_o0
    have g_o0 : (upd H o0 (.tup [])) o0 = some (.tup []) := upd_same
    have sm := sm.trans s_o0
    generalize upd H o0 (.tup []) = N0 at s_o0 g_o0 sm ⊢
    have al1 := al0.same s_o0
    have al1 := al1.add (bad_len g_o0 (by decide))
    refine ⟨by show 1 ≤ sizeLine; decide, fun o1 h_o1 => ?_⟩
    have s_o1 := same_upd (o := .tup [V.str "S"]) h_o1
    have g_o1 : (upd N0 o1 (.tup [V.str "S"])) o1 = some (.tup [V.str "S"]) := upd_same
    have sm := sm.trans s_o1
    generalize upd N0 o1 (.tup [V.str "S"]) = N1 at s_o1 g_o1 sm ⊢
    have al2 := al1.same s_o1
    have al2 := al2.add (bad_len g_o1 (by decide))
    refine ⟨by show 2 ≤ sizeLine; decide, fun b1 h_b1 => ?_⟩
    have s_b1 := same_upd (o := .lst [V.str "S", V.str "a"]) h_b1
    have g_b1 : (upd N1 b1 (.lst [V.str "S", V.str "a"])) b1 = some (.lst [V.str "S", V.str "a"]) := upd_same
    have sm := sm.trans s_b1
    generalize upd N1 b1 (.lst [V.str "S", V.str "a"]) = N2 at s_b1 g_b1 sm ⊢
    have al3 := al2.same s_b1
    have al3 := al3.add (.no (noT_lst g_b1))
    refine ⟨by show 3 ≤ sizeLine; decide, fun o2 h_o2 => ?_⟩
    have s_o2 := same_upd (o := .tup [V.str "S", V.str "a", V.str ""]) h_o2
    have g_o2 : (upd N2 o2 (.tup [V.str "S", V.str "a", V.str ""])) o2 = some (.tup [V.str "S", V.str "a", V.str ""]) := upd_same
    have sm := sm.trans s_o2
    generalize upd N2 o2 (.tup [V.str "S", V.str "a", V.str ""]) = N3 at s_o2 g_o2 sm ⊢
    have al4 := al3.same s_o2
    have al4 := al4.add (bad_len g_o2 (by decide))
    refine ⟨by show 2 ≤ sizeLine; decide, fun o3 h_o3 => ?_⟩
    have s_o3 := same_upd (o := .tup [V.str "s", V.str ""]) h_o3
    have g_o3 : (upd N3 o3 (.tup [V.str "s", V.str ""])) o3 = some (.tup [V.str "s", V.str ""]) := upd_same
    have sm := sm.trans s_o3
    generalize upd N3 o3 (.tup [V.str "s", V.str ""]) = N4 at s_o3 g_o3 sm ⊢
    have al5 := al4.same s_o3
    have al5 := al5.add (bad_low g_o3)
    refine ⟨by show 2 ≤ sizeLine; decide, fun o4 h_o4 => ?_⟩
    have s_o4 := same_upd (o := .tup [V.str "SS", V.str ""]) h_o4
    have g_o4 : (upd N4 o4 (.tup [V.str "SS", V.str ""])) o4 = some (.tup [V.str "SS", V.str ""]) := upd_same
    have sm := sm.trans s_o4
    generalize upd N4 o4 (.tup [V.str "SS", V.str ""]) = N5 at s_o4 g_o4 sm ⊢
    have al6 := al5.same s_o4
    have al6 := al6.add (bad_slen g_o4 (by decide) (by decide))
    refine ⟨by show 2 ≤ sizeLine; decide, fun o5 h_o5 => ?_⟩
    have s_o5 := same_upd (o := .tup [V.str "", V.str "a"]) h_o5
    have g_o5 : (upd N5 o5 (.tup [V.str "", V.str "a"])) o5 = some (.tup [V.str "", V.str "a"]) := upd_same
    have sm := sm.trans s_o5
    generalize upd N5 o5 (.tup [V.str "", V.str "a"]) = N6 at s_o5 g_o5 sm ⊢
    have al7 := al6.same s_o5
    have al7 := al7.add (bad_slen g_o5 (by decide) (by decide))
    refine ⟨by show 12 ≤ sizeLine; decide, fun L1 h_L1 => ?_⟩
    have s_L1 := same_upd (o := .lst [V.non, V.int 0, V.bl true, V.str "S", V.str "Sa", V.ref o0, V.ref o1, V.ref b1, V.ref o2, V.ref o3, V.ref o4, V.ref o5]) h_L1
    have g_L1 : (upd N6 L1 (.lst [V.non, V.int 0, V.bl true, V.str "S", V.str "Sa", V.ref o0, V.ref o1, V.ref b1, V.ref o2, V.ref o3, V.ref o4, V.ref o5])) L1 = some (.lst [V.non, V.int 0, V.bl true, V.str "S", V.str "Sa", V.ref o0, V.ref o1, V.ref b1, V.ref o2, V.ref o3, V.ref o4, V.ref o5]) := upd_same
    have sm := sm.trans s_L1
    generalize upd N6 L1 (.lst [V.non, V.int 0, V.bl true, V.str "S", V.str "Sa", V.ref o0, V.ref o1, V.ref b1, V.ref o2, V.ref o3, V.ref o4, V.ref o5]) = N7 at s_L1 g_L1 sm ⊢
    have al8 := al7.same s_L1
    dsimp only [List.set]
    refine ⟨.ref L1, rfl, ?_⟩
    refine ⟨by show 2 ≤ sizeLine; decide, fun o6 h_o6 => ?_⟩
    have s_o6 := same_upd (o := .tup [V.str "S", V.non]) h_o6
    have g_o6 : (upd N7 o6 (.tup [V.str "S", V.non])) o6 = some (.tup [V.str "S", V.non]) := upd_same
    have sm := sm.trans s_o6
    generalize upd N7 o6 (.tup [V.str "S", V.non]) = N8 at s_o6 g_o6 sm ⊢
    have al9 := al8.same s_o6
    have g_L1 := s_o6 _ _ g_L1
    have al9 := al9.add (bad_ino g_o6 noS_non)
    refine ⟨by show 2 ≤ sizeLine; decide, fun o7 h_o7 => ?_⟩
    have s_o7 := same_upd (o := .tup [V.non, V.str "a"]) h_o7
    have g_o7 : (upd N8 o7 (.tup [V.non, V.str "a"])) o7 = some (.tup [V.non, V.str "a"]) := upd_same
    have sm := sm.trans s_o7
    generalize upd N8 o7 (.tup [V.non, V.str "a"]) = N9 at s_o7 g_o7 sm ⊢
    have al10 := al9.same s_o7
    have g_L1 := s_o7 _ _ g_L1
    have al10 := al10.add (bad_nos g_o7 noS_non)
    refine ⟨by show 2 ≤ sizeLine; decide, fun o8 h_o8 => ?_⟩
    have s_o8 := same_upd (o := .tup [V.str "S", V.str "aaaa"]) h_o8
    have g_o8 : (upd N9 o8 (.tup [V.str "S", V.str "aaaa"])) o8 = some (.tup [V.str "S", V.str "aaaa"]) := upd_same
    have sm := sm.trans s_o8
    generalize upd N9 o8 (.tup [V.str "S", V.str "aaaa"]) = N10 at s_o8 g_o8 sm ⊢
    have al11 := al10.same s_o8
    have g_L1 := s_o8 _ _ g_L1
    have al11 := al11.add (bad_ok g_o8 (by decide) (right_long (by decide)))
    refine ⟨by show 1 ≤ sizeLine; decide, fun b2 h_b2 => ?_⟩
    have s_b2 := same_upd (o := .lst [V.str "a"]) h_b2
    have g_b2 : (upd N10 b2 (.lst [V.str "a"])) b2 = some (.lst [V.str "a"]) := upd_same
    have sm := sm.trans s_b2
    generalize upd N10 b2 (.lst [V.str "a"]) = N11 at s_b2 g_b2 sm ⊢
    have al12 := al11.same s_b2
    have g_L1 := s_b2 _ _ g_L1
    refine ⟨by show 2 ≤ sizeLine; decide, fun o9 h_o9 => ?_⟩
    have s_o9 := same_upd (o := .tup [V.str "S", V.ref b2]) h_o9
    have g_o9 : (upd N11 o9 (.tup [V.str "S", V.ref b2])) o9 = some (.tup [V.str "S", V.ref b2]) := upd_same
    have sm := sm.trans s_o9
    generalize upd N11 o9 (.tup [V.str "S", V.ref b2]) = N12 at s_o9 g_o9 sm ⊢
    have al13 := al12.same s_o9
    have g_L1 := s_o9 _ _ g_L1
    have al13 := al13.add (bad_ino g_o9 (noS_lst (s_o9 _ _ g_b2)))
    refine ⟨by show 2 ≤ sizeLine; decide, fun o10 h_o10 => ?_⟩
    have s_o10 := same_upd (o := .tup [V.str "S", V.str "~"]) h_o10
    have g_o10 : (upd N12 o10 (.tup [V.str "S", V.str "~"])) o10 = some (.tup [V.str "S", V.str "~"]) := upd_same
    have sm := sm.trans s_o10
    generalize upd N12 o10 (.tup [V.str "S", V.str "~"]) = N13 at s_o10 g_o10 sm ⊢
    have al14 := al13.same s_o10
    have g_L1 := s_o10 _ _ g_L1
    have al14 := al14.add (bad_ok g_o10 (by decide) (right_no (d := 126) (by decide) (by decide) (lowz _ (by decide))))
    refine ⟨by show 2 ≤ sizeLine; decide, fun o11 h_o11 => ?_⟩
    have s_o11 := same_upd (o := .tup [V.str "S", V.str " "]) h_o11
    have g_o11 : (upd N13 o11 (.tup [V.str "S", V.str " "])) o11 = some (.tup [V.str "S", V.str " "]) := upd_same
    have sm := sm.trans s_o11
    generalize upd N13 o11 (.tup [V.str "S", V.str " "]) = N14 at s_o11 g_o11 sm ⊢
    have al15 := al14.same s_o11
    have g_L1 := s_o11 _ _ g_L1
    have al15 := al15.add (bad_ok g_o11 (by decide) (right_no (d := 32) (by decide) (by decide) (lowz _ (by decide))))
    refine ⟨by show 2 ≤ sizeLine; decide, fun o12 h_o12 => ?_⟩
    have s_o12 := same_upd (o := .tup [V.str "S", V.str "1"]) h_o12
    have g_o12 : (upd N14 o12 (.tup [V.str "S", V.str "1"])) o12 = some (.tup [V.str "S", V.str "1"]) := upd_same
    have sm := sm.trans s_o12
    generalize upd N14 o12 (.tup [V.str "S", V.str "1"]) = N15 at s_o12 g_o12 sm ⊢
    have al16 := al15.same s_o12
    have g_L1 := s_o12 _ _ g_L1
    have al16 := al16.add (bad_ok g_o12 (by decide) (right_no (d := 49) (by decide) (by decide) (lowz _ (by decide))))
    refine (fun d1 h_d1 => ?_)
    have s_d1 := same_upd (o := .dK []) h_d1
    have g_d1 : (upd N15 d1 (.dK [])) d1 = some (.dK []) := upd_same
    have sm := sm.trans s_d1
    generalize upd N15 d1 (.dK []) = N16 at s_d1 g_d1 sm ⊢
    have al17 := al16.same s_d1
    have g_L1 := s_d1 _ _ g_L1
    have al17 := al17.add (.no (noT_dct g_d1))
    refine ⟨by show 8 ≤ sizeLine; decide, fun L2 h_L2 => ?_⟩
    have s_L2 := same_upd (o := .lst [V.ref o6, V.ref o7, V.ref o8, V.ref o9, V.ref o10, V.ref o11, V.ref o12, V.ref d1]) h_L2
    have g_L2 : (upd N16 L2 (.lst [V.ref o6, V.ref o7, V.ref o8, V.ref o9, V.ref o10, V.ref o11, V.ref o12, V.ref d1])) L2 = some (.lst [V.ref o6, V.ref o7, V.ref o8, V.ref o9, V.ref o10, V.ref o11, V.ref o12, V.ref d1]) := upd_same
    have sm := sm.trans s_L2
    generalize upd N16 L2 (.lst [V.ref o6, V.ref o7, V.ref o8, V.ref o9, V.ref o10, V.ref o11, V.ref o12, V.ref d1]) = N17 at s_L2 g_L2 sm ⊢
    have al18 := al17.same s_L2
    have g_L1 := s_L2 _ _ g_L1
    refine ⟨L1, L2, _, _, rfl, rfl, g_L1, g_L2, by show 20 ≤ sizeLine; decide, fun L3 h_L3 => ?_⟩
    have s_L3 := same_upd (o := .lst ([V.non, V.int 0, V.bl true, V.str "S", V.str "Sa", V.ref o0, V.ref o1, V.ref b1, V.ref o2, V.ref o3, V.ref o4, V.ref o5] ++ [V.ref o6, V.ref o7, V.ref o8, V.ref o9, V.ref o10, V.ref o11, V.ref o12, V.ref d1])) h_L3
    have g_L3 : (upd N17 L3 (.lst ([V.non, V.int 0, V.bl true, V.str "S", V.str "Sa", V.ref o0, V.ref o1, V.ref b1, V.ref o2, V.ref o3, V.ref o4, V.ref o5] ++ [V.ref o6, V.ref o7, V.ref o8, V.ref o9, V.ref o10, V.ref o11, V.ref o12, V.ref d1]))) L3 = some (.lst ([V.non, V.int 0, V.bl true, V.str "S", V.str "Sa", V.ref o0, V.ref o1, V.ref b1, V.ref o2, V.ref o3, V.ref o4, V.ref o5] ++ [V.ref o6, V.ref o7, V.ref o8, V.ref o9, V.ref o10, V.ref o11, V.ref o12, V.ref d1])) := upd_same
    have sm := sm.trans s_L3
    generalize upd N17 L3 (.lst ([V.non, V.int 0, V.bl true, V.str "S", V.str "Sa", V.ref o0, V.ref o1, V.ref b1, V.ref o2, V.ref o3, V.ref o4, V.ref o5] ++ [V.ref o6, V.ref o7, V.ref o8, V.ref o9, V.ref o10, V.ref o11, V.ref o12, V.ref d1])) = N18 at s_L3 g_L3 sm ⊢
    have al19 := al18.same s_L3
    dsimp only [gName, List.set]
    refine ⟨_, rfl, fun W h_W => ?_⟩
    have tq : tl ("qwyz" : Str) = [113, 119, 121, 122] := by decide +kernel
    refine lc_it (walk_str (z := "qwyz")) (fun i G => G W = some (.lst ((((([113, 119, 121, 122] : List Nat).take i).filter fun c => !decide (c ∈ tl z)).map one).map V.str)) ∧ Same N18 G) ⟨upd_same, same_upd h_W⟩ (fun _ _ _ _ => trivial) ?_ ?_
    · rintro i v G1 G2 hi ⟨gL, sG⟩ ⟨rfl, d, hd, rfl⟩
      have hd' : ([113, 119, 121, 122] : List Nat)[i]? = some d := by rw [← tq, Array.getElem?_toList]; exact hd
      have tk : ([113, 119, 121, 122] : List Nat).take (i + 1) = ([113, 119, 121, 122] : List Nat).take i ++ [d] := by rw [List.take_add_one, hd']; rfl
      refine ⟨rfl, .str ⟨#[d]⟩, rfl, .str z, rfl, d, z, rfl, rfl, ?_⟩
      refine ⟨_, rfl, ite2 (fun e => ⟨_, rfl, _, gL, ?_, ?_, fun b o h => (upd_ne (ne_of_none h h_W)).trans (sG b o h)⟩) (fun e => ⟨?_, sG⟩)⟩
      · rw [List.length_map, List.length_map]
        refine Nat.lt_of_le_of_lt (List.length_filter_le _ _) ?_
        rw [List.length_take, sizeLine_eq]
        show min i 4 < _
        omega
      · have e : (!decide (d ∈ tl z)) = true := e
        rw [upd_same, tk, List.filter_append, List.map_append, List.map_append, List.filter_cons, if_pos e]
        rfl
      · have e : ¬ (!decide (d ∈ tl z)) = true := e
        rw [gL, tk, List.filter_append, List.filter_cons, if_neg e, List.filter_nil, List.append_nil]
    rintro N18x ⟨gW, sG⟩
    obtain ⟨d0, rest, ed, dn, ds⟩ := other_one (z := z) zl
    have gW2 : N18x W = some (.lst (((d0 :: rest).map one).map V.str)) := by
      rw [← ed]
      exact gW
    have sm := sm.trans sG
    have al20 := al19.same sG
    have g_L3 := sG _ _ g_L3
    clear al19
    refine ⟨W, _, 0, .str (one d0), rfl, rfl, SqL.of gW2, at_of (j := 0) rfl rfl, ?_⟩
    dsimp only [gName, List.set]
    refine ⟨.ref L3, rfl, ?_⟩
    refine ⟨by show 2 ≤ sizeLine; decide, fun o13 h_o13 => ?_⟩
    have s_o13 := same_upd (o := .tup [V.str "S", V.str "a\n"]) h_o13
    have g_o13 : (upd N18x o13 (.tup [V.str "S", V.str "a\n"])) o13 = some (.tup [V.str "S", V.str "a\n"]) := upd_same
    have sm := sm.trans s_o13
    generalize upd N18x o13 (.tup [V.str "S", V.str "a\n"]) = N20 at s_o13 g_o13 sm ⊢
    have al21 := al20.same s_o13
    have g_L3 := s_o13 _ _ g_L3
    have al21 := al21.add (bad_ok g_o13 (by decide) (right_no (d := 10) (by decide) (by decide) (lowz _ (by decide))))
    refine ⟨by show 1 ≤ sizeLine; decide, fun p1 h_p1 => ?_⟩
    have s_p1 := same_upd (o := .tup [V.str "S"]) h_p1
    have g_p1 : (upd N20 p1 (.tup [V.str "S"])) p1 = some (.tup [V.str "S"]) := upd_same
    have sm := sm.trans s_p1
    generalize upd N20 p1 (.tup [V.str "S"]) = N21 at s_p1 g_p1 sm ⊢
    have al22 := al21.same s_p1
    have g_L3 := s_p1 _ _ g_L3
    refine ⟨by show 2 ≤ sizeLine; decide, fun o14 h_o14 => ?_⟩
    have s_o14 := same_upd (o := .tup [V.ref p1, V.str ""]) h_o14
    have g_o14 : (upd N21 o14 (.tup [V.ref p1, V.str ""])) o14 = some (.tup [V.ref p1, V.str ""]) := upd_same
    have sm := sm.trans s_o14
    generalize upd N21 o14 (.tup [V.ref p1, V.str ""]) = N22 at s_o14 g_o14 sm ⊢
    have al23 := al22.same s_o14
    have g_L3 := s_o14 _ _ g_L3
    have al23 := al23.add (bad_nos g_o14 (noS_tup (s_o14 _ _ g_p1)))
    obtain ⟨c0, hc0⟩ : ∃ c0, z.cps.toList[0]? = some c0 := ⟨_, List.getElem?_eq_getElem (show 0 < (tl z).length by omega)⟩
    refine ⟨.str z, rfl, z, 0, c0, rfl, rfl, ?_, at_cp (j := 0) rfl hc0, _, rfl, ⟨#[c0]⟩, one d0, rfl, rfl, by rw [sizeLine_eq]; show 1 + 1 ≤ 16777216; decide, ?_⟩
    · have e : z.length = (tl z).length := (Array.length_toList).symm
      rw [e, sizeLine_eq]
      omega
    have tco : tl ((⟨#[c0]⟩ : Str) ++ one d0) = [c0, d0] := rfl
    refine ⟨by show 2 ≤ sizeLine; decide, fun o15 h_o15 => ?_⟩
    have s_o15 := same_upd (o := .tup [V.str "S", V.str ((⟨#[c0]⟩ : Str) ++ one d0)]) h_o15
    have g_o15 : (upd N22 o15 (.tup [V.str "S", V.str ((⟨#[c0]⟩ : Str) ++ one d0)])) o15 = some (.tup [V.str "S", V.str ((⟨#[c0]⟩ : Str) ++ one d0)]) := upd_same
    have sm := sm.trans s_o15
    generalize upd N22 o15 (.tup [V.str "S", V.str ((⟨#[c0]⟩ : Str) ++ one d0)]) = N23 at s_o15 g_o15 sm ⊢
    have al24 := al23.same s_o15
    have g_L3 := s_o15 _ _ g_L3
    have al24 := al24.add (bad_ok g_o15 (by rw [tco]; show 2 ≤ 100000; decide) (right_no (d := d0) (by rw [tco]; exact List.mem_cons_of_mem _ List.mem_cons_self) ds dn))
    refine ⟨by show 1 ≤ sizeLine; decide, fun p2 h_p2 => ?_⟩
    have s_p2 := same_upd (o := .tup [V.str "a"]) h_p2
    have g_p2 : (upd N23 p2 (.tup [V.str "a"])) p2 = some (.tup [V.str "a"]) := upd_same
    have sm := sm.trans s_p2
    generalize upd N23 p2 (.tup [V.str "a"]) = N24 at s_p2 g_p2 sm ⊢
    have al25 := al24.same s_p2
    have g_L3 := s_p2 _ _ g_L3
    refine ⟨by show 2 ≤ sizeLine; decide, fun o16 h_o16 => ?_⟩
    have s_o16 := same_upd (o := .tup [V.str "S", V.ref p2]) h_o16
    have g_o16 : (upd N24 o16 (.tup [V.str "S", V.ref p2])) o16 = some (.tup [V.str "S", V.ref p2]) := upd_same
    have sm := sm.trans s_o16
    generalize upd N24 o16 (.tup [V.str "S", V.ref p2]) = N25 at s_o16 g_o16 sm ⊢
    have al26 := al25.same s_o16
    have g_L3 := s_o16 _ _ g_L3
    have al26 := al26.add (bad_ino g_o16 (noS_tup (s_o16 _ _ g_p2)))
    refine ⟨by show 4 ≤ sizeLine; decide, fun L4 h_L4 => ?_⟩
    have s_L4 := same_upd (o := .lst [V.ref o13, V.ref o14, V.ref o15, V.ref o16]) h_L4
    have g_L4 : (upd N25 L4 (.lst [V.ref o13, V.ref o14, V.ref o15, V.ref o16])) L4 = some (.lst [V.ref o13, V.ref o14, V.ref o15, V.ref o16]) := upd_same
    have sm := sm.trans s_L4
    generalize upd N25 L4 (.lst [V.ref o13, V.ref o14, V.ref o15, V.ref o16]) = N26 at s_L4 g_L4 sm ⊢
    have al27 := al26.same s_L4
    have g_L3 := s_L4 _ _ g_L3
    refine ⟨L3, L4, _, _, rfl, rfl, g_L3, g_L4, by show 24 ≤ sizeLine; decide, fun L5 h_L5 => ?_⟩
    have s_L5 := same_upd (o := .lst (([V.non, V.int 0, V.bl true, V.str "S", V.str "Sa", V.ref o0, V.ref o1, V.ref b1, V.ref o2, V.ref o3, V.ref o4, V.ref o5] ++ [V.ref o6, V.ref o7, V.ref o8, V.ref o9, V.ref o10, V.ref o11, V.ref o12, V.ref d1]) ++ [V.ref o13, V.ref o14, V.ref o15, V.ref o16])) h_L5
    have g_L5 : (upd N26 L5 (.lst (([V.non, V.int 0, V.bl true, V.str "S", V.str "Sa", V.ref o0, V.ref o1, V.ref b1, V.ref o2, V.ref o3, V.ref o4, V.ref o5] ++ [V.ref o6, V.ref o7, V.ref o8, V.ref o9, V.ref o10, V.ref o11, V.ref o12, V.ref d1]) ++ [V.ref o13, V.ref o14, V.ref o15, V.ref o16]))) L5 = some (.lst (([V.non, V.int 0, V.bl true, V.str "S", V.str "Sa", V.ref o0, V.ref o1, V.ref b1, V.ref o2, V.ref o3, V.ref o4, V.ref o5] ++ [V.ref o6, V.ref o7, V.ref o8, V.ref o9, V.ref o10, V.ref o11, V.ref o12, V.ref d1]) ++ [V.ref o13, V.ref o14, V.ref o15, V.ref o16])) := upd_same
    have sm := sm.trans s_L5
    generalize upd N26 L5 (.lst (([V.non, V.int 0, V.bl true, V.str "S", V.str "Sa", V.ref o0, V.ref o1, V.ref b1, V.ref o2, V.ref o3, V.ref o4, V.ref o5] ++ [V.ref o6, V.ref o7, V.ref o8, V.ref o9, V.ref o10, V.ref o11, V.ref o12, V.ref d1]) ++ [V.ref o13, V.ref o14, V.ref o15, V.ref o16])) = N27 at s_L5 g_L5 sm ⊢
    have al28 := al27.same s_L5
    dsimp only [gName, List.set]
    refine ⟨.ref t, rfl, .ref L5, rfl, t, c, n, .ref L5, rfl, T.same sm, by omega, .inl ⟨L5, _, rfl, SqL.of g_L5, (by intro e; cases e), by show 24 < 2 ^ 30; decide, fun H2 v k2 T2 mv => ?_⟩⟩
    refine k _ v ((T.kp sm).trans k2) T2 ((al28 v ?_).kp k2)
    exact (List.mem_reverse (as := ([V.non, V.int 0, V.bl true, V.str "S", V.str "Sa", V.ref o0, V.ref o1, V.ref b1, V.ref o2, V.ref o3, V.ref o4, V.ref o5] ++ [V.ref o6, V.ref o7, V.ref o8, V.ref o9, V.ref o10, V.ref o11, V.ref o12, V.ref d1]) ++ [V.ref o13, V.ref o14, V.ref o15, V.ref o16])).mpr mv
end
end DW
/-! k62: the law -/
namespace DW
open PySem PySem.Spec PyProof.Rows L2 TL
set_option autoImplicit false
structure Ds (P : Program) (K : PySem.W.Frag) (mg : Str → Option Value) where
  p_is_ascending : Df K mg "is_ascending" sIsAscending ["letters"]
  p_is_alphabet : Df K mg "is_alphabet" sIsAlphabet ["thing"]
  p_is_symbol : Df K mg "is_symbol" sIsSymbol ["item"]
  p_symbols_among : Df K mg "symbols_among" sSymbolsAmong ["items"]
  p_is_production : Df K mg "is_production" sIsProduction ["alphabet", "thing"]
  begin : Df K mg "_law_begin" sBegin ["_law_script"]
  draw : Df K mg "_law_draw" sDraw ["_law_tape", "_law_many"]
  pick : Df K mg "_law_pick" sPick ["_law_tape", "_law_items_here"]
  alphabet : Df K mg "_law_alphabet" sAlpha ["_law_tape"]
  items : Df K mg "_law_items" sLItems ["_law_tape", "_law_alphabet_here", "_law_names", "_law_most"]
  bad : Df K mg "_law_bad" sLBad ["_law_tape", "_law_alphabet_here"]
  good : Df K mg "_law_good" sLGood ["_law_tape", "_law_alphabet_here", "_law_many"]
  told : Df K mg "_law_told" sLTold ["_law_alphabet_here", "_law_productions"]
  B : Bl mg
  b_all : mg "all" = none
  b_zip : mg "zip" = none
  b_isinstance : mg "isinstance" = none
  b_str : mg "str" = none
  b_tuple : mg "tuple" = none
  b_list : mg "list" = none
  b_enumerate : mg "enumerate" = none
  c_MOST_LETTERS : ∃ t, mg "MOST_LETTERS" = some (.int 3 t)
  c_MOST_ITEMS : ∃ t, mg "MOST_ITEMS" = some (.int 3 t)
  c_MOST_PRODUCTIONS : ∃ t, mg "MOST_PRODUCTIONS" = some (.int 16 t)
  c_MOST_SYMBOLS : ∃ t, mg "MOST_SYMBOLS" = some (.int 6 t)
  gra : DfG K mg
  gow : EX.OwnC K gra.C
  g_list : PySem.W.kitOne K (.ref gra.C) (.type "list") = some false
  g_tuple : PySem.W.kitOne K (.ref gra.C) (.type "tuple") = some false
  e_InvalidAlphabet : EX.DfE0 K mg "InvalidAlphabet"
  e_DownwordsError : EX.DfE0 K mg "DownwordsError"
  e_InvalidProduction : EX.DfE P K mg "InvalidProduction" "index" EX.MsgOk
  k_InvalidAlphabet_DownwordsError : PySem.W.kitOne K (.ref e_InvalidAlphabet.C) (.ref e_DownwordsError.C) = some true
  k_InvalidProduction_DownwordsError : PySem.W.kitOne K (.ref e_InvalidProduction.C) (.ref e_DownwordsError.C) = some true
  k_InvalidAlphabet_InvalidAlphabet : PySem.W.kitOne K (.ref e_InvalidAlphabet.C) (.ref e_InvalidAlphabet.C) = some true
  k_InvalidProduction_InvalidAlphabet : PySem.W.kitOne K (.ref e_InvalidProduction.C) (.ref e_InvalidAlphabet.C) = some false
  m_InvalidAlphabet_InvalidAlphabet : PySem.W.exmOne K (.ref e_InvalidAlphabet.C) (.ref e_InvalidAlphabet.C) = some true
  m_InvalidAlphabet_InvalidProduction : PySem.W.exmOne K (.ref e_InvalidAlphabet.C) (.ref e_InvalidProduction.C) = some false
  m_InvalidProduction_InvalidAlphabet : PySem.W.exmOne K (.ref e_InvalidProduction.C) (.ref e_InvalidAlphabet.C) = some false
  m_InvalidProduction_InvalidProduction : PySem.W.exmOne K (.ref e_InvalidProduction.C) (.ref e_InvalidProduction.C) = some true
theorem GoodPs.same {K : PySem.W.Frag} {H H' : Hp} {z : Str} {xs : List V} {ps : List (Nat × Str)} (g : GoodPs K H z xs ps) (s : Same H H') : GoodPs K H' z xs ps :=
  ⟨g.1, fun i v hv => by
    obtain ⟨c, y, e, p, h⟩ := g.2 i v hv
    exact ⟨c, y, e, p.same s, h⟩⟩
theorem GoodPs.kp {K : PySem.W.Frag} {H H' : Hp} {z : Str} {xs : List V} {ps : List (Nat × Str)} {t : Addr} (g : GoodPs K H z xs ps) (s : Kp t H H') : GoodPs K H' z xs ps :=
  ⟨g.1, fun i v hv => by
    obtain ⟨c, y, e, p, h⟩ := g.2 i v hv
    exact ⟨c, y, e, p.kp s, h⟩⟩
theorem nsym_le {l : List Nat} (h : ∀ k, k < 26 → 65 + k ∈ l → 20 ≤ k) : nsym l ≤ 6 := by
  unfold nsym
  refine Nat.le_trans (nodup_lenS _ ((List.range 6).map (· + 20)) (List.nodup_range.sublist List.filter_sublist) fun k hk => ?_) (by decide)
  obtain ⟨h1, h2⟩ := List.mem_filter.mp hk
  have k26 := List.mem_range.mp h1
  have := h k k26 (of_decide_eq_true h2)
  exact List.mem_map.mpr ⟨k - 20, List.mem_range.mpr (by omega), by omega⟩
theorem nsym_seven {l : List Nat} (h : ∀ d, 84 ≤ d → d ≤ 90 → d ∈ l) : 6 < nsym l := by
  unfold nsym
  refine Nat.lt_of_lt_of_le (by decide : 6 < ([19, 20, 21, 22, 23, 24, 25] : List Nat).length) (nodup_lenS _ _ (by decide) fun k hk => ?_)
  have k2 : 19 ≤ k ∧ k ≤ 25 := (by decide : ∀ k ∈ ([19, 20, 21, 22, 23, 24, 25] : List Nat), 19 ≤ k ∧ k ≤ 25) k hk
  exact List.mem_filter.mpr ⟨List.mem_range.mpr (by omega), decide_eq_true (h _ (by omega) (by omega))⟩
theorem good_pre {K : PySem.W.Frag} {H : Hp} {z : Str} {xs ys : List V} {ps : List (Nat × Str)} {n : Nat} (al : Alph z) (g : GoodPs K H z xs ps) (n16 : n ≤ 16) (nl : n ≤ xs.length) (pre : ∀ i, i < n → ys[i]? = xs[i]?) : GrPre K H z ys (ps.take n) ∧ (ps.take n).length = n := by
  have tl' : (ps.take n).length = n := by
    rw [List.length_take, g.1]
    omega
  refine ⟨⟨by omega, fun i v hi hv => ?_, nsym_le fun k k26 hk => ?_⟩, tl'⟩
  · rw [tl'] at hi
    rw [pre i hi] at hv
    obtain ⟨c, y, e, p, _⟩ := g.2 i v hv
    exact ⟨c, y, by rw [List.getElem?_take_of_lt hi]; exact e, p⟩
  · obtain ⟨p, hp, hm⟩ := List.mem_flatMap.mp hk
    obtain ⟨i, hi⟩ := List.mem_iff_getElem?.mp (List.mem_of_mem_take hp)
    have il : i < xs.length := by
      have := (List.getElem?_eq_some_iff.mp hi).1
      rw [g.1] at this
      exact this
    obtain ⟨c, y, e, _, ce, ym⟩ := g.2 i xs[i] (List.getElem?_eq_getElem il)
    rw [hi] at e
    have e := Option.some.inj e
    subst e
    rcases List.mem_cons.mp hm with h | h
    · have h : 65 + k = c := h
      omega
    · rcases ym _ h with q | q
      · have := al.2.2.2 _ q
        omega
      · omega
theorem good_six {K : PySem.W.Frag} {H : Hp} {z : Str} {xs : List V} {ps : List (Nat × Str)} {n : Nat} (g : GoodPs K H z xs ps) (n6 : 6 ≤ n) (nl : n ≤ xs.length) : 6 < nsym (chs (ps.take n ++ [(85, ("T" : Str))])) := by
  refine nsym_seven fun d h1 h2 => ?_
  rw [chs_app, chs_one]
  by_cases e : d = 84
  · subst e
    exact List.mem_append_right _ (List.mem_cons_of_mem _ (by decide +kernel))
  · refine List.mem_append_left _ ?_
    have il : d - 85 < xs.length := by omega
    obtain ⟨c, y, e1, _, ce, _⟩ := g.2 (d - 85) xs[d - 85] (List.getElem?_eq_getElem il)
    refine List.mem_flatMap.mpr ⟨(c, y), List.mem_of_getElem? (i := d - 85) (by rw [List.getElem?_take_of_lt (by omega)]; exact e1), ?_⟩
    have : c = d := by omega
    rw [this]
    exact List.mem_cons_self
theorem cut_take (xs : List V) {k : Int} (h0 : 0 ≤ k) (h : k ≤ xs.length) : cutV xs none (some k) = xs.take k.toNat := by
  obtain ⟨n, rfl⟩ := Int.eq_ofNat_of_zero_le h0
  unfold cutV
  rw [HT.sIx_none, HT.sIx_nat, List.drop_zero, Nat.sub_zero, Nat.min_eq_left (by omega)]
  rfl
theorem cut_drop (xs : List V) {k : Int} (h0 : 0 ≤ k) : cutV xs (some k) none = xs.drop k.toNat := by
  obtain ⟨n, rfl⟩ := Int.eq_ofNat_of_zero_le h0
  unfold cutV
  rw [HT.sIx_none, HT.sIx_nat]
  show List.take _ (List.drop (min n xs.length) xs) = xs.drop n
  by_cases c : n ≤ xs.length
  · rw [Nat.min_eq_left c]
    exact List.take_of_length_le (by rw [List.length_drop]; omega)
  · rw [Nat.min_eq_right (by omega), List.drop_length, List.drop_of_length_le (by omega), List.take_nil]
theorem cut_mid (xs : List V) {k : Int} (h0 : 0 ≤ k) (h : k ≤ 16) (h17 : xs.length = 17) : cutV xs (some k) (some 16) = (xs.drop k.toNat).take (16 - k.toNat) := by
  obtain ⟨n, rfl⟩ := Int.eq_ofNat_of_zero_le h0
  have e : HT.sIx xs.length xs.length (some (16 : Int)) = 16 := by
    rw [h17]
    rfl
  unfold cutV
  rw [HT.sIx_nat, e, Nat.min_eq_left (by omega)]
  rfl
theorem prod_at : ∀ n : Nat, n < 17 → SeqAt.shaped (.tuple [.str "production", .int (n : Int)]) = true ∧ PyData.eqv (.tuple [.str "production", .int (n : Int)]) (.tuple [.str "production", .int (n : Int)]) = true := by decide +kernel
theorem prod_no : SeqAt.shaped (.tuple [.str "production", .none]) = true ∧ PyData.eqv (.tuple [.str "production", .none]) (.tuple [.str "production", .none]) = true := by decide +kernel
theorem noLT_of {K : PySem.W.Frag} {H : Hp} {v : V} {T : Value} (ty : TyX K H v T) (k1 : PySem.W.kitOne K T (.type "list") = some false) (k2 : PySem.W.kitOne K T (.type "tuple") = some false) : NoLT K H v := ⟨T, ty, by simp only [PySem.W.kitAny, k1, k2]⟩
/-- one promise less: no error is promised -/
theorem fnOk_noE {P : Program} {w : World} {K : PySem.W.Frag} {mg : Str → Option Value} {base : Heap} {k : Nat} {f : Addr} {fd : FuncData} {ps : List Str} {sp sp' : Sp} (F : FnOk P w K mg base (L2.CX P w) k f fd ps sp) (h : ∀ vs H Q E, sp' vs H Q E → sp vs H Q (fun _ _ _ => False)) : FnOk P w K mg base CX0 k f fd ps sp' :=
  ⟨fun vs H Q E q => F.len vs H Q _ (h _ _ _ _ q), fun A outer s H as us vs Q E hr e0 hb r q => codeAny_mono (F.run A outer s H as us vs Q (fun _ _ _ => False) hr e0 hb r (h _ _ _ _ q)) fun r s' hq => by
    cases r with
    | error e =>
      obtain ⟨_, _, _, _, _, _, _, _, _, _, _, _, x⟩ := hq
      exact False.elim x
    | ok fl => cases fl <;> exact hq⟩
def spGrO (K : PySem.W.Frag) : Sp := fun vs H Q _ => ∃ (p C dx : Addr) (z : Str) (a : Addr) (xs : List V) (ps : List (Nat × Str)), vs = [.ref p, .str z, .ref a] ∧ H p = some (.ins C dx []) ∧ Cls K C ∧ NoAttr K C "base" ∧ NoAttr K C "rules" ∧ NoAttr K C "occurring" ∧ Alph z ∧ H a = some (.lst xs) ∧ GrPre K H z xs ps ∧ xs.length = ps.length ∧
  ∀ H', (∀ b o, H b = some o → b ≠ p → H' b = some o) → GrAt C H' p z xs ps → Q .non H'
def spLaw (K : PySem.W.Frag) : Sp := fun vs H Q _ => ∃ (a : Addr) (ns : List Int), vs = [.ref a] ∧ SqL K H a (ns.map V.int) ∧ ∀ H', Q (.bl true) H'
section
variable {P : Program} {w : World} {K : PySem.W.Frag} {mg : Str → Option Value} {base : Heap}
theorem toldJ (S : Ds P K mg) : ToldJ K mg S.e_InvalidAlphabet.C S.e_InvalidProduction.C S.e_DownwordsError.C := by
  refine ⟨S.e_InvalidAlphabet.g, S.e_InvalidProduction.g, S.e_DownwordsError.g, S.b_isinstance, S.e_InvalidAlphabet.T, S.e_InvalidProduction.T, S.e_InvalidProduction.no, ?_, ?_, S.k_InvalidAlphabet_DownwordsError, S.k_InvalidProduction_DownwordsError, S.k_InvalidAlphabet_InvalidAlphabet, S.k_InvalidProduction_InvalidAlphabet⟩
  · simp only [PySem.W.exmAny, S.m_InvalidAlphabet_InvalidAlphabet, S.m_InvalidAlphabet_InvalidProduction, Bool.true_or]
  · simp only [PySem.W.exmAny, S.m_InvalidProduction_InvalidAlphabet, S.m_InvalidProduction_InvalidProduction, Bool.or_false, Bool.or_true]
theorem scLaw : FnScope ["_law_script", "_law_tape", "_law_turn", "_law_alphabet_here", "_law_many", "_law_rules", "_law_place", "_law_bent", "_law_longer", "_law_seventh", "_law_wider", "_law_thing", "_law_told_here"] ["_law_script"] (defScope sLaw) := ⟨rfl, rfl, rfl, by decide +kernel, rfl, by decide +kernel, by decide +kernel⟩
theorem ok_law (D : Df K mg "law" sLaw ["_law_script"]) (S : Ds P K mg) : FnOk P w K mg base CX0 6 D.f D.fd ["_law_script"] (spLaw K) := by
  let L : DfGr K mg := ⟨S.gra, S.p_is_alphabet, S.p_is_ascending, S.p_is_production, S.p_is_symbol, S.p_symbols_among, S.b_all, S.b_zip, S.b_isinstance, S.b_str, S.b_tuple, S.B.len, S.b_list, S.b_enumerate, S.B.sorted, S.c_MOST_LETTERS, S.c_MOST_ITEMS, S.c_MOST_PRODUCTIONS, S.c_MOST_SYMBOLS⟩
  have J := toldJ S
  have Gb : FnOk P w K mg base CX0 1 S.begin.f S.begin.fd ["_law_script"] (spBegin K) := ok_begin S.begin
  have Gd : FnOk P w K mg base CX0 1 S.draw.f S.draw.fd ["_law_tape", "_law_many"] spDraw := ok_draw S.draw S.B.len
  have Ga : FnOk P w K mg base CX0 3 S.alphabet.f S.alphabet.fd ["_law_tape"] spAlpha := ok_alpha S.alphabet S.draw S.pick S.B
  have Gg : FnOk P w K mg base CX0 4 S.good.f S.good.fd ["_law_tape", "_law_alphabet_here", "_law_many"] (spGood K) := ok_good S.good S.items S.draw S.pick S.B
  have Gw : FnOk P w K mg base CX0 3 S.bad.f S.bad.fd ["_law_tape", "_law_alphabet_here"] (spBad K) := ok_bad S.bad S.draw S.pick S.B
  have Gt : FnOk P w K mg base CX0 5 S.told.f S.told.fd ["_law_alphabet_here", "_law_productions"] (spTold K) := ok_told S.told L S.e_InvalidAlphabet S.e_InvalidProduction J
  have GI : FnOk P w K mg base CX0 3 L.i.f L.i.fd ["self", "alphabet", "productions"] (spGrO K) := fnOk_noE (ok_gr L S.e_InvalidAlphabet S.e_InvalidProduction) fun vs H Q E h => by
    obtain ⟨p, C, dx, z, a, xs, ps, rfl, hp, h1, h2, h3, h4, al, ha, pre, l, k⟩ := h
    exact ⟨p, C, dx, .str z, .ref a, rfl, hp, h1, h2, h3, h4, .inr ⟨z, rfl, al, .inr ⟨a, xs, ps, rfl, ha, pre, .inr ⟨l, k⟩⟩⟩⟩
  refine D.F.ok scLaw (fun vs H Q E h => ?_) (fun cdv A0 outer s H vs Q E hr h => ?_)
  · obtain ⟨a, ns, rfl, _⟩ := h
    rfl
  · obtain ⟨a, ns, rfl, hS, k⟩ := h
    have hr1 : Room 1 _ := hr.mono (by decide)
    have hr3 : Room 3 _ := hr.mono (by decide)
    have hr4 : Room 4 _ := hr.mono (by decide)
    have hr31 : Room (3 + 1) _ := hr.mono (by decide)
    have hr5 : Room 5 _ := hr.mono (by decide)
    have sl := sizeLine_eq
    refine ⟨_, PSs.nox (pss_cons (ps_set (i := 1) scLaw.nd rfl (.inl rfl) (pe_call Gb hr1 (by rfl) S.begin.g S.begin.F.kp S.begin.b .nil pass0 (pa_cons (pv 0) pa_nil))) (pss_cons (ps_for PassesOwn.never rfl (pi_range1 rfl S.B.range (pa_cons pe_int pa_nil)) (pg_name (i := 2) scLaw.nd rfl (.inl rfl)) (pss_cons (ps_par (i := 3) (j := 4) rfl scLaw.nd rfl rfl (by decide) rfl rfl (pa_cons (pe_call Ga hr3 (by rfl) S.alphabet.g S.alphabet.F.kp S.alphabet.b .nil pass0 (pa_cons (pv 1) pa_nil)) (pa_cons (pe_call Gd hr1 (by rfl) S.draw.g S.draw.F.kp S.draw.b .nil pass0 (pa_cons (pv 1) (pa_cons pe_int pa_nil))) pa_nil)) (by rfl)) (pss_cons (ps_set (i := 5) scLaw.nd rfl (.inl rfl) (pe_call Gg hr4 (by rfl) S.good.g S.good.F.kp S.good.b .nil pass0 (pa_cons (pv 1) (pa_cons (pv 3) (pa_cons (pv 4) pa_nil))))) (pss_cons (ps_if (pw_or (pt_cmpR op_notN (pe_call Gt hr5 (by rfl) S.told.g S.told.F.kp S.told.b .nil pass0 (pa_cons (pv 3) (pa_cons (pv 5) pa_nil))) pe_non (nomark _)) (pw_or1 (pt_cmpR op_notN (pe_call Gt hr5 (by rfl) S.told.g S.told.F.kp S.told.b .nil pass0 (pa_cons (pv 3) (pa_cons (pe_callTy call_tuple_of (by rfl) S.b_tuple (by decide +kernel) (pa_cons (pv 5) pa_nil)) pa_nil))) pe_non (nomark _)))).pt (pss_one (ps_ret pe_bl)) pss_nil) (pss_cons (ps_set (i := 6) scLaw.nd rfl (.inl rfl) (pe_call Gd hr1 (by rfl) S.draw.g S.draw.F.kp S.draw.b .nil pass0 (pa_cons (pv 1) (pa_cons (pe_op op_add (pv 4) pe_int) pa_nil)))) (pss_cons (ps_set (i := 7) scLaw.nd rfl (.inl rfl) (pe_op op_cat (pe_op op_cat (pe_slice sl_list (pv 5) po_none (po_some (pv 6))) (pe_lst (pa_cons (pe_call Gw hr3 (by rfl) S.bad.g S.bad.F.kp S.bad.b .nil pass0 (pa_cons (pv 1) (pa_cons (pv 3) pa_nil))) pa_nil))) (pe_slice sl_list (pv 5) (po_some (pv 6)) po_none))) (pss_cons (ps_if (pt_cmpR (op_neD hr.units) (pe_call Gt hr5 (by rfl) S.told.g S.told.F.kp S.told.b .nil pass0 (pa_cons (pv 3) (pa_cons (pe_op op_cat (pv 7) (pe_lst (pa_cons pe_non pa_nil))) pa_nil))) (pe_tup (pa_cons pe_str (pa_cons (pv 6) pa_nil))) (nomark _)) (pss_one (ps_ret pe_bl)) pss_nil) (pss_cons (ps_set (i := 8) scLaw.nd rfl (.inl rfl) (pe_call Gg hr4 (by rfl) S.good.g S.good.F.kp S.good.b .nil pass0 (pa_cons (pv 1) (pa_cons (pv 3) (pa_cons pe_int pa_nil))))) (pss_cons (ps_if (pt_cmpR (op_neD hr.units) (pe_call Gt hr5 (by rfl) S.told.g S.told.F.kp S.told.b .nil pass0 (pa_cons (pv 3) (pa_cons (pv 8) pa_nil))) (pe_tup (pa_cons pe_str (pa_cons pe_int pa_nil))) (nomark _)) (pss_one (ps_ret pe_bl)) pss_nil) (pss_cons (ps_set (i := 9) scLaw.nd rfl (.inl rfl) (pe_op op_add pe_int (pe_call Gd hr1 (by rfl) S.draw.g S.draw.F.kp S.draw.b .nil pass0 (pa_cons (pv 1) (pa_cons pe_int pa_nil))))) (pss_cons (ps_set (i := 10) scLaw.nd rfl (.inl rfl) (pe_op op_cat (pe_op op_cat (pe_slice sl_list (pv 8) po_none (po_some (pv 9))) (pe_lst (pa_cons (pe_tup (pa_cons pe_str (pa_cons pe_str pa_nil))) pa_nil))) (pe_slice sl_list (pv 8) (po_some (pv 9)) (po_some pe_int)))) (pss_cons (ps_if (pt_cmpR (op_neD hr.units) (pe_call Gt hr5 (by rfl) S.told.g S.told.F.kp S.told.b .nil pass0 (pa_cons (pv 3) (pa_cons (pv 10) pa_nil))) (pe_tup (pa_cons pe_str (pa_cons (pv 9) pa_nil))) (nomark _)) (pss_one (ps_ret pe_bl)) pss_nil) (pss_cons (ps_for PassesOwn.never rfl (pi_tup (pe_tup (pa_cons pe_non (pa_cons pe_int (pa_cons pe_str (pa_cons pe_str (pa_cons pe_dnewK (pa_cons (pe_make L.mkr GI hr31 (by rfl) L.g L.i.b .nil pass0 (pa_cons (pv 3) (pa_cons (pv 5) pa_nil))) pa_nil)))))))) (pg_name (i := 11) scLaw.nd rfl (.inl rfl)) (pss_one (ps_if (pt_cmpR (op_neD hr.units) (pe_call Gt hr5 (by rfl) S.told.g S.told.F.kp S.told.b .nil pass0 (pa_cons (pv 3) (pa_cons (pv 11) pa_nil))) (pe_tup (pa_cons pe_str (pa_cons pe_non pa_nil))) (nomark _)) (pss_one (ps_ret pe_bl)) pss_nil))) (pss_one (ps_for PassesOwn.never rfl (pi_tup (pe_tup (pa_cons pe_non (pa_cons pe_int (pa_cons pe_str (pa_cons pe_str (pa_cons pe_str (pa_cons pe_str (pa_cons pe_str (pa_cons (pe_lst (pa_cons pe_str pa_nil)) (pa_cons (pe_tup (pa_cons pe_str pa_nil)) pa_nil))))))))))) (pg_name (i := 11) scLaw.nd rfl (.inl rfl)) (pss_cons (ps_set (i := 12) scLaw.nd rfl (.inl rfl) (pe_lst (pa_cons (pe_call Gt hr5 (by rfl) S.told.g S.told.F.kp S.told.b .nil pass0 (pa_cons (pv 11) (pa_cons (pe_lst (pa_cons pe_non pa_nil)) pa_nil))) (pa_cons (pe_call Gt hr5 (by rfl) S.told.g S.told.F.kp S.told.b .nil pass0 (pa_cons (pv 11) (pa_cons (pv 5) pa_nil))) (pa_cons (pe_call Gt hr5 (by rfl) S.told.g S.told.F.kp S.told.b .nil pass0 (pa_cons (pv 11) (pa_cons pe_non pa_nil))) pa_nil))))) (pss_one (ps_if (pt_cmpR (op_neD hr.units) (pv 12) (pe_op op_rep (pe_lst (pa_cons pe_str pa_nil)) pe_int) (nomark _)) (pss_one (ps_ret pe_bl)) pss_nil)))))))))))))))))) (pss_one (ps_ret pe_bl)))), ?_⟩
    refine ⟨.ref a, rfl, a, ns, rfl, hS, fun H0 t c s0' ht hc T0 => ?_⟩
    refine ⟨4, rfl, by decide, by decide, for_it walk_range (fun i σ H' => ∃ y2 y3 y4 y5 y6 y7 y8 y9 y10 y11 y12, σ = [some (.ref a), some (.ref t), y2, y3, y4, y5, y6, y7, y8, y9, y10, y11, y12] ∧ Tape H' t c (1000 * i)) ⟨_, _, _, _, _, _, _, _, _, _, _, rfl, T0⟩ (fun _ _ _ _ _ => trivial) ?_ ?_⟩
    · rintro i x0 σ G G' hi ⟨y2, y3, y4, y5, y6, y7, y8, y9, y10, y11, y12, rfl, T⟩ ⟨rfl, rfl⟩
      dsimp only [gName, List.set]
      refine ⟨.ref t, rfl, t, c, 1000 * i, rfl, T, by omega, fun H1 z k1 T1 al => ?_⟩
      refine ⟨.ref t, rfl, t, c, 17, _, rfl, T1, by omega, by decide, by decide, fun H2 r k2 T2 r0 r1 => ?_⟩
      refine ⟨_, _, rfl, ?_⟩
      dsimp only [List.set]
      refine ⟨.ref t, rfl, .str z, rfl, .int r, rfl, t, c, _, z, r, rfl, T2, by omega, al, r0, by omega, fun H3 O xs ps k3 T3 nO hO xl gp => ?_⟩
      dsimp only [gName, List.set]
      clear k1 k2 k3 nO T T1 T2
      have xl16 : xs.length ≤ 16 := by omega
      obtain ⟨pre3, _⟩ := good_pre (ys := xs) al gp xl16 (Nat.le_refl _) (fun _ _ => rfl)
      rw [show ps.take xs.length = ps by rw [← gp.1, List.take_length]] at pre3
      refine ⟨.str z, rfl, .ref O, rfl, .str z, .ref O, rfl, .inr ⟨z, rfl, al, .inr ⟨O, xs, ps, rfl, .inl hO, pre3, .inr ⟨gp.1.symm, fun H4 s4 => ?_⟩⟩⟩⟩
      refine ⟨rfl, _, rfl, iteF ?_⟩
      refine ⟨.str z, rfl, .ref O, rfl, O, xs, rfl, .inl ⟨SqL.of (s4 _ _ hO), fun tu htu => ?_⟩⟩
      have s5 := s4.trans (same_upd (o := .tup xs) htu)
      refine ⟨.str z, .ref tu, rfl, .inr ⟨z, rfl, al, .inr ⟨tu, xs, ps, rfl, .inr upd_same, pre3.same s5, .inr ⟨gp.1.symm, fun H6 s6 => ?_⟩⟩⟩⟩
      refine ⟨rfl, _, rfl, iteF ?_⟩
      have s56 := s5.trans s6
      have hO := s56 _ _ hO
      have gp := gp.same s56
      have T6 := T3.same s56
      clear s4 s5 s6 s56 htu pre3 T3
      refine ⟨.ref t, rfl, .int r, rfl, _, 1, rfl, rfl, t, c, _, _, rfl, T6, by omega, by omega, by omega, fun H7 pl k7 T7 p0 p1 => ?_⟩
      dsimp only [gName, List.set]
      have hO := k7.at hO (fun _ q => by cases q)
      have gp := gp.kp k7
      clear k7 T6
      unfold tNoPart
      refine ⟨.ref O, rfl, .int pl, rfl, pl, rfl, O, xs, rfl, SqL.of hO, fun b1 hb1 => ?_⟩
      rw [cut_take xs p0 (by omega)]
      have s1 := same_upd (o := .lst (xs.take pl.toNat)) hb1
      have g1 : (upd H7 b1 (.lst (xs.take pl.toNat))) b1 = some (.lst (xs.take pl.toNat)) := upd_same
      generalize upd H7 b1 (.lst (xs.take pl.toNat)) = N1 at s1 g1 ⊢
      have hO := s1 _ _ hO
      have gp := gp.same s1
      have T8 := T7.same s1
      clear s1 hb1 T7
      refine ⟨.ref t, rfl, .str z, rfl, t, c, _, z, rfl, T8, by omega, al, fun N2 bv kb T9 pb => ?_⟩
      have hO := kb.at hO (fun _ q => by cases q)
      have g1 := kb.at g1 (fun _ q => by cases q)
      have gp := gp.kp kb
      clear kb T8
      refine ⟨by show 1 ≤ sizeLine; decide, fun b2 hb2 => ?_⟩
      have s2 := same_upd (o := .lst [bv]) hb2
      refine ⟨b1, b2, _, _, rfl, rfl, s2 _ _ g1, upd_same, ?_, fun b3 hb3 => ?_⟩
      · rw [List.length_take]
        show _ + 1 ≤ _
        omega
      have s3 := s2.trans (same_upd (o := .lst (xs.take pl.toNat ++ [bv])) hb3)
      have g3 : (upd (upd N2 b2 (.lst [bv])) b3 (.lst (xs.take pl.toNat ++ [bv]))) b3 = some (.lst (xs.take pl.toNat ++ [bv])) := upd_same
      generalize upd (upd N2 b2 (.lst [bv])) b3 (.lst (xs.take pl.toNat ++ [bv])) = N3 at s3 g3 ⊢
      have hO := s3 _ _ hO
      have gp := gp.same s3
      have T9 := T9.same s3
      have pb := pb.same s3
      clear s2 s3 hb2 hb3 g1
      refine ⟨.ref O, rfl, .int pl, rfl, pl, rfl, O, xs, rfl, SqL.of hO, fun b4 h_b4 => ?_⟩
      rw [cut_drop xs p0]
      have s_b4 := same_upd (o := .lst (xs.drop pl.toNat)) h_b4
      have g_b4 : (upd N3 b4 (.lst (xs.drop pl.toNat))) b4 = some (.lst (xs.drop pl.toNat)) := upd_same
      generalize upd N3 b4 (.lst (xs.drop pl.toNat)) = N4 at s_b4 g_b4 ⊢
      have g3 := s_b4 _ _ g3
      have hO := s_b4 _ _ hO
      have gp := gp.same s_b4
      have T9 := T9.same s_b4
      have pb := pb.same s_b4
      clear s_b4 h_b4
      refine ⟨b3, b4, _, _, rfl, rfl, g3, g_b4, ?_, fun b5 h_b5 => ?_⟩
      · rw [List.length_append, List.length_take, List.length_drop]
        show _ + 1 + _ ≤ _
        omega
      have s_b5 := same_upd (o := .lst ((xs.take pl.toNat ++ [bv]) ++ xs.drop pl.toNat)) h_b5
      have g_b5 : (upd N4 b5 (.lst ((xs.take pl.toNat ++ [bv]) ++ xs.drop pl.toNat))) b5 = some (.lst ((xs.take pl.toNat ++ [bv]) ++ xs.drop pl.toNat)) := upd_same
      generalize upd N4 b5 (.lst ((xs.take pl.toNat ++ [bv]) ++ xs.drop pl.toNat)) = N5 at s_b5 g_b5 ⊢
      have hO := s_b5 _ _ hO
      have gp := gp.same s_b5
      have T9 := T9.same s_b5
      have pb := pb.same s_b5
      clear s_b5 h_b5
      clear g3 g_b4
      dsimp only [gName, List.set]
      refine ⟨.str z, rfl, .ref b5, rfl, by show 1 ≤ sizeLine; decide, fun b6 h_b6 => ?_⟩
      have s_b6 := same_upd (o := .lst [.non]) h_b6
      have g_b6 : (upd N5 b6 (.lst [.non])) b6 = some (.lst [.non]) := upd_same
      generalize upd N5 b6 (.lst [.non]) = N6 at s_b6 g_b6 ⊢
      have hO := s_b6 _ _ hO
      have g_b5 := s_b6 _ _ g_b5
      have gp := gp.same s_b6
      have T9 := T9.same s_b6
      have pb := pb.same s_b6
      clear s_b6 h_b6
      refine ⟨b5, b6, _, _, rfl, rfl, g_b5, g_b6, ?_, fun b7 h_b7 => ?_⟩
      · rw [List.length_append, List.length_append, List.length_take, List.length_drop]
        show _ + 1 + _ + 1 ≤ _
        omega
      have s_b7 := same_upd (o := .lst (((xs.take pl.toNat ++ [bv]) ++ xs.drop pl.toNat) ++ [.non])) h_b7
      have g_b7 : (upd N6 b7 (.lst (((xs.take pl.toNat ++ [bv]) ++ xs.drop pl.toNat) ++ [.non]))) b7 = some (.lst (((xs.take pl.toNat ++ [bv]) ++ xs.drop pl.toNat) ++ [.non])) := upd_same
      generalize upd N6 b7 (.lst (((xs.take pl.toNat ++ [bv]) ++ xs.drop pl.toNat) ++ [.non])) = N7 at s_b7 g_b7 ⊢
      have hO := s_b7 _ _ hO
      have g_b5 := s_b7 _ _ g_b5
      have gp := gp.same s_b7
      have T9 := T9.same s_b7
      have pb := pb.same s_b7
      clear s_b7 h_b7
      clear g_b6 g_b5
      have tl' : (xs.take pl.toNat).length = pl.toNat := by
        rw [List.length_take]
        omega
      have yi : ∀ j, j < pl.toNat → (((xs.take pl.toNat ++ [bv]) ++ xs.drop pl.toNat) ++ [.non])[j]? = xs[j]? := fun j hj => by
        rw [List.append_assoc, List.append_assoc, List.getElem?_append_left (by omega), List.getElem?_take_of_lt hj]
      have yp : (((xs.take pl.toNat ++ [bv]) ++ xs.drop pl.toNat) ++ [.non])[pl.toNat]? = some bv := by
        rw [List.append_assoc, List.append_assoc, List.getElem?_append_right (by omega), tl', Nat.sub_self]
        rfl
      obtain ⟨preb, pbl⟩ := good_pre (ys := ((xs.take pl.toNat ++ [bv]) ++ xs.drop pl.toNat) ++ [.non]) (n := pl.toNat) al gp (by omega) (by omega) yi
      refine ⟨.str z, .ref b7, rfl, .inr ⟨z, rfl, al, .inr ⟨b7, _, ps.take pl.toNat, rfl, .inl g_b7, preb, .inl ⟨bv, by rw [pbl]; exact yp, .inr (.inl pb), fun M0 e0 s0 he0 => ?_⟩⟩⟩⟩
      rw [pbl] at he0
      have hO := s0 _ _ hO
      have gp := gp.same s0
      have T9 := T9.same s0
      clear s0 preb pb g_b7 yi yp pbl
      refine ⟨.int pl, rfl, by show 2 ≤ sizeLine; decide, fun e1 h_e1 => ?_⟩
      obtain ⟨shp, eqp⟩ := prod_at pl.toNat (by omega)
      rw [Int.toNat_of_nonneg p0] at shp eqp he0
      have s_e1 := same_upd (o := .tup [V.str "production", V.int pl]) h_e1
      have g_e1 : (upd M0 e1 (.tup [V.str "production", V.int pl])) e1 = some (.tup [V.str "production", V.int pl]) := upd_same
      generalize upd M0 e1 (.tup [V.str "production", V.int pl]) = M1 at s_e1 g_e1 ⊢
      have he0 := s_e1 _ _ he0
      have hO := s_e1 _ _ hO
      have gp := gp.same s_e1
      have T9 := T9.same s_e1
      clear s_e1 h_e1
      refine ⟨.tuple [.str "production", .int pl], .tuple [.str "production", .int pl], .tup (SqT.of he0) (.cons (.str _) (.cons (.int _) .nil)), .tup (SqT.of g_e1) (.cons (.str _) (.cons (.int _) .nil)), shp, shp, ?_⟩
      rw [eqp]
      refine ⟨_, rfl, iteF ?_⟩
      clear shp eqp he0 g_e1
      refine ⟨.ref t, rfl, .str z, rfl, t, c, _, z, 17, rfl, T9, by omega, al, by decide, by decide, fun M2 O2 xs2 ps2 k2 T2 nO2 hO2 xl2 gp2 => ?_⟩
      dsimp only [gName, List.set]
      have hO := k2.at hO (fun _ q => by cases q)
      have gp := gp.kp k2
      clear k2 T9 nO2
      have xl17 : xs2.length = 17 := by omega
      obtain ⟨prel, psl⟩ := good_pre (ys := xs2) (n := 16) al gp2 (Nat.le_refl _) (by omega) (fun _ _ => rfl)
      refine ⟨.str z, rfl, .ref O2, rfl, .str z, .ref O2, rfl, .inr ⟨z, rfl, al, .inr ⟨O2, xs2, ps2.take 16, rfl, .inl hO2, prel, .inl ⟨xs2[16]'(by omega), by rw [psl]; exact List.getElem?_eq_getElem (by omega), .inl psl, fun M3 e0 s0 he0 => ?_⟩⟩⟩⟩
      rw [psl] at he0
      have hO := s0 _ _ hO
      have hO2 := s0 _ _ hO2
      have gp := gp.same s0
      have gp2 := gp2.same s0
      have T2 := T2.same s0
      clear s0 prel psl
      refine ⟨by show 2 ≤ sizeLine; decide, fun e1 h_e1 => ?_⟩
      obtain ⟨shp, eqp⟩ := prod_at 16 (by decide)
      have s_e1 := same_upd (o := .tup [V.str "production", V.int 16]) h_e1
      have g_e1 : (upd M3 e1 (.tup [V.str "production", V.int 16])) e1 = some (.tup [V.str "production", V.int 16]) := upd_same
      generalize upd M3 e1 (.tup [V.str "production", V.int 16]) = M4 at s_e1 g_e1 ⊢
      have he0 := s_e1 _ _ he0
      have hO := s_e1 _ _ hO
      have hO2 := s_e1 _ _ hO2
      have gp := gp.same s_e1
      have gp2 := gp2.same s_e1
      have T2 := T2.same s_e1
      clear s_e1 h_e1
      refine ⟨.tuple [.str "production", .int 16], .tuple [.str "production", .int 16], .tup (SqT.of he0) (.cons (.str _) (.cons (.int _) .nil)), .tup (SqT.of g_e1) (.cons (.str _) (.cons (.int _) .nil)), shp, shp, ?_⟩
      rw [show PyData.eqv (.tuple [.str "production", .int 16]) (.tuple [.str "production", .int 16]) = true from eqp]
      refine ⟨_, rfl, iteF ?_⟩
      clear shp eqp he0 g_e1
      refine ⟨.ref t, rfl, t, c, 10, _, rfl, T2, by omega, by decide, by decide, fun M5 r2 k5 T5 q0 q1 => ?_⟩
      have hO := k5.at hO (fun _ q => by cases q)
      have hO2 := k5.at hO2 (fun _ q => by cases q)
      have gp := gp.kp k5
      have gp2 := gp2.kp k5
      clear k5 T2
      refine ⟨6, r2, rfl, rfl, ?_⟩
      dsimp only [gName, List.set]
      obtain ⟨sv, esv⟩ : ∃ sv : Int, 6 + r2 = sv := ⟨_, rfl⟩
      rw [esv]
      have v6 : 6 ≤ sv := by omega
      have v15 : sv ≤ 15 := by omega
      refine ⟨.ref O2, rfl, .int sv, rfl, sv, rfl, O2, xs2, rfl, SqL.of hO2, fun c1 h_c1 => ?_⟩
      rw [cut_take xs2 (by omega) (by omega)]
      have s_c1 := same_upd (o := .lst (xs2.take sv.toNat)) h_c1
      have g_c1 : (upd M5 c1 (.lst (xs2.take sv.toNat))) c1 = some (.lst (xs2.take sv.toNat)) := upd_same
      generalize upd M5 c1 (.lst (xs2.take sv.toNat)) = R1 at s_c1 g_c1 ⊢
      have hO := s_c1 _ _ hO
      have hO2 := s_c1 _ _ hO2
      have gp := gp.same s_c1
      have gp2 := gp2.same s_c1
      have T5 := T5.same s_c1
      clear s_c1 h_c1
      refine ⟨by show 2 ≤ sizeLine; decide, fun c2 h_c2 => ?_⟩
      have s_c2 := same_upd (o := .tup [V.str "U", V.str "T"]) h_c2
      have g_c2 : (upd R1 c2 (.tup [V.str "U", V.str "T"])) c2 = some (.tup [V.str "U", V.str "T"]) := upd_same
      generalize upd R1 c2 (.tup [V.str "U", V.str "T"]) = R2 at s_c2 g_c2 ⊢
      have hO := s_c2 _ _ hO
      have hO2 := s_c2 _ _ hO2
      have g_c1 := s_c2 _ _ g_c1
      have gp := gp.same s_c2
      have gp2 := gp2.same s_c2
      have T5 := T5.same s_c2
      clear s_c2 h_c2
      refine ⟨by show 1 ≤ sizeLine; decide, fun c3 h_c3 => ?_⟩
      have s_c3 := same_upd (o := .lst [V.ref c2]) h_c3
      have g_c3 : (upd R2 c3 (.lst [V.ref c2])) c3 = some (.lst [V.ref c2]) := upd_same
      generalize upd R2 c3 (.lst [V.ref c2]) = R3 at s_c3 g_c3 ⊢
      have hO := s_c3 _ _ hO
      have hO2 := s_c3 _ _ hO2
      have g_c1 := s_c3 _ _ g_c1
      have g_c2 := s_c3 _ _ g_c2
      have gp := gp.same s_c3
      have gp2 := gp2.same s_c3
      have T5 := T5.same s_c3
      clear s_c3 h_c3
      have tl2 : (xs2.take sv.toNat).length = sv.toNat := by
        rw [List.length_take]
        omega
      refine ⟨c1, c3, _, _, rfl, rfl, g_c1, g_c3, ?_, fun c4 h_c4 => ?_⟩
      · rw [tl2]
        show _ + 1 ≤ _
        omega
      have s_c4 := same_upd (o := .lst (xs2.take sv.toNat ++ [V.ref c2])) h_c4
      have g_c4 : (upd R3 c4 (.lst (xs2.take sv.toNat ++ [V.ref c2]))) c4 = some (.lst (xs2.take sv.toNat ++ [V.ref c2])) := upd_same
      generalize upd R3 c4 (.lst (xs2.take sv.toNat ++ [V.ref c2])) = R4 at s_c4 g_c4 ⊢
      have hO := s_c4 _ _ hO
      have hO2 := s_c4 _ _ hO2
      have g_c2 := s_c4 _ _ g_c2
      have gp := gp.same s_c4
      have gp2 := gp2.same s_c4
      have T5 := T5.same s_c4
      clear s_c4 h_c4
      clear g_c1 g_c3
      refine ⟨.ref O2, rfl, .int sv, rfl, sv, rfl, 16, rfl, O2, xs2, rfl, SqL.of hO2, fun c5 h_c5 => ?_⟩
      rw [cut_mid xs2 (by omega) (by omega) xl17]
      have s_c5 := same_upd (o := .lst ((xs2.drop sv.toNat).take (16 - sv.toNat))) h_c5
      have g_c5 : (upd R4 c5 (.lst ((xs2.drop sv.toNat).take (16 - sv.toNat)))) c5 = some (.lst ((xs2.drop sv.toNat).take (16 - sv.toNat))) := upd_same
      generalize upd R4 c5 (.lst ((xs2.drop sv.toNat).take (16 - sv.toNat))) = R5 at s_c5 g_c5 ⊢
      have hO := s_c5 _ _ hO
      have g_c4 := s_c5 _ _ g_c4
      have g_c2 := s_c5 _ _ g_c2
      have gp := gp.same s_c5
      have gp2 := gp2.same s_c5
      have T5 := T5.same s_c5
      clear s_c5 h_c5
      refine ⟨c4, c5, _, _, rfl, rfl, g_c4, g_c5, ?_, fun c6 h_c6 => ?_⟩
      · rw [List.length_append, tl2, List.length_take]
        show _ + 1 + _ ≤ _
        omega
      have s_c6 := same_upd (o := .lst ((xs2.take sv.toNat ++ [V.ref c2]) ++ (xs2.drop sv.toNat).take (16 - sv.toNat))) h_c6
      have g_c6 : (upd R5 c6 (.lst ((xs2.take sv.toNat ++ [V.ref c2]) ++ (xs2.drop sv.toNat).take (16 - sv.toNat)))) c6 = some (.lst ((xs2.take sv.toNat ++ [V.ref c2]) ++ (xs2.drop sv.toNat).take (16 - sv.toNat))) := upd_same
      generalize upd R5 c6 (.lst ((xs2.take sv.toNat ++ [V.ref c2]) ++ (xs2.drop sv.toNat).take (16 - sv.toNat))) = R6 at s_c6 g_c6 ⊢
      have hO := s_c6 _ _ hO
      have g_c2 := s_c6 _ _ g_c2
      have gp := gp.same s_c6
      have gp2 := gp2.same s_c6
      have T5 := T5.same s_c6
      clear s_c6 h_c6
      clear g_c4 g_c5
      dsimp only [gName, List.set]
      have yi : ∀ j, j < sv.toNat → ((xs2.take sv.toNat ++ [V.ref c2]) ++ (xs2.drop sv.toNat).take (16 - sv.toNat))[j]? = xs2[j]? := fun j hj => by
        rw [List.append_assoc, List.getElem?_append_left (by omega), List.getElem?_take_of_lt hj]
      have yp : ((xs2.take sv.toNat ++ [V.ref c2]) ++ (xs2.drop sv.toNat).take (16 - sv.toNat))[sv.toNat]? = some (V.ref c2) := by
        rw [List.append_assoc, List.getElem?_append_right (by omega), tl2, Nat.sub_self]
        rfl
      obtain ⟨preb, pbl⟩ := good_pre (ys := (xs2.take sv.toNat ++ [V.ref c2]) ++ (xs2.drop sv.toNat).take (16 - sv.toNat)) (n := sv.toNat) al gp2 (by omega) (by omega) yi
      have pU : PdAt K R6 z (.ref c2) 85 "T" := by
        refine ⟨c2, rfl, ?_, by decide, by decide, ?_⟩
        · rw [show (⟨#[85]⟩ : Str) = "U" from by decide +kernel]
          exact SqT.of g_c2
        · unfold rightB
          rw [show tl ("T" : Str) = [84] from by decide +kernel]
          rfl
      refine ⟨.str z, rfl, .ref c6, rfl, .str z, .ref c6, rfl, .inr ⟨z, rfl, al, .inr ⟨c6, _, ps2.take sv.toNat, rfl, .inl g_c6, preb, .inl ⟨.ref c2, by rw [pbl]; exact yp, .inr (.inr ⟨85, "T", pU, good_six gp2 (by omega) (by omega)⟩), fun U0 e0 s0 he0 => ?_⟩⟩⟩⟩
      rw [pbl] at he0
      have hO := s0 _ _ hO
      have gp := gp.same s0
      have T5 := T5.same s0
      clear s0 preb pU gp2 g_c6 yi yp pbl g_c2
      refine ⟨.int sv, rfl, by show 2 ≤ sizeLine; decide, fun e1 h_e1 => ?_⟩
      obtain ⟨shp, eqp⟩ := prod_at sv.toNat (by omega)
      rw [Int.toNat_of_nonneg (by omega)] at shp eqp he0
      have s_e1 := same_upd (o := .tup [V.str "production", V.int sv]) h_e1
      have g_e1 : (upd U0 e1 (.tup [V.str "production", V.int sv])) e1 = some (.tup [V.str "production", V.int sv]) := upd_same
      generalize upd U0 e1 (.tup [V.str "production", V.int sv]) = U1 at s_e1 g_e1 ⊢
      have he0 := s_e1 _ _ he0
      have hO := s_e1 _ _ hO
      have gp := gp.same s_e1
      have T5 := T5.same s_e1
      clear s_e1 h_e1
      refine ⟨.tuple [.str "production", .int sv], .tuple [.str "production", .int sv], .tup (SqT.of he0) (.cons (.str _) (.cons (.int _) .nil)), .tup (SqT.of g_e1) (.cons (.str _) (.cons (.int _) .nil)), shp, shp, ?_⟩
      rw [eqp]
      refine ⟨_, rfl, iteF ?_⟩
      clear shp eqp he0 g_e1
      refine fun d1 h_d1 => ?_
      have s_d1 := same_upd (o := .dK []) h_d1
      have g_d1 : (upd U1 d1 (.dK [])) d1 = some (.dK []) := upd_same
      generalize upd U1 d1 (.dK []) = U2 at s_d1 g_d1 ⊢
      have hO := s_d1 _ _ hO
      have gp := gp.same s_d1
      have T5 := T5.same s_d1
      clear s_d1 h_d1
      obtain ⟨preO, _⟩ := good_pre (ys := xs) al gp xl16 (Nat.le_refl _) (fun _ _ => rfl)
      rw [show ps.take xs.length = ps by rw [← gp.1, List.take_length]] at preO
      refine ⟨.str z, rfl, .ref O, rfl, fun x dx hx hdx nxd => ?_⟩
      have sX : Same U2 (upd (upd U2 dx (.own x)) x (.ins L.C dx [])) := fun b o e => (upd_ne (ne_of_none e hx)).trans ((upd_ne (ne_of_none e hdx)).trans e)
      refine ⟨x, L.C, dx, z, O, xs, ps, rfl, upd_same, L.cl, L.nB, L.nR, L.nO, al, sX _ _ hO, preO.same sX, gp.1.symm, fun U3 kp gr => ?_⟩
      have sU : Same U2 U3 := fun b o e => kp b o (sX _ _ e) (ne_of_none e hx)
      have hO := sU _ _ hO
      have gp := gp.same sU
      have T5 := T5.same sU
      have g_d1 := sU _ _ g_d1
      obtain ⟨dx', gr1, gr2, gr3, hx3, _⟩ := gr
      clear sU kp sX preO hx hdx nxd
      refine ⟨rfl, by show 6 ≤ sizeLine; decide, fun tp h_tp => ?_⟩
      have s_tp := same_upd (o := .tup [V.non, V.int 0, V.str "", V.str "S", V.ref d1, V.ref x]) h_tp
      have g_tp : (upd U3 tp (.tup [V.non, V.int 0, V.str "", V.str "S", V.ref d1, V.ref x])) tp = some (.tup [V.non, V.int 0, V.str "", V.str "S", V.ref d1, V.ref x]) := upd_same
      generalize upd U3 tp (.tup [V.non, V.int 0, V.str "", V.str "S", V.ref d1, V.ref x]) = U4 at s_tp g_tp ⊢
      have hO := s_tp _ _ hO
      have g_d1 := s_tp _ _ g_d1
      have hx3 := s_tp _ _ hx3
      have gp := gp.same s_tp
      have T5 := T5.same s_tp
      clear s_tp h_tp
      have ts : PySem.W.kitOne K (.type "str") (.type "list") = some false ∧ PySem.W.kitOne K (.type "str") (.type "tuple") = some false := ⟨kit_ty (by decide +kernel), kit_ty (by decide +kernel)⟩
      have nl : ∀ v ∈ [V.non, V.int 0, V.str "", V.str "S", V.ref d1, V.ref x], NoLT K U4 v := fun v hv => by
        simp only [List.mem_cons, List.not_mem_nil, or_false] at hv
        rcases hv with rfl | rfl | rfl | rfl | rfl | rfl
        · exact noLT_of (.base .non) (kit_ty (by decide +kernel)) (kit_ty (by decide +kernel))
        · exact noLT_of (.base (.int 0)) (kit_ty (by decide +kernel)) (kit_ty (by decide +kernel))
        · exact noLT_of (.base (.str "")) ts.1 ts.2
        · exact noLT_of (.base (.str "S")) ts.1 ts.2
        · exact noLT_of (.base (.dK g_d1)) (kit_ty (by decide +kernel)) (kit_ty (by decide +kernel))
        · exact noLT_of (.base (TyOf.ins hx3 L.cl S.gow.ha S.gow.hn S.gow.ht S.gow.hm)) S.g_list S.g_tuple
      refine ⟨tp, rfl, ⟨_, SqT.of g_tp⟩, for_it (walk_tup (xs := [V.non, V.int 0, V.str "", V.str "S", V.ref d1, V.ref x])) (fun j σ H' => ∃ y11', σ = [some (.ref a), some (.ref t), some (.int (0 + (i : Int))), some (.str z), some (.int r), some (.ref O), some (.int pl), some (.ref b5), some (.ref O2), some (.int sv), some (.ref c6), y11', y12] ∧ Same U4 H') ⟨_, rfl, Same.refl _⟩ (fun _ _ _ _ ⟨_, _, sm⟩ => SqT.of (sm _ _ g_tp)) ?_ ?_⟩
      · rintro j x0 σ W1 W2 hj ⟨y11', rfl, sm⟩ ⟨rfl, hv⟩
        have nv := (nl x0 (List.mem_of_getElem? hv)).same sm
        dsimp only [gName, List.set]
        refine ⟨.str z, rfl, x0, rfl, .str z, x0, rfl, .inr ⟨z, rfl, al, .inl ⟨nv, fun W3 e0 s0 he0 => ?_⟩⟩⟩
        refine ⟨by show 2 ≤ sizeLine; decide, fun e1 h_e1 => ?_⟩
        have sm := (sm.trans s0)
        have s_e1 := same_upd (o := .tup [V.str "production", V.non]) h_e1
        have g_e1 : (upd W3 e1 (.tup [V.str "production", V.non])) e1 = some (.tup [V.str "production", V.non]) := upd_same
        generalize upd W3 e1 (.tup [V.str "production", V.non]) = W4 at s_e1 g_e1 ⊢
        have he0 := s_e1 _ _ he0
        have sm := sm.trans s_e1
        clear s_e1 h_e1
        refine ⟨.tuple [.str "production", .none], .tuple [.str "production", .none], .tup (SqT.of he0) (.cons (.str _) (.cons .non .nil)), .tup (SqT.of g_e1) (.cons (.str _) (.cons .non .nil)), prod_no.1, prod_no.1, ?_⟩
        rw [prod_no.2]
        exact ⟨_, rfl, iteF ⟨_, rfl, sm⟩⟩
      rintro σ W1 ⟨y11', rfl, sm⟩
      have hO := sm _ _ hO
      have gp := gp.same sm
      have T5 := T5.same sm
      clear sm nl g_tp hx3 g_d1
      refine ⟨by show 1 ≤ sizeLine; decide, fun f1 h_f1 => ?_⟩
      have s_f1 := same_upd (o := .lst [V.str "a"]) h_f1
      have g_f1 : (upd W1 f1 (.lst [V.str "a"])) f1 = some (.lst [V.str "a"]) := upd_same
      generalize upd W1 f1 (.lst [V.str "a"]) = W2 at s_f1 g_f1 ⊢
      have hO := s_f1 _ _ hO
      have gp := gp.same s_f1
      have T5 := T5.same s_f1
      clear s_f1 h_f1
      refine ⟨by show 1 ≤ sizeLine; decide, fun f2 h_f2 => ?_⟩
      have s_f2 := same_upd (o := .tup [V.str "a"]) h_f2
      have g_f2 : (upd W2 f2 (.tup [V.str "a"])) f2 = some (.tup [V.str "a"]) := upd_same
      generalize upd W2 f2 (.tup [V.str "a"]) = W3 at s_f2 g_f2 ⊢
      have hO := s_f2 _ _ hO
      have g_f1 := s_f2 _ _ g_f1
      have gp := gp.same s_f2
      have T5 := T5.same s_f2
      clear s_f2 h_f2
      refine ⟨by show 9 ≤ sizeLine; decide, fun tp2 h_tp2 => ?_⟩
      have s_tp2 := same_upd (o := .tup [V.non, V.int 0, V.str "", V.str "ba", V.str "aa", V.str "A", V.str "abcd", V.ref f1, V.ref f2]) h_tp2
      have g_tp2 : (upd W3 tp2 (.tup [V.non, V.int 0, V.str "", V.str "ba", V.str "aa", V.str "A", V.str "abcd", V.ref f1, V.ref f2])) tp2 = some (.tup [V.non, V.int 0, V.str "", V.str "ba", V.str "aa", V.str "A", V.str "abcd", V.ref f1, V.ref f2]) := upd_same
      generalize upd W3 tp2 (.tup [V.non, V.int 0, V.str "", V.str "ba", V.str "aa", V.str "A", V.str "abcd", V.ref f1, V.ref f2]) = W4 at s_tp2 g_tp2 ⊢
      have hO := s_tp2 _ _ hO
      have g_f1 := s_tp2 _ _ g_f1
      have g_f2 := s_tp2 _ _ g_f2
      have gp := gp.same s_tp2
      have T5 := T5.same s_tp2
      clear s_tp2 h_tp2
      have nb : ∀ v ∈ [V.non, V.int 0, V.str "", V.str "ba", V.str "aa", V.str "A", V.str "abcd", V.ref f1, V.ref f2], BadA K W4 v := fun v hv => by
        simp only [List.mem_cons, List.not_mem_nil, or_false] at hv
        rcases hv with rfl | rfl | rfl | rfl | rfl | rfl | rfl | rfl | rfl
        · exact .no noS_non
        · exact .no ⟨_, .base (.int 0), kit_ty (by decide +kernel)⟩
        · exact .str (by decide) (by decide)
        · exact .str (by decide) (by decide)
        · exact .str (by decide) (by decide)
        · exact .str (by decide) (by decide)
        · exact .str (by decide) (by decide)
        · exact .no (noS_lst g_f1)
        · exact .no (noS_tup g_f2)
      refine ⟨tp2, rfl, ⟨_, SqT.of g_tp2⟩, for_it (walk_tup (xs := [V.non, V.int 0, V.str "", V.str "ba", V.str "aa", V.str "A", V.str "abcd", V.ref f1, V.ref f2])) (fun j σ H' => ∃ y11' y12', σ = [some (.ref a), some (.ref t), some (.int (0 + (i : Int))), some (.str z), some (.int r), some (.ref O), some (.int pl), some (.ref b5), some (.ref O2), some (.int sv), some (.ref c6), y11', y12'] ∧ Same W4 H') ⟨_, _, rfl, Same.refl _⟩ (fun _ _ _ _ ⟨_, _, _, sm⟩ => SqT.of (sm _ _ g_tp2)) ?_ ?_⟩
      · rintro j x0 σ V1 V2 hj ⟨y11', y12', rfl, sm⟩ ⟨rfl, hv⟩
        have nv := (nb x0 (List.mem_of_getElem? hv)).same sm
        dsimp only [gName, List.set]
        refine ⟨x0, rfl, by show 1 ≤ sizeLine; decide, fun m1 h_m1 => ?_⟩
        have s_m1 := same_upd (o := .lst [V.non]) h_m1
        have g_m1 : (upd V2 m1 (.lst [V.non])) m1 = some (.lst [V.non]) := upd_same
        generalize upd V2 m1 (.lst [V.non]) = V3 at s_m1 g_m1 ⊢
        have sm := sm.trans s_m1
        have nv := nv.same s_m1
        clear s_m1 h_m1
        refine ⟨x0, .ref m1, rfl, .inl ⟨nv, fun V4 s4 => ?_⟩⟩
        have nv := nv.same s4
        have sm := sm.trans s4
        refine ⟨x0, rfl, .ref O, rfl, x0, .ref O, rfl, .inl ⟨nv, fun V5 s5 => ?_⟩⟩
        have nv := nv.same s5
        have sm := sm.trans s5
        refine ⟨x0, rfl, x0, .non, rfl, .inl ⟨nv, fun V6 s6 => ?_⟩⟩
        have sm := sm.trans s6
        refine ⟨by show 3 ≤ sizeLine; decide, fun m2 h_m2 => ?_⟩
        have s_m2 := same_upd (o := .lst [V.str "alphabet", V.str "alphabet", V.str "alphabet"]) h_m2
        have g_m2 : (upd V6 m2 (.lst [V.str "alphabet", V.str "alphabet", V.str "alphabet"])) m2 = some (.lst [V.str "alphabet", V.str "alphabet", V.str "alphabet"]) := upd_same
        generalize upd V6 m2 (.lst [V.str "alphabet", V.str "alphabet", V.str "alphabet"]) = V7 at s_m2 g_m2 ⊢
        have sm := sm.trans s_m2
        clear s_m2 h_m2
        refine ⟨_, rfl, by show 1 ≤ sizeLine; decide, fun m3 h_m3 => ?_⟩
        have s_m3 := same_upd (o := .lst [V.str "alphabet"]) h_m3
        have g_m3 : (upd V7 m3 (.lst [V.str "alphabet"])) m3 = some (.lst [V.str "alphabet"]) := upd_same
        generalize upd V7 m3 (.lst [V.str "alphabet"]) = V8 at s_m3 g_m3 ⊢
        have sm := sm.trans s_m3
        have g_m2 := s_m3 _ _ g_m2
        clear s_m3 h_m3
        refine ⟨m3, 3, [.str "alphabet"], rfl, rfl, g_m3, by decide, by decide, by show 3 ≤ sizeLine; decide, fun m4 h_m4 => ?_⟩
        have s_m4 := same_upd (o := .lst (List.replicate (3 : Int).toNat [V.str "alphabet"]).flatten) h_m4
        have g_m4 : (upd V8 m4 (.lst (List.replicate (3 : Int).toNat [V.str "alphabet"]).flatten)) m4 = some (.lst (List.replicate (3 : Int).toNat [V.str "alphabet"]).flatten) := upd_same
        generalize upd V8 m4 (.lst (List.replicate (3 : Int).toNat [V.str "alphabet"]).flatten) = V9 at s_m4 g_m4 ⊢
        have sm := sm.trans s_m4
        have g_m2 := s_m4 _ _ g_m2
        clear s_m4 h_m4
        have dp3 : ∀ G, DpAll K G [V.str "alphabet", V.str "alphabet", V.str "alphabet"] [.str "alphabet", .str "alphabet", .str "alphabet"] := fun G => .cons (.str _) (.cons (.str _) (.cons (.str _) .nil))
        refine ⟨.list [.str "alphabet", .str "alphabet", .str "alphabet"], .list [.str "alphabet", .str "alphabet", .str "alphabet"], .lst (SqL.of g_m2) (dp3 _), .lst (SqL.of g_m4) (dp3 _), by decide +kernel, by decide +kernel, ?_⟩
        rw [show PyData.eqv (.list [.str "alphabet", .str "alphabet", .str "alphabet"]) (.list [.str "alphabet", .str "alphabet", .str "alphabet"]) = true by decide +kernel]
        exact ⟨_, rfl, iteF ⟨_, _, rfl, sm⟩⟩
      rintro σ V1 ⟨y11', y12', rfl, sm⟩
      exact ⟨_, _, _, _, _, _, _, _, _, _, _, rfl, (T5.same sm).mono (by omega)⟩
    · rintro σ H' ⟨y2, y3, y4, y5, y6, y7, y8, y9, y10, y11, y12, rfl, _⟩
      exact k _
end
end DW
set_option maxHeartbeats 0
namespace DW
open PySem PySem.Spec PyProof.Rows L2
theorem df {K : PySem.W.Frag} {h : Heap} {mg : Str → Option Value} {x : Str} {st : Stmt} {ps : List Str} (X : K.In h) (G : h.Ns mainGlobals mg) (hf : ∃ fd, FunD K x x (defArgs st) (defBody st) (defScope st) [] [] (He.fAd K (x, none)) fd) (hg : (He.Fa.glo x).ok K = true)
    (b : ∀ (kV doc pm : Value) (an : Option Addr) (cdv ct : Value) (us : List Value), us.length = ps.length → bindArgs (PySem.W.fnOf x x (defArgs st) (defBody st) (defScope st) .none kV doc pm an cdv ct) ⟨us, []⟩ = pure (ps.zip us)) :
    ∃ D : Df K mg x st ps, D.f = He.fAd K (x, none) := by
  obtain ⟨fd, F⟩ := hf
  exact ⟨⟨He.fAd K (x, none), fd, F, He.glo_ok X G hg, F.bindsN b⟩, rfl⟩
theorem facts {w : World} {K : PySem.W.Frag} {h : Heap} {mg : Str → Option Value} {f : Addr} (X : K.In h) (G : h.Ns mainGlobals mg) (hfa : mg ("law" : Str) = some (.ref f)) (cx : EX.SaysX R.prog fa fn xs K) :
    ∃ fd : FuncData, (∀ (s : Shared) (v : Value), BindsTo s fd ⟨[v], []⟩ [("_law_script", v)]) ∧ ∀ base : Heap, K.In base → base.Ns mainGlobals mg → FnOk R.prog w K mg base CX0 6 f fd ["_law_script"] (spLaw K) := by
  have c := cx.d
  have e := hfa.symm.trans (He.glo_ok X G (c.fact 0 (f := .glo "law") rfl))
  cases e
  obtain ⟨D0, e0⟩ := df (st := sLaw) (ps := ["_law_script"]) X G (c.def_ 0 (d := mkD "law" sLaw) rfl) (c.fact 0 (f := .glo "law") rfl) fun _ _ _ _ _ _ us hl => match us, hl with | [_], _ => rfl
  obtain ⟨D1, e1⟩ := df (st := sIsAscending) (ps := ["letters"]) X G (c.def_ 1 (d := mkD "is_ascending" sIsAscending) rfl) (c.fact 1 (f := .glo "is_ascending") rfl) fun _ _ _ _ _ _ us hl => match us, hl with | [_], _ => rfl
  obtain ⟨D2, e2⟩ := df (st := sIsAlphabet) (ps := ["thing"]) X G (c.def_ 2 (d := mkD "is_alphabet" sIsAlphabet) rfl) (c.fact 2 (f := .glo "is_alphabet") rfl) fun _ _ _ _ _ _ us hl => match us, hl with | [_], _ => rfl
  obtain ⟨D3, e3⟩ := df (st := sIsSymbol) (ps := ["item"]) X G (c.def_ 3 (d := mkD "is_symbol" sIsSymbol) rfl) (c.fact 3 (f := .glo "is_symbol") rfl) fun _ _ _ _ _ _ us hl => match us, hl with | [_], _ => rfl
  obtain ⟨D4, e4⟩ := df (st := sSymbolsAmong) (ps := ["items"]) X G (c.def_ 4 (d := mkD "symbols_among" sSymbolsAmong) rfl) (c.fact 4 (f := .glo "symbols_among") rfl) fun _ _ _ _ _ _ us hl => match us, hl with | [_], _ => rfl
  obtain ⟨D5, e5⟩ := df (st := sIsProduction) (ps := ["alphabet", "thing"]) X G (c.def_ 5 (d := mkD "is_production" sIsProduction) rfl) (c.fact 5 (f := .glo "is_production") rfl) fun _ _ _ _ _ _ us hl => match us, hl with | [_, _], _ => rfl
  obtain ⟨D6, e6⟩ := df (st := sBegin) (ps := ["_law_script"]) X G (c.def_ 6 (d := mkD "_law_begin" sBegin) rfl) (c.fact 6 (f := .glo "_law_begin") rfl) fun _ _ _ _ _ _ us hl => match us, hl with | [_], _ => rfl
  obtain ⟨D7, e7⟩ := df (st := sDraw) (ps := ["_law_tape", "_law_many"]) X G (c.def_ 7 (d := mkD "_law_draw" sDraw) rfl) (c.fact 7 (f := .glo "_law_draw") rfl) fun _ _ _ _ _ _ us hl => match us, hl with | [_, _], _ => rfl
  obtain ⟨D8, e8⟩ := df (st := sPick) (ps := ["_law_tape", "_law_items_here"]) X G (c.def_ 8 (d := mkD "_law_pick" sPick) rfl) (c.fact 8 (f := .glo "_law_pick") rfl) fun _ _ _ _ _ _ us hl => match us, hl with | [_, _], _ => rfl
  obtain ⟨D9, e9⟩ := df (st := sAlpha) (ps := ["_law_tape"]) X G (c.def_ 9 (d := mkD "_law_alphabet" sAlpha) rfl) (c.fact 9 (f := .glo "_law_alphabet") rfl) fun _ _ _ _ _ _ us hl => match us, hl with | [_], _ => rfl
  obtain ⟨D10, e10⟩ := df (st := sLItems) (ps := ["_law_tape", "_law_alphabet_here", "_law_names", "_law_most"]) X G (c.def_ 10 (d := mkD "_law_items" sLItems) rfl) (c.fact 10 (f := .glo "_law_items") rfl) fun _ _ _ _ _ _ us hl => match us, hl with | [_, _, _, _], _ => rfl
  obtain ⟨D11, e11⟩ := df (st := sLBad) (ps := ["_law_tape", "_law_alphabet_here"]) X G (c.def_ 11 (d := mkD "_law_bad" sLBad) rfl) (c.fact 11 (f := .glo "_law_bad") rfl) fun _ _ _ _ _ _ us hl => match us, hl with | [_, _], _ => rfl
  obtain ⟨D12, e12⟩ := df (st := sLGood) (ps := ["_law_tape", "_law_alphabet_here", "_law_many"]) X G (c.def_ 12 (d := mkD "_law_good" sLGood) rfl) (c.fact 12 (f := .glo "_law_good") rfl) fun _ _ _ _ _ _ us hl => match us, hl with | [_, _, _], _ => rfl
  obtain ⟨D13, e13⟩ := df (st := sLTold) (ps := ["_law_alphabet_here", "_law_productions"]) X G (c.def_ 13 (d := mkD "_law_told" sLTold) rfl) (c.fact 13 (f := .glo "_law_told") rfl) fun _ _ _ _ _ _ us hl => match us, hl with | [_, _], _ => rfl
  obtain ⟨fdgi, Fgi⟩ := c.def_ 14 (d := ⟨("Grammar", some "__init__"), "__init__", "Grammar.__init__", defArgs sGrInit, defBody sGrInit, defScope sGrInit, [], []⟩) rfl
  let Gr0 : DfG K mg := ⟨He.ga K "Grammar", He.glo_ok X G (c.fact 29 (f := .glo "Grammar") rfl), He.cls_ok (c.fact 30 (f := .cls "Grammar") rfl), He.noat_ok (c.fact 31 (f := .noat "Grammar" "base") rfl), He.noat_ok (c.fact 32 (f := .noat "Grammar" "rules") rfl), He.noat_ok (c.fact 33 (f := .noat "Grammar" "occurring") rfl),
    ⟨_, fdgi, Fgi, Fgi.bindsN fun _ _ _ _ _ _ us hl => match us, hl with | [_, _, _], _ => rfl⟩, He.mkr_ok (c.fact 34 (f := .mkr "Grammar") rfl)⟩
  let Gr : DfG K mg := Gr0
  obtain ⟨X0, qx0⟩ := cx.ex X G 0 (y := "InvalidAlphabet") rfl
  obtain ⟨X1, qx1⟩ := cx.ex X G 1 (y := "DownwordsError") rfl
  have msup : mg "super" = none := He.free_ok X G (c.fact 35 (f := .free "super") rfl)
  obtain ⟨Y0, qy0⟩ := EX.mkE (ok := EX.MsgOk) X G (cx.ini 0).2 (cx.ini 0).1 (by decide +kernel) (fun F doc pm ctv us h1 h2 h3 h4 h5 hl => by
      obtain ⟨n1, n2, n3, n4, n5, n6, n7⟩ := F
      dsimp only at h1 h2 h3 h4 h5
      subst h1 h2 h3 h4 h5
      match us, hl with
      | [_, _], _ => rfl) (fun F cc oc doc pm ctv od osl w base h1 h2 h3 Sp lk no => by
      obtain ⟨n1, n2, n3, n4, n5, n6, n7⟩ := F
      dsimp only at h1 h2 h3
      subst h1 h2 h3
      exact EX.init_f Sp lk msup (NdefX.nscope_by (show NdefX.nscB _ _ _ (defScope (clsS 3 0)) = true by decide +kernel)) no rfl (by decide +kernel) rfl rfl rfl (by decide) (by decide) (fun L => rfl))
  have kk0 : PySem.W.kitOne K (.ref X0.C) (.ref X1.C) = some true := by rw [qx0, qx1]; exact cx.kit 0
  have kk1 : PySem.W.kitOne K (.ref Y0.C) (.ref X1.C) = some true := by rw [qy0, qx1]; exact cx.kit 1
  have kk2 : PySem.W.kitOne K (.ref X0.C) (.ref X0.C) = some true := by rw [qx0]; exact cx.kit 2
  have kk3 : PySem.W.kitOne K (.ref Y0.C) (.ref X0.C) = some false := by rw [qy0, qx0]; exact cx.kit 3
  have km0 : PySem.W.exmOne K (.ref X0.C) (.ref X0.C) = some true := by rw [qx0]; exact cx.exm 0
  have km1 : PySem.W.exmOne K (.ref X0.C) (.ref Y0.C) = some false := by rw [qx0, qy0]; exact cx.exm 1
  have km2 : PySem.W.exmOne K (.ref Y0.C) (.ref X0.C) = some false := by rw [qy0, qx0]; exact cx.exm 2
  have km3 : PySem.W.exmOne K (.ref Y0.C) (.ref Y0.C) = some true := by rw [qy0]; exact cx.exm 3
  have b := FunD.bindsA (ps := ["_law_script"]) D0.F fun _ _ _ _ _ _ us hl => match us, hl with | [_], _ => rfl
  refine ⟨D0.fd, fun s v => b s [v] rfl, fun base _ _ => ?_⟩
  have q := ok_law (P := R.prog) (w := w) (base := base) D0 ⟨D1, D2, D3, D4, D5, D6, D7, D8, D9, D10, D11, D12, D13, ⟨He.free_ok X G (c.fact 18 (f := .free "len") rfl), He.free_ok X G (c.fact 21 (f := .free "range") rfl), He.free_ok X G (c.fact 19 (f := .free "sorted") rfl), He.free_ok X G (c.fact 22 (f := .free "set") rfl)⟩, He.free_ok X G (c.fact 14 (f := .free "all") rfl), He.free_ok X G (c.fact 15 (f := .free "zip") rfl), He.free_ok X G (c.fact 16 (f := .free "isinstance") rfl), He.free_ok X G (c.fact 17 (f := .free "str") rfl), He.free_ok X G (c.fact 20 (f := .free "tuple") rfl), He.free_ok X G (c.fact 23 (f := .free "list") rfl), He.free_ok X G (c.fact 24 (f := .free "enumerate") rfl), He.int_ok X G (c.fact 25 (f := .int "MOST_LETTERS" 3) rfl), He.int_ok X G (c.fact 26 (f := .int "MOST_ITEMS" 3) rfl), He.int_ok X G (c.fact 27 (f := .int "MOST_PRODUCTIONS" 16) rfl), He.int_ok X G (c.fact 28 (f := .int "MOST_SYMBOLS" 6) rfl), Gr, (cx.own 0), (cx.ktn 0), (cx.ktn 1), X0, X1, Y0, kk0, kk1, kk2, kk3, km0, km1, km2, km3⟩
  rw [e0] at q
  exact q
end DW
open PySem PySem.W PySem.Calls PyProof.Rows
theorem PySem.Challenge.cw_downwords_k62_invalid_grammars_holds : PySem.Challenge.rw_downwords_k62_invalid_grammars.Holds := by
  w_on; o_law
  refine HandSHeadRun.head_any (r := OpenLaw.row PySem.Challenge.rw_downwords_k62_invalid_grammars) (q := view (OpenLaw.row PySem.Challenge.rw_downwords_k62_invalid_grammars).prog [25]) (H := DW.hk) (ob := DW.ob) (M := 4000) (loose := DW.names) (d := HandSHeadRun.topDef (OpenLaw.row PySem.Challenge.rw_downwords_k62_invalid_grammars).prog 25) (kwd := []) DW.ob_eq
    (by kernel_rfl) (fun s => by kernel_rfl) DW.run (by kernel_rfl) (by kernel_rfl) (by kernel_rfl) (by rfl) (by first | assumption | decide +kernel) (by decide +kernel) ⟨rfl, rfl, rfl, rfl, rfl, by decide +kernel⟩ ?hw ?hc
  case hw => w_witness2
  case hc =>
    refine L2.walk_ofE (l := PySem.Challenge.rw_downwords_k62_invalid_grammars) (n := 63) (k := 6) (x := "_law_script") (CX := L2.CX0) rfl (by decide) (by kernel_rfl) ⟨rfl, by decide, by decide⟩ ?F (fun _ _ _ _ z => z)
    intro w mg fa h Y G hmg0
    obtain ⟨K, KX, c⟩ := Y
    have hmg : mg ("law" : PySem.Str) = some (.ref fa) := by
      have e : (HandSHeadRun.topDef (OpenLaw.row PySem.Challenge.rw_downwords_k62_invalid_grammars).prog 25).name = ("law" : PySem.Str) := by kernel_rfl
      rw [← e]
      exact hmg0
    obtain ⟨fd, hb, hF⟩ := DW.facts (w := w) KX G hmg c
    exact ⟨K, fd, DW.spLaw K, KX, hb, fun H a ns hl _ hS => ⟨a, ns, rfl, hS, fun _ => rfl⟩, hF⟩
