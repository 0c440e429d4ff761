import PyProof.Rows.All
import Wide.All
import OpenK.AllK
import Wide.FinOn
import HandS.List
import HandS.SetTxt0
import HandS.SetFor
import HandS.Strs
import PyProof.CollectStr
import HandS.Deep
import HandS.Text
import PyProof.ListStr
import KE.KRevSl
import HandS.Iter
import HandS.Walk
import KE.GoesMore
import KE.GoesEnum
import KE.GoesZip
import KE.KeyNested
import KE.KDictKeyed
import PyProof.DictMoreH
import PyProof.DictRoadsH
import HandS.ForMost
import HandS.SetKeys
import HandS.SortKw
import HandS.RaiseMore
import KE.SortKeyHeap
import KE.KDictCopyH
import KE.KDictSum
import KE.SortData
import HandS.More
import HandS.DictComp
import PyProof.DictFindH
import HandS.TupSets
import HandS.SetBool
import KE.LtSeq
import PyProof.FString2
import KE.KExcSuper
import HandS.Nested
import HandS.Exc
import HandS.ExcOwn
import HandS.ExcInit
import KE.KExcIs
import HandS.FStr
import HandS.ExcField
import HandS.HeadHook1
import HandS.HeadHook2
import HandS.ExcIs
import HandS.TryMany
import KE.KTryMore
import HandS.Defaults
import HandS.HeadEnd
import HandS.Dict
import HandS.Flow
import HandS.Small
import HandS.Codes
import HandS.WordsExc
import HandS.Style
import HandS.Conv
import HandS.IsInst
import HandS.ListItems
import KE.KStateDown
import Lean
import HandS.Head0
import HandS.Head1
import HandS.Head2
import PySem.Challenge.RW_downwords_k69_ranks_of_symbols
set_option Elab.async false
set_option linter.all false
set_option maxRecDepth 100000
set_option maxHeartbeats 2000000
/-! Sets of texts: set(list of texts), set(text), sorted(set). -/
namespace TX
open PySem PySem.Spec PyProof.Rows L2 PySem.Froz

/-! ### lists -/
theorem perm_of_sub {α : Type} [DecidableEq α] : ∀ (l ks : List α), l.Nodup → (∀ x ∈ l, x ∈ ks) → ks.length ≤ l.length → ks.Perm l
  | [], ks, _, _, hl => by
    have e : ks = [] := List.length_eq_zero_iff.mp (Nat.le_zero.mp hl)
    rw [e]
  | x :: l, ks, nd, sub, hl => by
    obtain ⟨hx, nd'⟩ := List.nodup_cons.mp nd
    have hk : x ∈ ks := sub x List.mem_cons_self
    have p1 : ks.Perm (x :: ks.erase x) := List.perm_cons_erase hk
    have l1 : (ks.erase x).length = ks.length - 1 := List.length_erase_of_mem hk
    have sub' : ∀ y ∈ l, y ∈ ks.erase x := fun y hy => by
      have ne : y ≠ x := fun e => hx (e ▸ hy)
      exact (List.mem_erase_of_ne ne).mpr (sub y (List.mem_cons_of_mem _ hy))
    have p2 := perm_of_sub l (ks.erase x) nd' sub' (by rw [l1]; rw [List.length_cons] at hl; omega)
    exact p1.trans (p2.cons x)

/-! ### the set's state -/
structure Ok (P : Program) (w : World) (D : SD) (l : List Str) : Prop where
  tx : TxOk P w D l
  up : Ris D.2.2.place.toList
  led : w.params.followText "set-order" = true ∨ D.2.2.led = true
  nd : l.Nodup
def At (P : Program) (w : World) (h : Heap) (a : Addr) (l : List Str) : Prop := ∃ D : SD, h.get? a = some (sObj "set" D) ∧ Ok P w D l

section
variable {P : Program} {w : World} {A : Around} {E : Value → Shared → Prop} {s : Shared}
theorem At.move {h h' : Heap} {a : Addr} {l : List Str} (x : At P w h a l) (k : ∀ o, h.get? a = some o → h'.get? a = some o) : At P w h' a l := by
  obtain ⟨D, hD, o⟩ := x
  exact ⟨D, k _ hD, o⟩
theorem tail_up {ep : Nat} {es : Array (Int × Value)} {t : SetTable} {b : Bool} (r : Ris t.place.toList) : Ris (tailTx ep es t b).2.2.place.toList := by
  unfold tailTx
  by_cases c : (!b && t.tooFull) = true
  · rw [if_pos c]
    exact relayAll_ris _ _ _
  · rw [if_neg c]
    exact r
theorem tail_led {ep : Nat} {es : Array (Int × Value)} {t : SetTable} {b : Bool} : (tailTx ep es t b).2.2.led = t.led := by
  unfold tailTx
  by_cases c : (!b && t.tooFull) = true
  · rw [if_pos c]
    exact relayAll_led _ _ _
  · rw [if_neg c]
def dull (t : SetTable) : SetTable := if t.plain = true then { t with plain := false } else t
theorem dull_place (t : SetTable) : (dull t).place = t.place := by
  unfold dull
  by_cases c : t.plain = true
  · rw [if_pos c]
  · rw [if_neg c]
theorem dull_led (t : SetTable) : (dull t).led = t.led := by
  unfold dull
  by_cases c : t.plain = true
  · rw [if_pos c]
  · rw [if_neg c]
theorem Ok.add {D : SD} {l : List Str} {k : Str} (u : Tok) (o : Ok P w D l) (hk : k ∉ l) : Ok P w (addTx (hashStr w k) (.str k u) D) (k :: l) := by
  obtain ⟨es, ep, t⟩ := D
  have r1 : Ris (layNew t es (hashStr w k) (.str k u)).2.1.place.toList := layNew_ris t es _ _ o.up
  have l1 : (layNew t es (hashStr w k) (.str k u)).2.1.led = t.led := layNew_led t es _ _
  have e : addTx (hashStr w k) (.str k u) (es, ep, t) = tailTx ep (layNew t es (hashStr w k) (.str k u)).1 (dull (layNew t es (hashStr w k) (.str k u)).2.1) (layNew t es (hashStr w k) (.str k u)).2.2.1 := rfl
  refine ⟨add_ok u o.tx, ?_, ?_, List.nodup_cons.mpr ⟨hk, o.nd⟩⟩
  · rw [e]
    exact tail_up (by rw [dull_place]; exact r1)
  · refine o.led.imp id fun z => ?_
    rw [e, tail_led, dull_led, l1]
    exact z
theorem add_old {a : Addr} {T : String} {D : SD} {l : List Str} {k : Str} {u : Tok} {Q : Bool → Shared → Prop} (ho : s.heap.get? a = some (sObj T D)) (o : TxOk P w D l) (hk : k ∈ l) (hb : l.length < scanBound) (h : Q false s) :
    wpAny (model P w) A (setAddHashed a (.str k u) (hashStr w k)) Q E s := by
  obtain ⟨es, ep, t⟩ := D
  have dd : (sObj T (es, ep, t)).data = .set es ep t := rfl
  have ft : t.fits es.size = true := o.fit
  have el : ElemsOf (strKind P w) es.toList := o.el
  have z : es.size = l.length := o.sz
  have b0 : es.size < scanBound := by omega
  have ky : (strKind P w).is k (.str k u) = true := is_str k u
  obtain ⟨e0, he0, q0⟩ := (o.mem k).mp hk
  unfold setAddHashed setAddHashedIn
  refine wpAny_holding (wpAny_bind (wpAny_setState_of ho dd ft ?_))
  dsimp only
  rw [byScan_of rfl b0 el]
  simp only [↓reduceIte]
  unfold setAddByScan
  refine wpAny_bind (wpAny_bind (wpAny_rule (wpAny_bind (wpAny_setScan_of (knd := strKind P w) (k := k) ky ho dd ft el ?_))))
  cases fi : List.findIdx? (fun e => (strKind P w).is k e.2) es.toList with
  | some j =>
    dsimp only
    exact wpAny_pure (wpAny_pure h)
  | none =>
    have c := List.findIdx?_eq_none_iff.mp fi e0 he0
    rw [q0] at c
    cases c

/-! ### the loop that fills it -/
theorem fill {I : Addr} {fp wr : List Addr} {G : Array GenState → Array GenState → Prop} {n : Nat} {Pv : Nat → Value → Prop} {St : Nat → Shared → Prop} {R : Result → Shared → Prop}
    (W : WalksS P w A.in1 I fp wr G n Pv St) (a : Addr) (ha : a ∉ fp) (xs : List Str) (hn : n = xs.length) (hb : xs.length + 1 < scanBound) (hv : ∀ i v, Pv i v → ∃ k t, xs[i]? = some k ∧ v = .str k t) :
    ∀ (m i : Nat) (s : Shared), n - i = m → i ≤ n → St i s → (∃ l, At P w s.heap a l ∧ l.length ≤ i ∧ ∀ k, k ∈ l ↔ k ∈ xs.take i) →
      (∀ s' l, Moved (a :: wr) G s s' → At P w s'.heap a l → (∀ k, k ∈ l ↔ k ∈ xs) → l.length ≤ n → R (.ok (.ret .none)) s') →
      codeAny (model P w) A (.builtin "set.update.loop" ⟨[.ref a, .ref I], []⟩) R s := by
  have aw : a ∉ wr := fun q => ha (W.sub _ q)
  have ww : ∀ b ∈ wr, b ∈ a :: wr := fun b q => List.mem_cons_of_mem _ q
  intro m
  induction m with
  | zero =>
    intro i s em hi st ⟨l, hA, hl, mem⟩ hR
    obtain rfl : i = n := by omega
    refine codeAny_builtin F.entry_set_update_loop ?_
    rw [Around.under_plainId F.plain_set_update_loop _]
    show wpAny _ A.in1 (pyNext (.ref I) >>= _) _ _ s
    refine wpAny_bind (W.done s _ _ st fun s' mv => ?_)
    show wpAny _ A.in1 (ret Value.none) _ _ s'
    have et : xs.take i = xs := List.take_of_length_le (by omega)
    rw [et] at mem
    exact wpAny_pure (hR s' l (mv.mono ww) (hA.move fun o e => mv.heap a o aw e) mem hl)
  | succ m ih =>
    intro i s em hi st ⟨l, hA, hl, mem⟩ hR
    have lt : i < n := by omega
    refine codeAny_builtin F.entry_set_update_loop ?_
    rw [Around.under_plainId F.plain_set_update_loop _]
    show wpAny _ A.in1 (pyNext (.ref I) >>= _) _ _ s
    refine wpAny_bind (W.item i s _ _ lt st fun v s1 hP st1 mv => ?_)
    obtain ⟨k, t, hk, rfl⟩ := hv i v hP
    obtain ⟨D, hD, oD⟩ := hA.move (h' := s1.heap) fun o e => mv.heap a o aw e
    show wpAny _ A.in1 (holding [Value.str k t] (setAdd a (.str k t)) >>= _) _ _ s1
    refine wpAny_bind (wpAny_holding ?_)
    unfold setAdd
    refine wpAny_holding (wpAny_bind ((strKind P w).pyHash (k := k) (is_str k t) ?_))
    have tk : xs.take (i + 1) = xs.take i ++ [k] := by rw [List.take_add_one, hk] <;> rfl
    by_cases kl : k ∈ l
    · refine add_old (s := { s1 with toks := s1.toks + 1 }) hD oD.tx kl (by omega) ?_
      refine wpAny_pure ⟨plainId_quiet F.plain_set_update_loop _, ih (i + 1) _ (by omega) lt (W.frame _ s1 _ _ st1 (Nat.le_succ _) fun b _ o e => e) ⟨l, ⟨D, hD, oD⟩, by omega, fun j => ?_⟩ fun s2 l2 mv2 hA2 mem2 hl2 => ?_⟩
      · rw [tk, List.mem_append, List.mem_singleton, ← mem j]
        exact ⟨.inl, fun q => q.elim id fun e => e ▸ kl⟩
      · exact hR s2 l2 (Moved.trans W.gtrans ((mv.mono ww).then_heap (Nat.le_succ _) fun b o _ e => e) mv2) hA2 mem2 hl2
    · refine add_x (s := { s1 with toks := s1.toks + 1 }) hD oD.tx kl (by omega) ?_
      have hg : (s1.heap.update a (fun _ => sObj "set" (addTx (hashStr w k) (.str k t) D))).get? a = some (sObj "set" (addTx (hashStr w k) (.str k t) D)) := get_upd _ hD rfl
      have ot : ∀ b o, b ≠ a → s1.heap.get? b = some o → (s1.heap.update a (fun _ => sObj "set" (addTx (hashStr w k) (.str k t) D))).get? b = some o :=
        fun b o ne e => (Heap.get?_update_other _ _ (Ne.symm ne)).trans e
      refine wpAny_pure ⟨plainId_quiet F.plain_set_update_loop _, ih (i + 1) _ (by omega) lt (W.frame _ s1 _ _ st1 (Nat.le_succ _) fun b q o e => ?_) ⟨k :: l, ⟨_, hg, oD.add t kl⟩, by rw [List.length_cons]; omega, fun j => ?_⟩ fun s2 l2 mv2 hA2 mem2 hl2 => ?_⟩
      · exact ot b o (fun z => ha (z ▸ q)) e
      · rw [tk, List.mem_append, List.mem_singleton, ← mem j, List.mem_cons]
        exact Or.comm
      · refine hR s2 l2 (Moved.trans W.gtrans ((mv.mono ww).then_heap (Nat.le_succ _) fun b o q e => ?_) mv2) hA2 mem2 hl2
        exact ot b o (fun z => q (z ▸ List.mem_cons_self)) e
end

/-! ### set(v) -/
abbrev fresh (w : World) : Obj := { cls := .type "set", dict := none, data := .set #[] 0 (.fresh 0 0 (!w.params.followText "set-order")) }
theorem fresh_ok {P : Program} {w : World} : Ok P w (#[], 0, .fresh 0 0 (!w.params.followText "set-order")) [] where
  tx := TxOk.nil (by rfl)
  up := List.Pairwise.nil
  led := by
    show _ ∨ (!w.params.followText "set-order") = true
    cases w.params.followText "set-order"
    · exact .inr rfl
    · exact .inl rfl
  nd := List.nodup_nil
theorem at_fresh {P : Program} {w : World} {h : Heap} {a : Addr} (e : h.get? a = some (fresh w)) : At P w h a [] := ⟨(#[], 0, .fresh 0 0 (!w.params.followText "set-order")), e, fresh_ok⟩

section
variable {P : Program} {w : World} {A : Around} {E : Value → Shared → Prop} {s : Shared}
/-- what set(v) leaves: a new object, all else as it was -/
def Left (P : Program) (w : World) (s : Shared) (xs : List Str) (s' : Shared) : Prop :=
  ∃ h' tk l, s' = { s with heap := h', toks := tk } ∧ At P w h' s.heap.objs.size l ∧ (∀ k, k ∈ l ↔ k ∈ xs) ∧ l.length ≤ xs.length ∧ ∀ b o, s.heap.get? b = some o → h'.get? b = some o
set_option maxHeartbeats 4000000 in
theorem call_set_of {v : Value} {xs : List Str} {Q : Value → Shared → Prop}
    (hI : ∀ A' : Around, A'.handled = A.handled → wpAny (model P w) A' (Builtin.«set.__init__» ⟨[.ref s.heap.objs.size, v], []⟩) (fun f s2 => f = .done (.ret .none) ∧ Left P w s xs s2) E { s with heap := s.heap.push (fresh w) })
    (h : ∀ s', Left P w s xs s' → Q (.ref s.heap.objs.size) s') :
    wpAny (model P w) A (call (.type "set") [v]) Q E s := by
  obtain ⟨c, tl, hmro⟩ := F.called_set.mro
  have hmade := F.called_set.made
  have hsub := F.called_set.sub
  refine wpAny_call (codeAny_of_tree ?_)
  show wpAny _ _ (callAny (.type "set") _) _ _ _
  refine wpAny_pure ⟨Code.quiet_builtin _ (by decide +kernel), codeAny_builtin F.entry_type_call ?_⟩
  rw [Around.under_plain (weight_type_call_type "set" [v] []) rfl]
  have h1 := F.called_set.notType
  have h2 := F.called_set.canCreate
  have hct := F.typeCall_set_1 v
  repeat (any_goals (first | assumption | wp_step))
  refine codeAny_mono (code_set_led1 v (E := E) (Q₁ := fun obj s₁ => obj = .ref s.heap.objs.size ∧ s₁ = { s with heap := s.heap.push (fresh w) }) ⟨rfl, rfl⟩) fun r s₁ hr => ?_
  cases r with
  | error e => exact hr
  | ok fl =>
    cases fl with
    | ret obj =>
      obtain ⟨rfl, rfl⟩ := hr
      have hS : (s.heap.push (fresh w)).get? s.heap.objs.size = some (fresh w) := Heap.get?_push_size _ rfl
      have hT : Shared.TypeIs { s with heap := s.heap.push (fresh w) } (.ref s.heap.objs.size) "set" := ⟨_, hS, rfl⟩
      have hli := F.called_set.init.lookup
      have hbi := F.called_set.init.bind (.ref s.heap.objs.size)
      repeat (any_goals (first | assumption | wp_step))
      refine codeAny_mono (codeAny_call_builtin (R := wants (fun r s₂ => r = .none ∧ Left P w s xs s₂) E) F.called_set.init.plain F.entry_set_init (check_set_init_1 hT ?_)) fun r₂ s₂ hr₂ => ?_
      · refine wpAny_mono (hI A.in1.in1 (by simp)) (fun f s2 q => ?_) fun e s2 q => q
        obtain ⟨rfl, q⟩ := q
        exact ⟨rfl, q⟩
      · cases r₂ with
        | error e => exact hr₂
        | ok fl₂ =>
          cases fl₂ with
          | ret r =>
            obtain ⟨rfl, hL⟩ := hr₂
            repeat (any_goals (first | assumption | wp_step))
            exact h _ hL
          | _ => exact hr₂.elim
    | _ => exact hr.elim
theorem left_of {a : Addr} {wr : List Addr} {xs l : List Str} {s s1 s' : Shared} (ea : a = s.heap.objs.size) (hw : ∀ b ∈ wr, s.heap.objs.size ≤ b) (k1 : ∀ b o, s.heap.get? b = some o → s1.heap.get? b = some o)
    (eg : s1.gens = s.gens) (ed : s1.drawn = s.drawn) (eo : s1.os = s.os) (mv : Moved (a :: wr) (fun x y => y = x) s1 s') (hA : At P w s'.heap a l) (mem : ∀ k, k ∈ l ↔ k ∈ xs) (hl : l.length ≤ xs.length) : Left P w s xs s' := by
  obtain ⟨h', g', d', tk', os'⟩ := s'
  have e1 : g' = s.gens := mv.gens.trans eg
  have e2 : d' = s.drawn := mv.drawn.trans ed
  have e3 : os' = s.os := mv.os.trans eo
  subst e1 e2 e3 ea
  refine ⟨h', tk', l, rfl, hA, mem, hl, fun b o e => ?_⟩
  have lt : b < s.heap.objs.size := Heap.lt_size e
  refine mv.heap b o (fun z => ?_) (k1 b o e)
  rcases List.mem_cons.mp z with z | z
  · exact absurd z (Nat.ne_of_lt lt)
  · exact absurd (hw b z) (Nat.not_le_of_lt lt)
set_option maxHeartbeats 4000000 in
theorem init_list {l : Addr} {items : Array Value} {xs : List Str} (hh : A.handled = none) (hl : s.heap.IsList l items) (hi : StrsAre items.toList xs) (hb : xs.length + 1 < scanBound) :
    wpAny (model P w) A (Builtin.«set.__init__» ⟨[.ref s.heap.objs.size, .ref l], []⟩) (fun f s2 => f = .done (.ret .none) ∧ Left P w s xs s2) E { s with heap := s.heap.push (fresh w) } := by
  have hsz : xs.length = items.size := by rw [← StrsAre.len_eq hi, Array.length_toList]
  have hv : ∀ (i : Nat) (v : Value), items[i]? = some v → ∃ k t, xs[i]? = some k ∧ v = .str k t := fun i v q => by
    have hi' : i < xs.length := by rw [hsz]; exact (Array.getElem?_eq_some_iff.mp q).1
    obtain ⟨t, e⟩ := SS.strs_at hi i v (by rw [Array.getElem?_toList]; exact q)
    refine ⟨xs[i], t, List.getElem?_eq_getElem hi', ?_⟩
    rw [e, List.getD_eq_getElem?_getD, List.getElem?_eq_getElem hi'] <;> rfl
  have hS : (s.heap.push (fresh w)).get? s.heap.objs.size = some (fresh w) := Heap.get?_push_size _ rfl
  have hT : Shared.TypeIs { s with heap := s.heap.push (fresh w) } (.ref s.heap.objs.size) "set" := ⟨_, hS, rfl⟩
  obtain ⟨ol, hol, hcl, nl, hdl⟩ := id hl
  obtain ⟨ocls, odict, odata, oslots⟩ := ol
  simp only at hcl hdl
  subst hcl; subst hdl
  have hol1 : (s.heap.push (fresh w)).get? l = some { cls := .type "list", dict := odict, data := .seq items nl, slots := oslots } := Heap.get?_push_of_some _ hol
  have f1 := F.sub_list_set
  have f2 := F.sub_list_frozenset
  have f3 : (Value.type "list" == Value.type "dict") = false := by decide
  have hl1 : (s.heap.push (fresh w)).IsList l items := ⟨_, hol1, rfl, nl, rfl⟩
  have lS : l < s.heap.objs.size := Heap.lt_size hol
  have nI : l ≠ (s.heap.push (fresh w)).objs.size := by
    rw [Heap.size_push]
    exact Nat.ne_of_lt (Nat.lt_succ_of_lt lS)
  have nS : s.heap.objs.size ∉ [(s.heap.push (fresh w)).objs.size, l] := by
    rw [Heap.size_push]
    intro q
    rcases List.mem_cons.mp q with q | q
    · exact absurd q (Nat.ne_of_lt (Nat.lt_succ_self _))
    · exact absurd (List.mem_singleton.mp q) (Nat.ne_of_gt lS)
  have z1 : (s.heap.push (fresh w)).objs.size = s.heap.objs.size + 1 := Heap.size_push ..
  unfold Builtin.«set.__init__» noKeywords Builtin.Frozenset.updateFrom
  generalize ePI : pyIter = PI
  wp_walk
  subst ePI
  refine wpAny_pyIter_list hl1 ?_
  refine wpAny_bind (wpAny_runValue ?_)
  refine fill ((Walks.list (by simp [hh]) _ l nI items).toS) s.heap.objs.size nS xs hsz.symm hb hv (items.size - 0) 0 _ rfl (Nat.zero_le _)
    ⟨⟨_, Heap.get?_push_size _ rfl, rfl, rfl⟩, hl1.push _⟩ ⟨[], at_fresh (Heap.get?_push_of_some _ hS), Nat.le_refl _, fun k => by simp⟩ fun s' m mv hA mem hm => ?_
  show wpAny _ _ _ _ _ _
  refine wpAny_pure ?_
  show wpAny _ _ (ret Value.none) _ _ _
  refine wpAny_pure ⟨rfl, left_of (wr := [_]) rfl ?_ ?k1 ?e1 ?e2 ?e3 mv hA mem (by omega)⟩
  case k1 => exact fun b o e => Heap.get?_push_of_some _ (Heap.get?_push_of_some _ e)
  case e1 => rfl
  case e2 => rfl
  case e3 => rfl
  intro b q
  rw [List.mem_singleton.mp q]
  show _ ≤ (s.heap.push (fresh w)).objs.size
  rw [z1]
  exact Nat.le_succ _
set_option maxHeartbeats 4000000 in
theorem init_text {x : Str} {t : Tok} (hh : A.handled = none) (hb : x.length + 1 < scanBound) :
    wpAny (model P w) A (Builtin.«set.__init__» ⟨[.ref s.heap.objs.size, .str x t], []⟩) (fun f s2 => f = .done (.ret .none) ∧ Left P w s (x.cps.toList.map fun c => (⟨#[c]⟩ : Str)) s2) E { s with heap := s.heap.push (fresh w) } := by
  have hsz : (x.cps.toList.map fun c => (⟨#[c]⟩ : Str)).length = x.cps.size := by rw [List.length_map, Array.length_toList]
  have hx : x.length = x.cps.size := rfl
  have hv : ∀ (i : Nat) (v : Value), SignAt x i v → ∃ k t, (x.cps.toList.map fun c => (⟨#[c]⟩ : Str))[i]? = some k ∧ v = .str k t := fun i v ⟨c, u, q, e⟩ => by
    refine ⟨⟨#[c]⟩, u, ?_, e⟩
    rw [List.getElem?_map, Array.getElem?_toList, q] <;> rfl
  have hS : (s.heap.push (fresh w)).get? s.heap.objs.size = some (fresh w) := Heap.get?_push_size _ rfl
  have hT : Shared.TypeIs { s with heap := s.heap.push (fresh w) } (.ref s.heap.objs.size) "set" := ⟨_, hS, rfl⟩
  have hTx : Shared.TypeIs { s with heap := s.heap.push (fresh w) } (.str x t) "str" := typeIs_str _ x t
  have f1 := PySem.F.sub_str_set
  have f2 := PySem.F.sub_str_frozenset
  have f3 : (Value.type "str" == Value.type "dict") = false := by decide
  have z1 : (s.heap.push (fresh w)).objs.size = s.heap.objs.size + 1 := Heap.size_push ..
  unfold Builtin.«set.__init__» noKeywords Builtin.Frozenset.updateFrom
  generalize ePI : pyIter = PI
  wp_walk
  subst ePI
  refine wpAny_pyIter_str fun o St W st => ?_
  refine wpAny_bind (wpAny_runValue ?_)
  refine fill ((W _ (by simp [hh])).toS) s.heap.objs.size (by rw [z1]; simp) _ hsz.symm (by rw [hsz, ← hx]; exact hb) hv (x.cps.size - 0) 0 _ rfl (Nat.zero_le _)
    st ⟨[], at_fresh (Heap.get?_push_of_some _ hS), Nat.le_refl _, fun k => by simp⟩ fun s' m mv hA mem hm => ?_
  show wpAny _ _ _ _ _ _
  refine wpAny_pure ?_
  show wpAny _ _ (ret Value.none) _ _ _
  refine wpAny_pure ⟨rfl, left_of (wr := [_]) rfl ?_ ?k1 ?e1 ?e2 ?e3 mv hA mem (by rw [hsz]; exact hm)⟩
  case k1 => exact fun b o e => Heap.get?_push_of_some _ (Heap.get?_push_of_some _ e)
  case e1 => rfl
  case e2 => rfl
  case e3 => rfl
  intro b q
  rw [List.mem_singleton.mp q]
  show _ ≤ (s.heap.push (fresh w)).objs.size
  rw [z1]
  exact Nat.le_succ _

/-! ### sorted(set) -/
theorem texts_of {es : List (Int × Value)} (el : ElemsOf (strKind P w) es) : ∀ vs : List Value, (∀ v ∈ vs, v ∈ es.map (·.2)) → ∃ ks : List Str, StrsAre vs ks ∧ (∀ k, k ∈ ks ↔ ∃ v ∈ vs, (strKind P w).is k v = true) ∧ ks.length = vs.length
  | [], _ => ⟨[], .nil, fun k => by simp, rfl⟩
  | v :: vs, h => by
    obtain ⟨ks, h1, h2, h3⟩ := texts_of el vs fun u q => h u (List.mem_cons_of_mem _ q)
    obtain ⟨e, he, ev⟩ := List.mem_map.mp (h v List.mem_cons_self)
    obtain ⟨⟨k, hk, _⟩, _⟩ := el e he
    rw [ev] at hk
    obtain ⟨t, rfl⟩ := Value.isStrOf_shape hk
    refine ⟨k :: ks, .cons k t h1, fun j => ?_, by rw [List.length_cons, List.length_cons, h3]⟩
    rw [List.mem_cons, h2 j]
    constructor
    · rintro (q | ⟨u, hu, q⟩)
      · exact ⟨_, List.mem_cons_self, by rw [q]; exact hk⟩
      · exact ⟨u, List.mem_cons_of_mem _ hu, q⟩
    · rintro ⟨u, hu, q⟩
      rcases List.mem_cons.mp hu with z | z
      · rw [z] at q
        exact .inl ((strKind P w).inj _ _ _ q hk)
      · exact .inr ⟨u, z, q⟩
theorem sorted_at {a : Addr} {l : List Str} {Q : Value → Shared → Prop} (R : At P w s.heap a l) (hh : A.handled = none) (h64 : l.length < 64)
    (hQ : ∀ s' p (out : Array Value) (c : Nat) (ys : List Str), (∀ b o, s.heap.get? b = some o → s'.heap.get? b = some o) → s'.gens = s.gens → s'.os = s.os → s.heap.objs.size ≤ p →
      s'.heap.get? p = some (seqObj "list" out c) → StrsAre out.toList ys → ys.Perm l → sortedS ys = true → Q (.ref p) s') :
    wpAny (model P w) A (call (.builtin "sorted") [.ref a]) Q E s := by
  obtain ⟨⟨es, ep, t⟩, ho, ok⟩ := R
  have ft : t.fits es.size = true := ok.tx.fit
  have z : es.size = l.length := ok.tx.sz
  have sb : es.size < scanBound := by
    unfold scanBound
    omega
  refine Calls.call_function_entry kind_sorted plain_sorted entry_sorted (args_sorted1 _) ?_
  unfold Builtin.«sorted»
  refine wpAny_bind (m := checkCount "sorted" 1 1 _) (wpAny_pure ?_)
  refine wpAny_bind (collect_set (A := A.in1) hh ⟨_, ho, rfl, rfl⟩ ft sb ok.up ok.led fun s1 vs k1 hz g1 o1 pm => ?_)
  obtain ⟨ks, hS, mem, hlen⟩ := texts_of ok.tx.el vs fun v hv => pm.mem_iff.mp hv
  have vl : vs.length = l.length := by rw [pm.length_eq, List.length_map, Array.length_toList]; exact z
  have pk : ks.Perm l := perm_of_sub l ks ok.nd (fun k hk => by
    obtain ⟨e, he, q⟩ := (ok.tx.mem k).mp hk
    exact (mem k).mpr ⟨e.2, pm.mem_iff.mpr (List.mem_map.mpr ⟨e, he, rfl⟩), q⟩) (by omega)
  refine wpAny_bind (wpAny_newList ?_ (by rw [vl, sizeLine_eq]; omega))
  have hoL : (s1.heap.push (seqObj "list" vs.toArray 0)).get? s1.heap.objs.size = some (seqObj "list" vs.toArray 0) := Heap.get?_push_size _ rfl
  refine wpAny_bind (wpAny_holding (wpAny_call_entry slot_list_sort ⟨_, hoL, rfl⟩ entry_list_sort
    (list_sort_treeK strKind_oneLt hoL hS.keysOf (fun v₁ v₂ rest e => keyKind_strs (by rw [← e]; exact hS)) (by rw [vl]; exact h64) fun st' hp hs => ?_) (args_list_sort _)))
  obtain ⟨ys, y1, y2, y3⟩ := sorted_out_str hS hp hs
  obtain ⟨c, hc⟩ := sortedHeap_at (vs := vs) (out := Array.map (fun x => x.snd) (arrOf st')) hoL
  refine ⟨_, rfl, wpAny_pure ⟨_, rfl, hQ _ s1.heap.objs.size _ c ys (fun b u e => ?_) g1 o1 hz hc y1 (y2.trans pk) y3⟩⟩
  have q := k1 b u e
  have lt := Heap.lt_size q
  show (sortedHeap (s1.heap.push (seqObj "list" vs.toArray 0)) s1.heap.objs.size vs _).get? b = some u
  rw [sortedHeap_old (Nat.ne_of_lt lt) (by rw [Heap.size_push]; exact Nat.lt_succ_of_lt lt)]
  exact Heap.get?_push_of_some _ q
end

/-! ### over the layer -/
def SetTx (P : Program) (w : World) (a : Addr) (l : List Str) : HO := .ext fun h => At P w h a l
theorem setTx_new {P : Program} {w : World} {H : Hp} {h : Heap} {a : Addr} {l : List Str} (R : At P w h a l) : ObjOk P w H h a (SetTx P w a l) := by
  have ⟨D, hD, _⟩ := R
  exact ⟨R, ⟨_, hD⟩, fun h1 h2 p k => At.move p k⟩
section
variable {X : Cx}
/-- set(xs), xs a list of texts -/
def rSetL (K : PySem.W.Frag) (P : Program) (w : World) : List V → Hp → VK → Prop := fun xs H Q => ∃ (l : Addr) (ss : List Str), xs = [V.ref l] ∧ SqL K H l (ss.map V.str) ∧ ss.length + 1 < scanBound ∧
  ∀ (a : Addr) (ls : List Str), H a = none → ls.Nodup → (∀ k, k ∈ ls ↔ k ∈ ss) → ls.length ≤ ss.length → Q (.ref a) (upd H a (SetTx P w a ls))
theorem At.nd {P : Program} {w : World} {h : Heap} {a : Addr} {l : List Str} (x : At P w h a l) : l.Nodup := by
  obtain ⟨D, _, o⟩ := x
  exact o.nd
theorem cr_setL (hc : X.calm = true) : CallR X (.type "set") (rSetL X.K X.prog X.w) := by
  intro pins s σ H xs us Q I r h
  obtain ⟨l, ss, rfl, hs, hb, q⟩ := h
  obtain ⟨its, rv, hl, _⟩ := I.list hs
  rw [Vals.ref1 r]
  have hn : H s.heap.objs.size = none := I.hok.fresh (Nat.le_refl _)
  refine call_set_of (xs := ss) (fun A' e => init_list (e.trans (I.ok.hd hc)) hl.isList rv.strs hb) fun s' L => ?_
  obtain ⟨h', tk, ls, rfl, hA, mem, hlen, kp⟩ := L
  exact ⟨.ref s.heap.objs.size, upd H s.heap.objs.size (SetTx X.prog X.w s.heap.objs.size ls), I.laid (t' := tk) kp (Nat.le_refl _) (setTx_new hA), rfl, q _ ls hn hA.nd mem hlen⟩
def signs (x : Str) : List Str := x.cps.toList.map fun c => (⟨#[c]⟩ : Str)
/-- set(x), x a text -/
def rSetT (P : Program) (w : World) : List V → Hp → VK → Prop := fun xs H Q => ∃ (x : Str), xs = [V.str x] ∧ x.length + 1 < scanBound ∧
  ∀ (a : Addr) (ls : List Str), H a = none → ls.Nodup → (∀ k, k ∈ ls ↔ k ∈ signs x) → ls.length ≤ x.length → Q (.ref a) (upd H a (SetTx P w a ls))
theorem cr_setT (hc : X.calm = true) : CallR X (.type "set") (rSetT X.prog X.w) := by
  intro pins s σ H xs us Q I r h
  obtain ⟨x, rfl, hb, q⟩ := h
  obtain ⟨t, rfl⟩ : ∃ t, us = [Value.str x t] := by
    cases r with
    | cons r1 r2 =>
      cases r2
      obtain ⟨t, rfl⟩ := r1
      exact ⟨t, rfl⟩
  have hn : H s.heap.objs.size = none := I.hok.fresh (Nat.le_refl _)
  refine call_set_of (xs := x.cps.toList.map fun c => (⟨#[c]⟩ : Str)) (fun A' e => init_text (e.trans (I.ok.hd hc)) hb) fun s' L => ?_
  obtain ⟨h', tk, ls, rfl, hA, mem, hlen, kp⟩ := L
  rw [List.length_map, Array.length_toList] at hlen
  exact ⟨.ref s.heap.objs.size, upd H s.heap.objs.size (SetTx X.prog X.w s.heap.objs.size ls), I.laid (t' := tk) kp (Nat.le_refl _) (setTx_new hA), rfl, q _ ls hn hA.nd mem hlen⟩
/-- sorted(found) of texts, fewer than 64 -/
def rSortTx (P : Program) (w : World) : List V → Hp → VK → Prop := fun vs H Q => ∃ (a : Addr) (l : List Str), vs = [V.ref a] ∧ H a = some (SetTx P w a l) ∧ l.length < 64 ∧
  ∀ (ys : List Str) (p : Addr), ys.Perm l → sortedS ys = true → H p = none → Q (.ref p) (upd H p (.lst (ys.map V.str)))
theorem cr_sortTx (hc : X.calm = true) : CallR X (.builtin "sorted") (rSortTx X.prog X.w) := by
  intro pins s σ H vs us Q I r h
  obtain ⟨a, l, rfl, ha, h64, q⟩ := h
  have R : At X.prog X.w s.heap a l := (I.hok a _ ha).1
  rw [Vals.ref1 r]
  refine sorted_at R (I.ok.hd hc) h64 fun s' p out c ys k g o hp hg hi pm so => ?_
  have hlen : (ys.map V.str).length ≤ sizeLine := by
    rw [List.length_map, pm.length_eq, sizeLine_eq]
    omega
  have hn : H p = none := I.hok.fresh hp
  have J : Inv X pins σ (upd H p (.lst (ys.map V.str))) { s with heap := s'.heap, gens := s'.gens, drawn := s'.drawn, toks := s'.toks } :=
    I.call (ch := []) (Un.laid k hp hn) (I.hok.laid k hp ⟨hlen, out.toList, c, vals_of_strs hi, hg⟩) (by rw [g]; exact I.bare) (fun _ z => nomatch z)
  have e : s' = { s with heap := s'.heap, gens := s'.gens, drawn := s'.drawn, toks := s'.toks } := by
    cases s'
    cases s
    cases o
    rfl
  rw [e]
  exact ⟨.ref p, _, J, rfl, q ys p pm so hn⟩
end
end TX
namespace DW
open PySem PySem.Spec PyProof.Rows L2
def topS (i : Nat) : Stmt := PySem.Challenge.pw_downwords_k69_ranks_of_symbols.main.body.getD i (.Pass ⟨0, 0, 0, 0⟩)
abbrev sIsAscending : Stmt := topS 6
abbrev sIsAlphabet : Stmt := topS 7
abbrev sIsSymbol : Stmt := topS 12
abbrev sSymbolsAmong : Stmt := topS 13
abbrev sIsProduction : Stmt := topS 14
abbrev sSymbolsOfNextRank : Stmt := topS 17
abbrev sRanks : Stmt := topS 18
abbrev sBegin : Stmt := topS 20
abbrev sDraw : Stmt := topS 21
abbrev sPick : Stmt := topS 22
abbrev sAlpha : Stmt := topS 23
abbrev sWord : Stmt := topS 24
abbrev sLSymbols : Stmt := topS 25
abbrev sLRules : Stmt := topS 26
abbrev sLMade : Stmt := topS 27
abbrev sLNamesOf : Stmt := topS 28
abbrev sLHeights : Stmt := topS 29
abbrev sLChain : Stmt := topS 30
abbrev sLaw : Stmt := topS 31
end DW
/-! sorted(text); x in a tuple, by data -/
namespace ST
open PySem PySem.Spec PyProof.Rows L2
section
variable {P : Program} {w : World} {A : Around} {E : Value → Shared → Prop} {s : Shared}
theorem signs_are {x : Str} {acc : Array Value} (h : ItemsOf (SignAt x) acc x.cps.size) : StrsAre acc.toList (TX.signs x) := by
  have main : ∀ (vs : List Value) (cs : List Nat), vs.length = cs.length → (∀ (j : Nat) (v : Value), vs[j]? = some v → ∃ (c : Nat) (u : Tok), cs[j]? = some c ∧ v = .str ⟨#[c]⟩ u) → StrsAre vs (cs.map fun c => (⟨#[c]⟩ : Str)) := by
    intro vs
    induction vs with
    | nil =>
      intro cs hl _
      have e : cs = [] := List.length_eq_zero_iff.mp hl.symm
      rw [e]
      exact .nil
    | cons v vs ih =>
      intro cs hl h
      cases cs with
      | nil => cases hl
      | cons c cs =>
        obtain ⟨c', u, e1, e2⟩ := h 0 v rfl
        cases e1
        subst e2
        exact .cons _ u (ih cs (Nat.succ.inj hl) fun j v hj => h (j + 1) v hj)
  refine main acc.toList x.cps.toList (by rw [Array.length_toList, Array.length_toList, h.1]) fun j v hj => ?_
  obtain ⟨c, u, e1, e2⟩ := h.2 j v (by simpa using hj)
  exact ⟨c, u, by simpa using e1, e2⟩
end
section
variable {X : Cx}
def rSortT : List V → Hp → VK → Prop := fun vs H Q => ∃ x : Str, vs = [V.str x] ∧ x.length < 64 ∧
  ∀ (ys : List Str) (p : Addr), ys.Perm (TX.signs x) → sortedS ys = true → H p = none → Q (.ref p) (upd H p (.lst (ys.map V.str)))
theorem cr_sortT (hc : X.calm = true) : CallR X (.builtin "sorted") rSortT := by
  intro pins s σ H vs us Q I r h
  obtain ⟨x, rfl, h64, q⟩ := h
  obtain ⟨t, rfl⟩ : ∃ t, us = [Value.str x t] := by
    cases r with
    | cons r1 r2 =>
      cases r2
      obtain ⟨t, rfl⟩ := r1
      exact ⟨t, rfl⟩
  have h64' : x.cps.size < 64 := h64
  refine Calls.call_function_entry kind_sorted plain_sorted entry_sorted (args_sorted1 _) ?_
  unfold Builtin.«sorted»
  refine wpAny_bind (m := checkCount "sorted" 1 1 _) (wpAny_pure ?_)
  refine wpAny_bind (wpAny_collect_str (A := X.A.in1) (I.ok.hd hc) x t (fun s1 acc k1 g1 d1 o1 items => ?_) (by rw [sizeLine_eq]; omega))
  have e1 : s1 = { s with heap := s1.heap, toks := s1.toks } := by
    cases s1
    cases s
    cases g1
    cases d1
    cases o1
    rfl
  have J : Inv X pins σ H s1 := by
    rw [e1]
    exact I.kept k1
  have hS := signs_are items
  have vl : acc.toList.length < 64 := by rw [Array.length_toList, items.1]; exact h64
  refine wpAny_bind (wpAny_newList ?_ (by rw [sizeLine_eq]; omega))
  have hoL : (s1.heap.push (seqObj "list" acc.toList.toArray 0)).get? s1.heap.objs.size = some (seqObj "list" acc.toList.toArray 0) := Heap.get?_push_size _ rfl
  refine wpAny_bind (wpAny_holding (wpAny_call_entry slot_list_sort ⟨_, hoL, rfl⟩ entry_list_sort
    (list_sort_treeK strKind_oneLt hoL hS.keysOf (fun v₁ v₂ rest e => keyKind_strs (by rw [← e]; exact hS)) vl fun st' hp hs => ?_) (args_list_sort _)))
  obtain ⟨ys, y1, y2, y3⟩ := sorted_out_str hS hp hs
  obtain ⟨c, hc⟩ := sortedHeap_at (vs := acc.toList) (out := Array.map (fun x => x.snd) (arrOf st')) hoL
  have hlen : (ys.map V.str).length ≤ sizeLine := by
    rw [List.length_map, y2.length_eq, sizeLine_eq]
    unfold TX.signs
    rw [List.length_map, Array.length_toList]
    omega
  refine ⟨_, rfl, wpAny_pure ⟨_, rfl, ?_⟩⟩
  refine ⟨.ref s1.heap.objs.size, upd H s1.heap.objs.size (.lst (ys.map V.str)), J.laid (t' := s1.toks) (fun b u e => ?_) (Nat.le_refl _) ⟨hlen, _, c, vals_of_strs y1, hc⟩, rfl, q ys _ y2 y3 (J.hok.fresh (Nat.le_refl _))⟩
  have lt := Heap.lt_size e
  show (sortedHeap (s1.heap.push (seqObj "list" acc.toList.toArray 0)) s1.heap.objs.size acc.toList _).get? b = some u
  rw [sortedHeap_old (Nat.ne_of_lt lt) (by rw [Heap.size_push]; exact Nat.lt_succ_of_lt lt)]
  exact Heap.get?_push_of_some _ e
def rInT (K : PySem.W.Frag) : R2 := fun x y H Q => ∃ d ds, Dp K H x d ∧ Dp K H y (.tuple ds) ∧ SeqAt.shaped d = true ∧ SeqAt.shaped (.tuple ds) = true ∧ Q (.bl (ds.any fun z => PyData.eqv z d)) H
theorem op_inT (hu : X.A.units + 65 < cLine) : OpR X (compareOp .In) (rInT X.K) := by
  intro pins s σ H x y v u Q I rx ry h
  obtain ⟨d, ds, hd, he, sd, se, q⟩ := h
  obtain ⟨as, r1⟩ := Dp.reads I d x v hd rx
  obtain ⟨bs, r2⟩ := Dp.reads I (.tuple ds) y u he ry
  exact SeqAt.in_tuple_reads r2 r1 (SeqAt.canLay_of_shaped se) (SeqAt.canLay_of_shaped sd) (room_in_shaped sd hu) ⟨.bl _, H, I, rfl, q⟩
end
end ST
/-! list(text); text[::-1] as a text of the same length -/
namespace R1
open PySem PySem.Spec PyProof.Rows L2
theorem texts_in : ∀ l : List Value, (∀ v ∈ l, ∃ z t, v = .str z t) → ∃ ss : List Str, Vals (ss.map V.str) l
  | [], _ => ⟨[], .nil⟩
  | v :: l, h => by
    obtain ⟨ss, r⟩ := texts_in l fun u hu => h u (List.mem_cons_of_mem _ hu)
    obtain ⟨z, t, rfl⟩ := h v List.mem_cons_self
    exact ⟨z :: ss, .cons ⟨t, rfl⟩ r⟩
section
variable {X : Cx}
theorem cr_listT (hc : X.calm = true) : CallR X (.type "list") (fun xs H Q => ∃ x : Str, xs = [.str x] ∧ x.length ≤ sizeLine ∧ ∀ p (ss : List Str), H p = none → Q (.ref p) (upd H p (.lst (ss.map V.str)))) := by
  intro pins s σ H xs us Q I r h
  obtain ⟨x, rfl, hb, q⟩ := h
  obtain ⟨t, rfl⟩ : ∃ t, us = [Value.str x t] := by
    cases r with
    | cons r1 r2 =>
      cases r2
      obtain ⟨t, rfl⟩ := r1
      exact ⟨t, rfl⟩
  refine call_list_str (I.ok.hd hc) x t (hn := hb) fun h' tk acc c hk hS hacc => ?_
  obtain ⟨ss, rv⟩ := texts_in acc.toList fun v hv => by
    obtain ⟨j, hj⟩ := List.getElem?_of_mem hv
    obtain ⟨c, u, _, e⟩ := hacc.2 j v (by simpa using hj)
    exact ⟨_, u, e⟩
  have hl : (ss.map V.str).length ≤ sizeLine := by
    rw [rv.length, Array.length_toList, hacc.1]
    exact hb
  exact ⟨.ref s.heap.objs.size, upd H s.heap.objs.size (.lst (ss.map V.str)), I.laid (t' := tk) hk (Nat.le_refl _) ⟨hl, acc.toList, c, rv, hS⟩, rfl, q _ ss (I.hok.fresh (Nat.le_refl _))⟩
def tRevT (te : TE) : TE := fun σ H Q => te σ H fun x H1 => ∃ z : Str, x = .str z ∧ z.length ≤ sizeLine ∧ ∀ y : Str, y.length ≤ z.length → (∀ c ∈ y.cps.toList, c ∈ z.cps.toList) → Q (.str y) H1
theorem pe_revT {e : Expr} {te : TE} {k : Nat} {p1 p2 p3 pos : Pos} (he : PE X e te) : PE X (.Subscript e (.Slice none none (some (.UnaryOp .USub (.Constant (.int 1) k p1) p2)) p3) pos) (tRevT te) := by
  refine ⟨fun pins s σ H Q I h => ?_⟩
  refine Subscript_ (thn (he.run pins s σ H _ I h) fun v s1 ⟨x, H1, I1, r1, q1⟩ => ?_)
  obtain ⟨z, ex, hz, q⟩ := q1
  subst ex
  obtain ⟨t, rfl⟩ := r1
  have hst : PO X (some (.UnaryOp .USub (.Constant (.int 1) k p1) p2)) (tPart (tUn (rU fun i => .int (-i)) (tC (.int 1)))) := po_some (pe_un un_neg pe_int)
  refine wpAny_Slice (thn (po_none.run pins s1 σ H1 (fun o H2 => o = none ∧ H2 = H1) I1 ⟨rfl, rfl⟩) fun vl s2 ⟨l, H2, I2, pl, el, e2⟩ => ?_)
  subst el e2
  refine thn (po_none.run pins s2 σ H2 (fun o H3 => o = none ∧ H3 = H2) I2 ⟨rfl, rfl⟩) fun vu s3 ⟨u, H3, I3, pu, eu, e3⟩ => ?_
  subst eu e3
  refine thn (hst.run pins s3 σ H3 (fun o H4 => o = some (-1) ∧ H4 = H3) I3 ⟨1, rfl, -1, rfl, rfl, rfl⟩) fun vs s4 ⟨o, H4, I4, ps, eo, e4⟩ => ?_
  subst eo e4
  obtain ⟨l1, rfl, el⟩ := IsPart.raw pl
  obtain ⟨u1, rfl, eu⟩ := IsPart.raw pu
  obtain ⟨st1, rfl, es⟩ := IsPart.raw ps
  have I5 : Inv X pins σ H4 { s4 with heap := s4.heap.push { cls := .type "slice", data := .fields #[partValue l1, partValue u1, partValue st1] } } := I4.kept (t' := s4.toks) fun b ob q => Heap.get?_push_of_some _ q
  show wpAny (model X.prog X.w) X.A (subscriptTail e (.Slice none none (some (.UnaryOp .USub (.Constant (.int 1) k p1) p2)) p3) (.str z t) (.ref s4.heap.objs.size)) (EP X pins σ Q) X.xe { s4 with heap := s4.heap.push { cls := .type "slice", data := .fields #[partValue l1, partValue u1, partValue st1] } }
  refine tail_any (ops := [.str z t, .ref s4.heap.objs.size]) (typeIs_str _ _ _) (F.slot_str_getitem.lookup) ?_ (by with_unfolding_all rfl)
  refine wpAny_getItem_str_slice (l := l1) (u := u1) (st := st1) ⟨_, Heap.get?_push_size _ rfl, rfl, rfl⟩ (by rw [es]; rfl) ?_
  have e0 : sliceMade z t l1 u1 st1 = .str ⟨(((List.range z.length).map fun k => z.length - 1 - k).filterMap (z.cps[·]?)).toArray⟩ := by
    unfold sliceMade slicePicked
    rw [el, eu, es]
    show (if ((-1 : Int) == 1 && _) = true then _ else _) = _
    rw [if_neg (by simp)]
    show Made.str ⟨((sliceRange ((z.length : Int) - 1) (-1) (-1)).filterMap (z.cps[·]?)).toArray⟩ = _
    rw [PySem.W.krv_sliceRange]
  rw [e0]
  have hl : (⟨(((List.range z.length).map fun k => z.length - 1 - k).filterMap (z.cps[·]?)).toArray⟩ : Str).length ≤ z.length := by
    show (((List.range z.length).map fun k => z.length - 1 - k).filterMap (z.cps[·]?)).toArray.size ≤ _
    rw [List.size_toArray]
    refine Nat.le_trans (List.length_filterMap_le _ _) ?_
    rw [List.length_map, List.length_range]
    exact Nat.le_refl _
  have hm : ∀ c ∈ (⟨(((List.range z.length).map fun k => z.length - 1 - k).filterMap (z.cps[·]?)).toArray⟩ : Str).cps.toList, c ∈ z.cps.toList := fun c hc => by
    have hc' : c ∈ ((List.range z.length).map fun k => z.length - 1 - k).filterMap (z.cps[·]?) := by simpa using hc
    obtain ⟨i, _, hi⟩ := List.mem_filterMap.mp hc'
    rw [← Array.getElem?_toList] at hi
    exact List.mem_of_getElem? hi
  exact ⟨Nat.le_trans hl hz, .str _, H4, I5.tok _, ⟨_, rfl⟩, q _ hl hm⟩
end
end R1
/-! text[::-1] -/
namespace R1
open PySem PySem.Spec PyProof.Rows L2
section
variable {X : Cx}
def tRevS (te : TE) : TE := fun σ H Q => te σ H fun x H1 => ∃ z : Str, x = .str z ∧ z.length ≤ sizeLine ∧ Q (.str ⟨z.cps.toList.reverse.toArray⟩) H1
theorem pe_revS {e : Expr} {te : TE} {k : Nat} {p1 p2 p3 pos : Pos} (he : PE X e te) : PE X (.Subscript e (.Slice none none (some (.UnaryOp .USub (.Constant (.int 1) k p1) p2)) p3) pos) (tRevS te) := by
  refine ⟨fun pins s σ H Q I h => ?_⟩
  refine Subscript_ (thn (he.run pins s σ H _ I h) fun v s1 ⟨x, H1, I1, r1, q1⟩ => ?_)
  obtain ⟨z, ex, hz, q⟩ := q1
  subst ex
  obtain ⟨t, rfl⟩ := r1
  have hst : PO X (some (.UnaryOp .USub (.Constant (.int 1) k p1) p2)) (tPart (tUn (rU fun i => .int (-i)) (tC (.int 1)))) := po_some (pe_un un_neg pe_int)
  refine wpAny_Slice (thn (po_none.run pins s1 σ H1 (fun o H2 => o = none ∧ H2 = H1) I1 ⟨rfl, rfl⟩) fun vl s2 ⟨l, H2, I2, pl, el, e2⟩ => ?_)
  subst el e2
  refine thn (po_none.run pins s2 σ H2 (fun o H3 => o = none ∧ H3 = H2) I2 ⟨rfl, rfl⟩) fun vu s3 ⟨u, H3, I3, pu, eu, e3⟩ => ?_
  subst eu e3
  refine thn (hst.run pins s3 σ H3 (fun o H4 => o = some (-1) ∧ H4 = H3) I3 ⟨1, rfl, -1, rfl, rfl, rfl⟩) fun vs s4 ⟨o, H4, I4, ps, eo, e4⟩ => ?_
  subst eo e4
  obtain ⟨l1, rfl, el⟩ := IsPart.raw pl
  obtain ⟨u1, rfl, eu⟩ := IsPart.raw pu
  obtain ⟨st1, rfl, es⟩ := IsPart.raw ps
  have I5 : Inv X pins σ H4 { s4 with heap := s4.heap.push { cls := .type "slice", data := .fields #[partValue l1, partValue u1, partValue st1] } } := I4.kept (t' := s4.toks) fun b ob q => Heap.get?_push_of_some _ q
  show wpAny (model X.prog X.w) X.A (subscriptTail e (.Slice none none (some (.UnaryOp .USub (.Constant (.int 1) k p1) p2)) p3) (.str z t) (.ref s4.heap.objs.size)) (EP X pins σ Q) X.xe { s4 with heap := s4.heap.push { cls := .type "slice", data := .fields #[partValue l1, partValue u1, partValue st1] } }
  refine tail_any (ops := [.str z t, .ref s4.heap.objs.size]) (typeIs_str _ _ _) (F.slot_str_getitem.lookup) ?_ (by with_unfolding_all rfl)
  refine wpAny_getItem_str_slice (l := l1) (u := u1) (st := st1) ⟨_, Heap.get?_push_size _ rfl, rfl, rfl⟩ (by rw [es]; rfl) ?_
  have e0 : sliceMade z t l1 u1 st1 = .str ⟨(((List.range z.length).map fun k => z.length - 1 - k).filterMap (z.cps[·]?)).toArray⟩ := by
    unfold sliceMade slicePicked
    rw [el, eu, es]
    show (if ((-1 : Int) == 1 && _) = true then _ else _) = _
    rw [if_neg (by simp)]
    show Made.str ⟨((sliceRange ((z.length : Int) - 1) (-1) (-1)).filterMap (z.cps[·]?)).toArray⟩ = _
    rw [PySem.W.krv_sliceRange]
  rw [e0]
  have er : (⟨(((List.range z.length).map fun k => z.length - 1 - k).filterMap (z.cps[·]?)).toArray⟩ : Str) = ⟨z.cps.toList.reverse.toArray⟩ := by
    have e1 : ((List.range z.length).map fun k => z.length - 1 - k).filterMap (z.cps[·]?) = z.cps.toList.reverse := by
      rw [PySem.W.krv_range, List.filterMap_reverse]
      show ((List.range z.cps.size).filterMap (z.cps[·]?)).reverse = _
      rw [PySem.W.krv_all]
    rw [e1]
  rw [er]
  have hl : (⟨z.cps.toList.reverse.toArray⟩ : Str).length ≤ z.length := by
    show z.cps.toList.reverse.toArray.size ≤ z.cps.size
    rw [List.size_toArray, List.length_reverse, Array.length_toList]
    exact Nat.le_refl _
  exact ⟨Nat.le_trans hl hz, .str _, H4, I5.tok _, ⟨_, rfl⟩, q⟩
end
end R1
/-! list(text): its signs -/
namespace R1
open PySem PySem.Spec PyProof.Rows L2
theorem vals_strs : ∀ {vs : List Value} {ws : List Str}, StrsAre vs ws → Vals (ws.map V.str) vs
  | _, _, .nil => .nil
  | _, _, .cons x t r => .cons ⟨t, rfl⟩ (vals_strs r)
theorem cr_listS {X : Cx} (hc : X.calm = true) : CallR X (.type "list") (fun xs H Q => ∃ x : Str, xs = [.str x] ∧ x.length ≤ sizeLine ∧ ∀ p, H p = none → Q (.ref p) (upd H p (.lst ((x.cps.toList.map fun c => (⟨#[c]⟩ : Str)).map V.str)))) := by
  intro pins s σ H xs us Q I r h
  obtain ⟨x, rfl, hb, q⟩ := h
  obtain ⟨t, rfl⟩ : ∃ t, us = [Value.str x t] := by
    cases r with
    | cons r1 r2 =>
      cases r2
      obtain ⟨t, rfl⟩ := r1
      exact ⟨t, rfl⟩
  refine call_list_str (I.ok.hd hc) x t (hn := hb) fun h' tk acc c hk hS hacc => ?_
  have rv := vals_strs (ST.signs_are hacc)
  have hl : ((x.cps.toList.map fun c => (⟨#[c]⟩ : Str)).map V.str).length ≤ sizeLine := by
    rw [List.length_map, List.length_map, Array.length_toList]
    exact hb
  exact ⟨.ref s.heap.objs.size, upd H s.heap.objs.size (.lst ((x.cps.toList.map fun c => (⟨#[c]⟩ : Str)).map V.str)), I.laid (t' := tk) hk (Nat.le_refl _) ⟨hl, acc.toList, c, rv, hS⟩, rfl, q _ (I.hok.fresh (Nat.le_refl _))⟩
end R1
/-! tuple[::-1] -/
namespace RV
open PySem PySem.Spec PyProof.Rows L2 HT
section
variable {prog : Program} {w : World} {A : Around} {E : Value → Shared → Prop} {s : Shared}
theorem adjust_rev (n : Nat) : Builtin.Slice.sliceAdjust none none (-1) (n : Int) = ((n : Int) - 1, -1) := by
  unfold Builtin.Slice.sliceAdjust
  have h1 : (-1 : Int) < 0 := by omega
  simp only [h1, if_true]
theorem places_rev (n : Nat) : Builtin.Slice.slicePlaces ((n : Int) - 1) (-1) (-1) = n := by
  unfold Builtin.Slice.slicePlaces
  have h1 : ¬ ((-1 : Int) > 0) := by omega
  rw [if_neg h1]
  have h2 : -(-1 : Int) = 1 := by omega
  rw [h2, Int.ediv_one]
  split <;> omega
theorem applied_rev {sl : Addr} {vl vu vs : Value} {n : Nat} {Q : Int × Int × Nat → Shared → Prop} (hs : s.heap.IsSliceOf sl vl vu vs) (pl : IsPart vl none) (pu : IsPart vu none) (ps : IsPart vs (some (-1)))
    (h : Q ((n : Int) - 1, -1, n) s) : wpAny (model prog w) A (Builtin.Slice.sliceApplied (.ref sl) (pure (n : Int))) Q E s := by
  obtain ⟨os, hos, hcs, hds⟩ := id hs
  unfold Builtin.Slice.sliceApplied Builtin.Slice.sliceFields
  refine wpAny_bind (wpAny_bind (wpAny_field hos hds (x := vl) rfl (wpAny_bind (wpAny_field hos hds (x := vu) rfl (wpAny_bind (wpAny_field hos hds (x := vs) rfl (wpAny_pure ?_)))))))
  refine wpAny_bind (slicePart_ ps ?_)
  show wpAny _ _ (if ((-1 : Int) == 0) = true then _ else _) _ _ s
  rw [if_neg (by decide)]
  refine wpAny_bind (slicePart_ pl (wpAny_bind (slicePart_ pu (wpAny_bind (wpAny_pure ?_)))))
  show wpAny _ _ (match Builtin.Slice.sliceAdjust none none (-1) (n : Int) with | (lo, hi) => pure (lo, (-1 : Int), Builtin.Slice.slicePlaces lo hi (-1))) _ _ s
  rw [adjust_rev n]
  show wpAny _ _ (pure ((n : Int) - 1, (-1 : Int), Builtin.Slice.slicePlaces ((n : Int) - 1) (-1) (-1))) _ _ s
  rw [places_rev]
  exact wpAny_pure h
theorem pick_rev (xs : Array Value) : ((List.range xs.size).filterMap fun (m : Nat) => xs[(((xs.size : Int) - 1) + (m : Int) * (-1)).toNat]?).toArray = xs.toList.reverse.toArray := by
  have e : (List.range xs.size).filterMap (fun (m : Nat) => xs[(((xs.size : Int) - 1) + (m : Int) * (-1)).toNat]?) = ((List.range xs.size).map fun k => xs.size - 1 - k).filterMap (xs[·]?) := by
    rw [List.filterMap_map]
    congr 1
    funext m
    have : (((xs.size : Int) - 1) + (m : Int) * (-1)).toNat = xs.size - 1 - m := by omega
    rw [this]
    rfl
  rw [e, PySem.W.krv_range, List.filterMap_reverse, PySem.W.krv_all]
theorem getItem_tuple_rev {t sl : Addr} {items : Array Value} {vl vu vs : Value} {Q : Value → Shared → Prop} (ht : IsTup s.heap t items) (hs : s.heap.IsSliceOf sl vl vu vs) (pl : IsPart vl none) (pu : IsPart vu none) (ps : IsPart vs (some (-1)))
    (h : Q (.ref s.heap.objs.size) { s with heap := s.heap.push { cls := .type "tuple", data := .seq items.toList.reverse.toArray } })
    (hsz : items.size ≤ sizeLine) : wpAny (model prog w) A (getItem (.ref t) (.ref sl)) Q E s := by
  have htake : sizeOk (.seq items.toList.reverse.toArray) := by
    show items.toList.reverse.toArray.size ≤ sizeLine
    rw [List.size_toArray, List.length_reverse, Array.length_toList]
    exact hsz
  obtain ⟨os, hos, hcs, hds⟩ := id hs
  have hTs : s.TypeIs (.ref sl) "slice" := ⟨os, hos, hcs⟩
  unfold getItem
  try with_reducible refine wpAny_holding ?_
  first | refine wpAny_bind (wpAny_pure ?_) | skip
  refine wpAny_bind (wpAny_sequenceKey ht.typeIs (by decide) ?_)
  refine wpAny_bind (wpAny_callSpecial?_slot (name := Str.ofString "__getitem__") ht.typeIs PyProof.Rows.slot_tuple_getitem
    (wpAny_call_entry PyProof.Rows.slot_tuple_getitem ht.typeIs entry_tuple_getitem ?_ (args_tuple_getitem _ _)))
  show wpAny _ _ (Builtin.Tuple.tupleItemsOf (.ref t) >>= _) _ _ s
  refine wpAny_bind (tupleItemsOf_ ht ?_)
  refine wpAny_bind (wpAny_typeOf hTs ?_)
  rw [if_pos (by decide)]
  refine wpAny_bind (applied_rev hs pl pu ps ?_)
  have hno : ¬ ((((items.size : Int) - 1) == 0 && (-1 : Int) == 1 && items.size == items.size) = true) := by
    intro q
    rw [Bool.and_eq_true, Bool.and_eq_true] at q
    exact absurd q.1.2 (by decide)
  show wpAny _ _ (if (((items.size : Int) - 1) == 0 && (-1 : Int) == 1 && items.size == items.size) = true then _ else _) _ _ s
  rw [if_neg hno, pick_rev]
  first
    | exact wpAny_bind (m := Builtin.Tuple.tupleExact _) (wpAny_newObj_type (wpAny_pure ⟨_, rfl, wpAny_pure h⟩) htake)
    | exact wpAny_bind (m := Builtin.Tuple.tupleExact _) (wpAny_newObj_type (wpAny_bind (wpAny_pure (wpAny_pure ⟨_, rfl, wpAny_pure h⟩))) htake)
    | exact wpAny_bind (wpAny_bind (m := Builtin.Tuple.tupleExact _) (wpAny_newObj_type (wpAny_pure (wpAny_pure ⟨_, rfl, wpAny_pure h⟩)) htake))
    | exact wpAny_bind (wpAny_bind (m := Builtin.Tuple.tupleExact _) (wpAny_newObj_type (wpAny_pure ⟨_, rfl, wpAny_pure h⟩) htake))
end
section
variable {X : Cx}
def tRevQ (K : PySem.W.Frag) (te : TE) : TE := fun σ H Q => te σ H fun x H1 => ∃ a xs, x = .ref a ∧ SqT K H1 a xs ∧ ∀ p, H1 p = none → Q (.ref p) (upd H1 p (.tup xs.reverse))
theorem pe_revQ {e : Expr} {te : TE} {k : Nat} {p1 p2 p3 pos : Pos} (he : PE X e te) : PE X (.Subscript e (.Slice none none (some (.UnaryOp .USub (.Constant (.int 1) k p1) p2)) p3) pos) (tRevQ X.K te) := by
  refine ⟨fun pins s σ H Q I h => ?_⟩
  refine Subscript_ (thn (he.run pins s σ H _ I h) fun v s1 ⟨x, H1, I1, r1, q1⟩ => ?_)
  obtain ⟨a, xs, ex, hx, q⟩ := q1
  subst ex
  cases r1
  have hst : PO X (some (.UnaryOp .USub (.Constant (.int 1) k p1) p2)) (tPart (tUn (rU fun i => .int (-i)) (tC (.int 1)))) := po_some (pe_un un_neg pe_int)
  refine wpAny_Slice (thn (po_none.run pins s1 σ H1 (fun o H2 => o = none ∧ H2 = H1) I1 ⟨rfl, rfl⟩) fun vl s2 ⟨l, H2, I2, pl, el, e2⟩ => ?_)
  subst el e2
  refine thn (po_none.run pins s2 σ H2 (fun o H3 => o = none ∧ H3 = H2) I2 ⟨rfl, rfl⟩) fun vu s3 ⟨u, H3, I3, pu, eu, e3⟩ => ?_
  subst eu e3
  refine thn (hst.run pins s3 σ H3 (fun o H4 => o = some (-1) ∧ H4 = H3) I3 ⟨1, rfl, -1, rfl, rfl, rfl⟩) fun vs s4 ⟨o, H4, I4, ps, eo, e4⟩ => ?_
  subst eo e4
  have I5 : Inv X pins σ H4 { s4 with heap := s4.heap.push { cls := .type "slice", data := .fields #[vl, vu, vs] } } := I4.kept (t' := s4.toks) fun b ob q => Heap.get?_push_of_some _ q
  obtain ⟨its, r, ht, hz⟩ := I5.tuple hx
  have hlen := r.length
  show wpAny (model X.prog X.w) X.A (subscriptTail e (.Slice none none (some (.UnaryOp .USub (.Constant (.int 1) k p1) p2)) p3) (.ref a) (.ref s4.heap.objs.size)) (EP X pins σ Q) X.xe { s4 with heap := s4.heap.push { cls := .type "slice", data := .fields #[vl, vu, vs] } }
  refine tail_any (ops := [.ref a, .ref s4.heap.objs.size]) ht.typeIs (PyProof.Rows.slot_tuple_getitem.lookup) ?_ (by with_unfolding_all rfl)
  refine getItem_tuple_rev ht (Heap.IsSliceOf.new _ vl vu vs) pl pu ps ?_ (by rw [List.size_toArray]; omega)
  refine ⟨.ref _, _, I5.laid (t' := s4.toks) (o := .tup xs.reverse) (fun b ob q => Heap.get?_push_of_some _ q) (Nat.le_refl _) ?_, rfl, q _ (I5.hok.fresh (Nat.le_refl _))⟩
  exact ⟨by rw [List.length_reverse]; exact hz, _, r.reverse, IsTup.new _ _⟩
end
end RV
/-! xs[::-1] of a list -/
namespace RV
open PySem PySem.Spec PyProof.Rows L2
section
variable {X : Cx}
def tRevL (K : PySem.W.Frag) (te : TE) : TE := fun σ H Q => te σ H fun x H1 => ∃ a xs, x = .ref a ∧ SqL K H1 a xs ∧ ∀ p, H1 p = none → Q (.ref p) (upd H1 p (.lst xs.reverse))
theorem pe_revL {e : Expr} {te : TE} {k : Nat} {p1 p2 p3 pos : Pos} (he : PE X e te) : PE X (.Subscript e (.Slice none none (some (.UnaryOp .USub (.Constant (.int 1) k p1) p2)) p3) pos) (tRevL X.K te) := by
  refine ⟨fun pins s σ H Q I h => ?_⟩
  refine Subscript_ (thn (he.run pins s σ H _ I h) fun v s1 ⟨x, H1, I1, r1, q1⟩ => ?_)
  obtain ⟨a, xs, ex, hx, q⟩ := q1
  subst ex
  cases r1
  have hst : PO X (some (.UnaryOp .USub (.Constant (.int 1) k p1) p2)) (tPart (tUn (rU fun i => .int (-i)) (tC (.int 1)))) := po_some (pe_un un_neg pe_int)
  refine wpAny_Slice (thn (po_none.run pins s1 σ H1 (fun o H2 => o = none ∧ H2 = H1) I1 ⟨rfl, rfl⟩) fun vl s2 ⟨l, H2, I2, pl, el, e2⟩ => ?_)
  subst el e2
  refine thn (po_none.run pins s2 σ H2 (fun o H3 => o = none ∧ H3 = H2) I2 ⟨rfl, rfl⟩) fun vu s3 ⟨u, H3, I3, pu, eu, e3⟩ => ?_
  subst eu e3
  refine thn (hst.run pins s3 σ H3 (fun o H4 => o = some (-1) ∧ H4 = H3) I3 ⟨1, rfl, -1, rfl, rfl, rfl⟩) fun vs s4 ⟨o, H4, I4, ps, eo, e4⟩ => ?_
  subst eo e4
  have I5 : Inv X pins σ H4 { s4 with heap := s4.heap.push { cls := .type "slice", data := .fields #[vl, vu, vs] } } := I4.kept (t' := s4.toks) fun b ob q => Heap.get?_push_of_some _ q
  obtain ⟨its, r, ht, hz⟩ := I5.list hx
  have hlen := r.length
  show wpAny (model X.prog X.w) X.A (subscriptTail e (.Slice none none (some (.UnaryOp .USub (.Constant (.int 1) k p1) p2)) p3) (.ref a) (.ref s4.heap.objs.size)) (EP X pins σ Q) X.xe { s4 with heap := s4.heap.push { cls := .type "slice", data := .fields #[vl, vu, vs] } }
  refine tail_any (ops := [.ref a, .ref s4.heap.objs.size]) ht.isList.typeIs (slot_list_getitem.lookup) ?_ (by with_unfolding_all rfl)
  refine wpAny_getItem_list_slice ht.isList (Heap.IsSliceOf.new _ vl vu vs) pl pu ps (by simp) ?_ (by rw [List.size_toArray]; omega)
  rw [PySem.W.krv_pick]
  refine ⟨.ref _, _, I5.laid (t' := s4.toks) (o := .lst xs.reverse) (fun b ob q => Heap.get?_push_of_some _ q) (Nat.le_refl _) ?_, rfl, q _ (I5.hok.fresh (Nat.le_refl _))⟩
  exact ⟨by rw [List.length_reverse]; exact hz, _, 0, r.reverse, Heap.get?_push_size _ rfl⟩
end
end RV
/-! xs[::k] of a list, k is 1 or -1 -/
namespace RV
open PySem PySem.Spec PyProof.Rows L2
section
variable {X : Cx}
def tStepL (K : PySem.W.Frag) (te tk : TE) : TE := fun σ H Q => te σ H fun x H1 => tPart tk σ H1 fun k H2 => ∃ a xs b, x = .ref a ∧ SqL K H2 a xs ∧ k = some (if b = true then 1 else -1) ∧ ∀ p, H2 p = none → Q (.ref p) (upd H2 p (.lst (if b = true then xs else xs.reverse)))
theorem pick_one (items : Array Value) : slicePick items none none (some 1) = items := by
  exact slicePick_all items
theorem pe_stepL {e ek : Expr} {te tk : TE} {p3 pos : Pos} (he : PE X e te) (hk : PE X ek tk)
    (ht : subscriptTail e (.Slice none none (some ek) p3) = subscriptTail e (.Slice none none (some ek) p3) := by rfl) : PE X (.Subscript e (.Slice none none (some ek) p3) pos) (tStepL X.K te tk) := by
  refine ⟨fun pins s σ H Q I h => ?_⟩
  refine Subscript_ (thn (he.run pins s σ H _ I h) fun v s1 ⟨x, H1, I1, r1, q1⟩ => ?_)
  have hst : PO X (some ek) (tPart tk) := po_some hk
  refine wpAny_Slice (thn (po_none.run pins s1 σ H1 (fun o H2 => o = none ∧ H2 = H1) I1 ⟨rfl, rfl⟩) fun vl s2 ⟨l, H2, I2, pl, el, e2⟩ => ?_)
  subst el e2
  refine thn (po_none.run pins s2 σ H2 (fun o H3 => o = none ∧ H3 = H2) I2 ⟨rfl, rfl⟩) fun vu s3 ⟨u, H3, I3, pu, eu, e3⟩ => ?_
  subst eu e3
  refine thn (hst.run pins s3 σ H3 _ I3 q1) fun vs s4 ⟨o, H4, I4, ps, q4⟩ => ?_
  obtain ⟨a, xs, b, ex, hx, eo, q⟩ := q4
  subst ex eo
  cases r1
  have I5 : Inv X pins σ H4 { s4 with heap := s4.heap.push { cls := .type "slice", data := .fields #[vl, vu, vs] } } := I4.kept (t' := s4.toks) fun b ob q => Heap.get?_push_of_some _ q
  obtain ⟨its, r, ht, hz⟩ := I5.list hx
  have hlen := r.length
  show wpAny (model X.prog X.w) X.A (subscriptTail e (.Slice none none (some ek) p3) (.ref a) (.ref s4.heap.objs.size)) (EP X pins σ Q) X.xe { s4 with heap := s4.heap.push { cls := .type "slice", data := .fields #[vl, vu, vs] } }
  refine tail_any (ops := [.ref a, .ref s4.heap.objs.size]) ht.isList.typeIs (slot_list_getitem.lookup) ?_ (by with_unfolding_all rfl)
  refine wpAny_getItem_list_slice ht.isList (Heap.IsSliceOf.new _ vl vu vs) pl pu ps (by cases b <;> simp) ?_ (by rw [List.size_toArray]; omega)
  have hp : slicePick its.toArray none none (some (if b = true then 1 else -1)) = (if b = true then its else its.reverse).toArray := by
    cases b with
    | true => exact pick_one _
    | false => exact PySem.W.krv_pick _
  rw [hp]
  refine ⟨.ref _, _, I5.laid (t' := s4.toks) (o := .lst (if b = true then xs else xs.reverse)) (fun b ob q => Heap.get?_push_of_some _ q) (Nat.le_refl _) ?_, rfl, q _ (I5.hok.fresh (Nat.le_refl _))⟩
  cases b with
  | true => exact ⟨hz, _, 0, r, Heap.get?_push_size _ rfl⟩
  | false => exact ⟨by rw [if_neg (by decide), List.length_reverse]; exact hz, _, 0, r.reverse, Heap.get?_push_size _ rfl⟩
end
end RV
/-! enumerate(tuple) -/
namespace EN
open PySem PySem.Spec PyProof.Rows L2
theorem meets_new1 {v : Value} {o : Obj} {H : Heap → Prop} (B : Begins v o H) :
    Meets (Builtin.«enumerate.__new__» ⟨[.type "enumerate", v], []⟩) (fun _ R s => H s.heap ∧
      R (.ok (.ret (.ref (s.heap.push o).objs.size))) { s with heap := (s.heap.push o).push { cls := .type "enumerate", data := .fields #[.none, .bool false, .ref s.heap.objs.size, rawInt 0, .none, .none] } }) :=
  .of_wp fun prog w A R s h => by
    obtain ⟨hp, g, d, tk, os⟩ := s
    obtain ⟨h1, h⟩ := h
    have hsub := sub_enumerate
    have q1 : ∀ {A' : Around} {E : Value → Shared → Prop} {Q : Value → Shared → Prop}, Q (.ref hp.objs.size) ⟨hp.push o, g, d, tk, os⟩ → wpAny (model prog w) A' (pyIter v) Q E ⟨hp, g, d, tk, os⟩ :=
      fun q => B.iter prog w _ _ ⟨hp, g, d, tk, os⟩ _ h1 q
    wp_walk using q1
    refine wpAny_stack_any fun st => wpAny_pure ?_
    split
    · rename_i c _ _ _ _ _
      cases (c == Value.type "enumerate")
      · wp_walk using q1
        exact ⟨_, rfl, h⟩
      · wp_walk using q1
        exact ⟨_, rfl, h⟩
    · wp_walk using q1
      exact ⟨_, rfl, h⟩
section
variable {prog : Program} {w : World} {A : Around} {E : Value → Shared → Prop} {s : Shared}
theorem begins1 {v : Value} {o : Obj} {H : Heap → Prop} {Q : Value → Shared → Prop} (B : Begins v o H) (h1 : H s.heap)
    (h : ∀ h', IsEnum h' (s.heap.objs.size + 1) s.heap.objs.size 0 .none → h'.get? s.heap.objs.size = some o → h'.objs.size = s.heap.objs.size + 2 →
      (∀ b o, s.heap.get? b = some o → h'.get? b = some o) → Q (.ref (s.heap.objs.size + 1)) { s with heap := h' }) :
    wpAny (model prog w) A (call (.type "enumerate") [v]) Q E s := by
  refine callType_new F.called_enumerate (by decide) (F.typeCall_enumerate_1 _) (F.newCall_enumerate_1 _) (fun obj => F.args_object_init_2 obj _) F.entry_enumerate_new
    (meets_new1 B) ⟨h1, ?_⟩
  have hz : (s.heap.push o).objs.size = s.heap.objs.size + 1 := Heap.size_push ..
  show _ ∧ _
  rw [hz]
  have he : IsEnum ((s.heap.push o).push { cls := .type "enumerate", data := .fields #[.none, .bool false, .ref s.heap.objs.size, rawInt 0, .none, .none] }) (s.heap.objs.size + 1) s.heap.objs.size 0 .none := by
    have := Heap.get?_push_size (s.heap.push o) (o := { cls := .type "enumerate", data := .fields #[.none, .bool false, .ref s.heap.objs.size, rawInt 0, .none, .none] }) rfl
    rw [hz] at this
    exact this
  exact ⟨⟨_, he, rfl⟩, h _ he (Heap.get?_push_of_some _ (Heap.get?_push_size _ B.free)) (by rw [Heap.size_push, hz]) fun b o x => Heap.get?_push_of_some _ (Heap.get?_push_of_some _ x)⟩
end
/-- the tuple at a, its items with their places in new pairs -/
def ItT (K : PySem.W.Frag) (a : Addr) : It :=
  ⟨fun i H => ∃ (xs : List V) (x : V), SqT K H a xs ∧ xs[i]? = some x, fun i H v H' => ∃ T x, v = .ref T ∧ H T = none ∧ H' = upd H T (.tup [.int (i : Nat), x]) ∧ ∀ xs, SqT K H a xs → xs[i]? = some x, fun i H => ∃ xs : List V, SqT K H a xs ∧ xs.length = i⟩
theorem ne_iter {h : Heap} {it a : Addr} {i : Nat} {its : Array Value} (h1 : h.IsTupleIter it a i) (h2 : h.IsTuple a its) : a ≠ it := fun e => by
  subst e
  obtain ⟨o, ho, hc, _⟩ := h1
  obtain ⟨o', ho', hc', _⟩ := h2
  rw [ho] at ho'
  cases ho'
  rw [hc] at hc'
  injection hc' with q
  exact absurd q (by decide)
theorem turn_T {P : Program} {w : World} {K : PySem.W.Frag} {elts : List Expr} {kk : Nat} {tpos : Pos} (a e it : Addr) (nea : e ≠ a) :
    Turn P w K (.Tuple elts kk tpos) (ItT K a) [e, it] e (fun i h => (∃ old, IsEnum h e it ((i : Nat) : Int) old) ∧ h.IsTupleIter it a i ∧ e ≠ it) where
  mem := by simp
  obj := fun i h st b hb => by
    obtain ⟨⟨old, he⟩, ⟨o, ho, hc, hd⟩, _⟩ := st
    have e' : b = e ∨ b = it := by simpa using hb
    rcases e' with z | z
    · rw [z]; exact ⟨_, he, fun v q => nomatch q⟩
    · rw [z]; exact ⟨o, ho, fun v q => by rw [hd] at q; cases q⟩
  keep := fun i h h' st k => let ⟨⟨old, he⟩, hi, hne⟩ := st; ⟨⟨old, k e (by simp) _ he⟩, hi.at fun o q => k it (by simp) o q, hne⟩
  item := by
    intro X hP hw hK hc i pins s σ H E I hf st hg
    subst hP hw hK
    obtain ⟨⟨old, he⟩, hit, hne⟩ := st
    obtain ⟨xs, x, hq, hx⟩ := hg
    obtain ⟨its, rv, p, hz⟩ := I.tuple hq
    obtain ⟨u, hu, ru⟩ := rv.get hx
    have hel : e < s.heap.objs.size := Heap.lt_size he
    have hil : it < s.heap.objs.size := by obtain ⟨_, q, _⟩ := hit; exact Heap.lt_size q
    have p' : s.heap.IsTuple a its.toArray := p
    have lt : i < its.toArray.size := by
      rw [List.size_toArray]
      exact (List.getElem?_eq_some_iff.mp hu).1
    refine wpAny_pyNext_enum_itemD (Draws.tuple (A := X.A.in1) (I.ok.hd hc) it a (ne_iter hit p') its.toArray) he ⟨hit, p'⟩ lt hne (by simp [hne, nea]) fun x' h' tk px ho st' hT hsz hk => ?_
    have ex : x' = u := by
      rw [List.getElem?_toArray, hu] at px
      exact (Option.some.inj px).symm
    subst ex
    refine ⟨_, rfl, wpAny_letOwnedTupleGo_enum (s := { s with heap := h', toks := tk + 1 }) ho fun h'' he' sb => ?_⟩
    have hT2 : h''.get? s.heap.objs.size = some { cls := .type "tuple", data := .seq #[.int i tk, x'] } := (sb.2 _ (Nat.ne_of_gt hel)).trans hT
    have new : ObjOk X.prog X.w (upd H s.heap.objs.size (.tup [.int (i : Nat), x])) h'' s.heap.objs.size (.tup [.int (i : Nat), x]) :=
      ⟨by show 2 ≤ sizeLine; decide, [.int i tk, x'], .cons ⟨_, rfl⟩ (.cons ru .nil), ⟨_, hT2, rfl, _, rfl⟩⟩
    have I1 : Inv X pins σ (upd H s.heap.objs.size (.tup [.int (i : Nat), x])) { s with heap := h'', toks := tk + 1 } :=
      I.turnedNew (ch := [e, it]) (fun b ob hb q => (sb.2 b (fun z => hb (by simp [z]))).trans (hk b ob (fun z => hb (by simp [z])) (fun z => hb (by simp [z])) q)) hf (Nat.le_refl _) new
    refine ⟨.ref s.heap.objs.size, _, I1, rfl, ⟨_, x, rfl, I.hok.fresh (Nat.le_refl _), rfl, fun ys hy => by rw [I.tuple_inj hy hq]; exact hx⟩, ⟨⟨x', ?_⟩, st'.1.at fun o q => (sb.2 it (Ne.symm hne)).trans q, hne⟩, fun b hb => ?_⟩
    · have e1 : ((i + 1 : Nat) : Int) = (i : Int) + 1 := by omega
      rw [e1]
      exact he'
    · have hb' : b < s.heap.objs.size := by
        have e' : b = e ∨ b = it := by simpa using hb
        rcases e' with z | z
        · rw [z]; exact hel
        · rw [z]; exact hil
      rw [upd_ne (Nat.ne_of_lt hb')]
      exact (hf b hb).1
  done := by
    intro X hP hw hK hc i pins s σ H E I hf st hg
    subst hP hw hK
    obtain ⟨⟨old, he⟩, hit, hne⟩ := st
    obtain ⟨xs, hq, hx⟩ := hg
    obtain ⟨its, rv, p, hz⟩ := I.tuple hq
    have p' : s.heap.IsTuple a its.toArray := p
    obtain ⟨f0, f1, f2, f3, f4, f5⟩ := hf it (by simp)
    have hl := rv.length
    have ei : i = its.toArray.size := by rw [List.size_toArray]; omega
    exact wpAny_pyNext_enum_endD (Draws.tuple (A := X.A.in1) (I.ok.hd hc) it a (ne_iter hit p') its.toArray) he (by rw [← ei]; exact ⟨hit, p'⟩) fun h' eb => ⟨rfl, I.turned (t' := s.toks) (fun b o hb q => eb b o hb q) f0 f1 f3 f4 f5⟩
  self := fun A i s Q E st h => let ⟨⟨_, he⟩, _⟩ := st; wpAny_pyIter_enum he h
def iEnT (K : PySem.W.Frag) (ta : TA) : TI := fun σ H R => ta σ H fun vs H1 => ∃ a xs, vs = [.ref a] ∧ SqT K H1 a xs ∧ R (ItT K a) H1
theorem pi_enT {X : Cx} {e : Expr} {ta : TA} {p pos tpos : Pos} {elts : List Expr} {kk : Nat} (hg : Gl X "enumerate") (hm : X.mg "enumerate" = none) (ha : PA X [e] ta) (hs : starEach [e] X.env = [(false, eval e X.env)] := by rfl) :
    PI X (.Tuple elts kk tpos) (.Call (.Name "enumerate" p) [e] [] pos) (iEnT X.K ta) := by
  refine ⟨fun pins s σ H R I h => ?_⟩
  refine Call_ (ld_blt I hg hm boot_enumerate (PyProof.Rows.callWith_type1 (thn (ha.run pos pins s σ H _ I h) fun us s1 ⟨vs, H1, I1, r1, q1⟩ => ?_) hs rfl))
  obtain ⟨a, xs, ex, hq, q⟩ := q1
  subst ex
  cases r1 with
  | cons r rr =>
    cases rr
    cases r
    obtain ⟨its, rv, p', hz⟩ := I1.tuple hq
    have p2 : s1.heap.IsTuple a its.toArray := p'
    have al : a < s1.heap.objs.size := by
      obtain ⟨_, h0, _⟩ := p2
      exact Heap.lt_size h0
    refine begins1 (begins_tuple a its.toArray) p2 fun h' he hit hsz hk => wpAny_pyIter_enum he ?_
    have I2 : Inv X pins σ H1 { s1 with heap := h' } := I1.kept (t' := s1.toks) hk
    refine ⟨s1.heap.objs.size + 1, [s1.heap.objs.size + 1, s1.heap.objs.size], _, _, H1, rfl, I2, turn_T a (s1.heap.objs.size + 1) s1.heap.objs.size (fun z => absurd (z ▸ al) (Nat.not_lt.mpr (Nat.le_succ _))), ⟨⟨.none, he⟩, ⟨_, hit, rfl, rfl⟩, Nat.succ_ne_self _⟩, fun b hb => ?_, q⟩
    have e' : b = s1.heap.objs.size + 1 ∨ b = s1.heap.objs.size := by simpa using hb
    have hle : s1.heap.objs.size ≤ b := by
      rcases e' with z | z
      · rw [z]; exact Nat.le_add_right _ _
      · rw [z]; exact Nat.le_refl _
    exact I1.fpOk hle (I1.hok.fresh hle)
theorem walk_T {K : PySem.W.Frag} {a : Addr} {xs : List V} : Walk (ItT K a) xs.length (fun H => SqT K H a xs) (YPair (fun i => some (.int (i : Nat))) (fun i => xs[i]?)) := by
  refine ⟨fun i _ hi q => ⟨xs, xs[i], q, by simp [hi]⟩, fun _ q => ⟨xs, q, rfl⟩, fun i H v H' _ q y => ?_⟩
  obtain ⟨T, x, h1, h2, h3, h4⟩ := y
  exact ⟨T, .int (i : Nat), x, h1, h2, h3, rfl, h4 xs q⟩
end EN
/-! zip(text, text) -/
namespace ZX
open PySem PySem.Spec PyProof.Rows L2
/-- the signs of two texts, side by side, in new pairs -/
def Itx (x y : Str) : It :=
  ⟨fun i _ => i < x.cps.size ∧ i < y.cps.size,
    fun i H v H' => ∃ (T : Addr) (c d : Nat), v = .ref T ∧ H T = none ∧ H' = upd H T (.tup [.str ⟨#[c]⟩, .str ⟨#[d]⟩]) ∧ x.cps[i]? = some c ∧ y.cps[i]? = some d,
    fun i _ => i = min x.cps.size y.cps.size⟩
theorem turn_zipX {P : Program} {w : World} {K : PySem.W.Frag} {elts : List Expr} {kk : Nat} {tpos : Pos} {x y : Str} {t u : Tok} {z TI TO i1 i2 : Addr} (S : ZipSep2 z TI TO i1 i2 [i1] [i2]) :
    Turn P w K (.Tuple elts kk tpos) (Itx x y) [z, TI, TO, i1, i2] z (fun i h => IsZip h z TI TO .none ∧ IsTupOf2 h TI (.ref i1) (.ref i2) ∧ (∃ a b, IsTupOf2 h TO a b) ∧ h.IsStrIter i1 (strIterType x) x t i ∧ h.IsStrIter i2 (strIterType y) y u i) where
  mem := by simp
  obj := fun i h st c hc => by
    obtain ⟨hz, hTI, ⟨a, b, hTO⟩, ⟨o1, e1, _, d1⟩, ⟨o2, e2, _, d2⟩⟩ := st
    have e' : c = z ∨ c = TI ∨ c = TO ∨ c = i1 ∨ c = i2 := by simpa using hc
    rcases e' with q | q | q | q | q
    · rw [q]; exact ⟨_, hz, fun v q => nomatch q⟩
    · rw [q]; exact ⟨_, hTI, fun v q => nomatch q⟩
    · rw [q]; exact ⟨_, hTO, fun v q => nomatch q⟩
    · rw [q]; exact ⟨o1, e1, fun v q => by rw [d1] at q; cases q⟩
    · rw [q]; exact ⟨o2, e2, fun v q => by rw [d2] at q; cases q⟩
  keep := fun i h h' st k => by
    obtain ⟨hz, hTI, ⟨a, b, hTO⟩, ⟨o1, e1, r1⟩, ⟨o2, e2, r2⟩⟩ := st
    exact ⟨k z (by simp) _ hz, k TI (by simp) _ hTI, ⟨a, b, k TO (by simp) _ hTO⟩, ⟨o1, k i1 (by simp) _ e1, r1⟩, ⟨o2, k i2 (by simp) _ e2, r2⟩⟩
  item := by
    intro X hP hw hK hc i pins s σ H E I hf st hg
    subst hP hw hK
    obtain ⟨hz, hTI, ⟨a0, b0, hTO⟩, h1, h2⟩ := st
    have hzl : z < s.heap.objs.size := Heap.lt_size hz
    refine wpAny_pyNext_zipD2_item S (Draws.text (A := X.A.in1) (I.ok.hd hc) i1 x t) (Draws.text (A := X.A.in1) (I.ok.hd hc) i2 y u) hz hTI hTO h1 h2 hg.1 hg.2 fun v1 v2 h' tk p1 p2 z' TO' h1' h2' hT hsz hk => ?_
    obtain ⟨c, tc, hc1, rfl⟩ := p1
    obtain ⟨d, td, hd1, rfl⟩ := p2
    refine ⟨_, rfl, wpAny_letOwnedTupleGo_zip (s := { s with heap := h', toks := tk }) z' fun h'' z'' sb => ?_⟩
    have hT2 : h''.get? s.heap.objs.size = some { cls := .type "tuple", data := .seq #[.str ⟨#[c]⟩ tc, .str ⟨#[d]⟩ td] } := (sb.2 _ (Nat.ne_of_gt hzl)).trans hT
    have new : ObjOk X.prog X.w (upd H s.heap.objs.size (.tup [.str ⟨#[c]⟩, .str ⟨#[d]⟩])) h'' s.heap.objs.size (.tup [.str ⟨#[c]⟩, .str ⟨#[d]⟩]) :=
      ⟨by show 2 ≤ sizeLine; decide, [.str ⟨#[c]⟩ tc, .str ⟨#[d]⟩ td], .cons ⟨_, rfl⟩ (.cons ⟨_, rfl⟩ .nil), ⟨_, hT2, rfl, _, rfl⟩⟩
    have I1 : Inv X pins σ (upd H s.heap.objs.size (.tup [.str ⟨#[c]⟩, .str ⟨#[d]⟩])) { s with heap := h'', toks := tk } :=
      I.turnedNew (t' := tk) (ch := [z, TI, TO, i1, i2]) (fun c o hb q => (sb.2 c (fun q' => hb (by simp [q']))).trans (hk c o (fun q' => hb (by simp [q'])) (fun q' => hb (by simp [q'])) (fun q' => hb (by simp [q'])) (fun q' => hb (by simp [q'])) q)) hf (Nat.le_refl _) new
    have st' : ∀ {a : Addr} {ty : String} {v : Str} {tv : Tok} {n : Nat}, a ≠ z → h'.IsStrIter a ty v tv n → h''.IsStrIter a ty v tv n := fun n ⟨o, e, r⟩ => ⟨o, (sb.2 _ n).trans e, r⟩
    refine ⟨.ref s.heap.objs.size, _, I1, rfl, ⟨_, c, d, rfl, I.hok.fresh (Nat.le_refl _), rfl, hc1, hd1⟩, ⟨z'', ?_, ⟨.str ⟨#[c]⟩ tc, .str ⟨#[d]⟩ td, ?_⟩, st' S.zi1.symm h1', st' S.zi2.symm h2'⟩, fun b hb => ?_⟩
    · exact (sb.2 _ S.TIz).trans (hk _ _ S.TIz S.TITO S.TIi1 S.TIi2 hTI)
    · exact (sb.2 _ S.TOz).trans TO'
    · have hlt : b < s.heap.objs.size := by
        have e' : b = z ∨ b = TI ∨ b = TO ∨ b = i1 ∨ b = i2 := by simpa using hb
        rcases e' with q | q | q | q | q
        · rw [q]; exact hzl
        · rw [q]; exact Heap.lt_size hTI
        · rw [q]; exact Heap.lt_size hTO
        · rw [q]; obtain ⟨_, e1, _⟩ := h1; exact Heap.lt_size e1
        · rw [q]; obtain ⟨_, e2, _⟩ := h2; exact Heap.lt_size e2
      rw [upd_ne (Nat.ne_of_lt hlt)]
      exact (hf b hb).1
  done := by
    intro X hP hw hK hc i pins s σ H E I hf st hg
    subst hP hw hK
    obtain ⟨hz, hTI, ⟨a0, b0, hTO⟩, h1, h2⟩ := st
    have hg' : i = min x.cps.size y.cps.size := hg
    exact wpAny_pyNext_zipD2_end S (Draws.text (A := X.A.in1) (I.ok.hd hc) i1 x t) (Draws.text (A := X.A.in1) (I.ok.hd hc) i2 y u) hz hTI hTO h1 h2 (by omega) (by omega) (by omega) fun h' tk hk => ⟨rfl, I.turnedL (t' := tk) (ch := [z, TI, TO, i1, i2]) (fun c o hb q =>
      hk c o (fun q' => hb (by simp [q'])) (fun q' => hb (by simp [q'])) (fun q' => hb (by simp [q'])) (fun q' => hb (by simp [q'])) q) hf⟩
  self := fun A i s Q E st h => wpAny_pyIter_zip st.1 h
theorem sep_new (n : Addr) : ZipSep2 (n + 4) (n + 2) (n + 3) n (n + 1) [n] [n + 1] := by
  constructor <;> simp <;> omega
def iZipX (ta : TA) : TI := fun σ H R => ta σ H fun vs H1 => ∃ x y : Str, vs = [.str x, .str y] ∧ R (Itx x y) H1
theorem pi_zipX {X : Cx} {e e2 : Expr} {ta : TA} {p pos tpos : Pos} {elts : List Expr} {kk : Nat} (hg : Gl X "zip") (hm : X.mg "zip" = none) (ha : PA X [e, e2] ta)
    (hs : starEach [e, e2] X.env = (false, eval e X.env) :: starEach [e2] X.env := by rfl) (hpl : (backTo pos (starEach [e2] X.env)).any (·.1) = false := by rfl) :
    PI X (.Tuple elts kk tpos) (.Call (.Name "zip" p) [e, e2] [] pos) (iZipX ta) := by
  refine ⟨fun pins s σ H R I h => ?_⟩
  refine Call_ (ld_blt I hg hm PyProof.Rows.boot_zip (PyProof.Rows.callWith_type1 (thn (ha.run pos pins s σ H _ I h) fun us s1 ⟨vs, H1, I1, r1, q1⟩ => ?_) hs hpl))
  obtain ⟨x, y, ex, q⟩ := q1
  subst ex
  cases r1 with
  | cons r rr =>
    cases rr with
    | cons r' rr =>
      cases rr
      obtain ⟨t, rfl⟩ := r
      obtain ⟨u, rfl⟩ := r'
      refine zip_begins2 (begins_text x t) (begins_text y u) trivial trivial fun h' hz hTI hTO h1 h2 hsz hk => wpAny_pyIter_zip hz ?_
      have I2 : Inv X pins σ H1 { s1 with heap := h' } := I1.kept (t' := s1.toks) hk
      refine ⟨s1.heap.objs.size + 4, [s1.heap.objs.size + 4, s1.heap.objs.size + 2, s1.heap.objs.size + 3, s1.heap.objs.size, s1.heap.objs.size + 1], _, _, H1, rfl, I2, turn_zipX (sep_new s1.heap.objs.size), ⟨hz, hTI, ⟨_, _, hTO⟩, ⟨_, h1, rfl, rfl⟩, ⟨_, h2, rfl, rfl⟩⟩, fun c hcm => ?_, q⟩
      have e' : c = s1.heap.objs.size + 4 ∨ c = s1.heap.objs.size + 2 ∨ c = s1.heap.objs.size + 3 ∨ c = s1.heap.objs.size ∨ c = s1.heap.objs.size + 1 := by simpa using hcm
      have hle : s1.heap.objs.size ≤ c := by
        rcases e' with z | z | z | z | z
        · rw [z]; exact Nat.le_add_right _ _
        · rw [z]; exact Nat.le_add_right _ _
        · rw [z]; exact Nat.le_add_right _ _
        · rw [z]; exact Nat.le_refl _
        · rw [z]; exact Nat.le_add_right _ _
      exact I1.fpOk hle (I1.hok.fresh hle)
theorem walk_zipX {x y : Str} : Walk (Itx x y) (min x.cps.size y.cps.size) (fun _ => True) (Itx x y).yld :=
  ⟨fun i _ hi _ => ⟨by omega, by omega⟩, fun _ _ => rfl, fun _ _ _ _ _ _ y => y⟩
end ZX
/-! dicts whose keys are tuples at any depth (to eight): of numbers, texts, None and such tuples -/
namespace ND
open PySem PySem.Spec PyProof.Rows L2
set_option autoImplicit false
/-! ### keys -/
mutual
inductive NK (K : PySem.W.Frag) (H : Hp) : NestedKey → V → Prop
  | none : NK K H .none .non
  | num (i : Int) : NK K H (.num i) (.int i)
  | text (x : Str) : NK K H (.text x) (.str x)
  | tup {a : Addr} {vs : List V} {ks : List NestedKey} : SqT K H a vs → NKs K H ks vs → NK K H (.tup ks) (.ref a)
inductive NKs (K : PySem.W.Frag) (H : Hp) : List NestedKey → List V → Prop
  | nil : NKs K H [] []
  | cons {k : NestedKey} {v : V} {ks : List NestedKey} {vs : List V} : NK K H k v → NKs K H ks vs → NKs K H (k :: ks) (v :: vs)
end
mutual
theorem NK.mono {K : PySem.W.Frag} {H H' : Hp} (m : ∀ b xs, SqT K H b xs → SqT K H' b xs) : ∀ (k : NestedKey) (v : V), NK K H k v → NK K H' k v
  | .none, _, h => by cases h; exact .none
  | .num i, _, h => by cases h; exact .num i
  | .text x, _, h => by cases h; exact .text x
  | .tup ks, _, h => by
    cases h with
    | tup q r => exact .tup (m _ _ q) (NKs.mono m ks _ r)
theorem NKs.mono {K : PySem.W.Frag} {H H' : Hp} (m : ∀ b xs, SqT K H b xs → SqT K H' b xs) : ∀ (ks : List NestedKey) (vs : List V), NKs K H ks vs → NKs K H' ks vs
  | [], _, h => by cases h; exact .nil
  | k :: ks, _, h => by
    cases h with
    | cons a r => exact .cons (NK.mono m k _ a) (NKs.mono m ks _ r)
end
section
variable {X : Cx} {pins : List (Addr × Obj)} {σ : L2.St} {H : Hp} {s : Shared}
mutual
theorem nk_is (I : Inv X pins σ H s) : ∀ (k : NestedKey) (v : V) (u : Value), NK X.K H k v → RelV v u → NestedIs s.heap k u
  | .none, _, u, h, r => by
    cases h
    obtain rfl : u = Value.none := r
    exact .none
  | .num i, _, u, h, r => by
    cases h
    obtain ⟨t, rfl⟩ : ∃ t, u = Value.int i t := r
    exact .int i t
  | .text x, _, u, h, r => by
    cases h
    obtain ⟨t, rfl⟩ : ∃ t, u = Value.str x t := r
    exact .text x t
  | .tup ks, _, u, h, r => by
    cases h with
    | @tup a vs _ q rest =>
      obtain rfl : u = Value.ref a := r
      obtain ⟨its, rv, ⟨o, ho, hc, n, hd⟩, _⟩ := I.tuple q
      exact .tup ho hc hd (by simpa using nks_is I ks vs its rest rv)
theorem nks_is (I : Inv X pins σ H s) : ∀ (ks : List NestedKey) (vs : List V) (us : List Value), NKs X.K H ks vs → Vals vs us → NestedAll s.heap ks us
  | [], _, us, h, r => by
    cases h
    cases r
    exact .nil
  | k :: ks, _, us, h, r => by
    cases h with
    | cons a rest =>
      cases r with
      | cons ra rr => exact .cons (nk_is I k _ _ a ra) (nks_is I ks _ _ rest rr)
end
end
/-! ### the dict -/
abbrev Ent : Type := NestedKey × Addr × V
abbrev Raw : Type := NestedKey × Addr × Value
def KN : List Ent → List Raw → Prop := Paired fun (p : Ent) (q : Raw) => p.1 = q.1 ∧ p.2.1 = q.2.1 ∧ RelV p.2.2 q.2.2
def DO (P : Program) (w : World) (d : Addr) (kvs : List Ent) : HO := .ext fun h => (d == sysModules) = false ∧ kvs.length ≤ sizeLine ∧ ∃ xs : List Raw, KN kvs xs ∧
  ∃ (o : Obj) (es : Array DictEntry) (ep : Nat), h.get? d = some o ∧ o.ExactDict ∧ o.data = .dict es ep ∧ es.toList = xs.map (entryOfKey (nestedKind P w)) ∧ (xs.map (·.1)).Nodup
def KOks (K : PySem.W.Frag) (H : Hp) (kvs : List Ent) : Prop := ∀ p ∈ kvs, NK K H p.1 (.ref p.2.1) ∧ p.1.depth ≤ 8
theorem KOks.mono {K : PySem.W.Frag} {H H' : Hp} {kvs : List Ent} (h : KOks K H kvs) (m : ∀ b xs, SqT K H b xs → SqT K H' b xs) : KOks K H' kvs := fun p hp => ⟨NK.mono m _ _ (h p hp).1, (h p hp).2⟩
def valN (kvs : List Ent) (k : NestedKey) : Option V := (kvs.find? fun p => decide (p.1 = k)).map (·.2.2)
def setN (k : NestedKey) (v : V) (p : Ent) : Ent := if p.1 = k then (p.1, p.2.1, v) else p
def putN (kvs : List Ent) (k : NestedKey) (b : Addr) (v : V) : List Ent := if (valN kvs k).isSome = true then kvs.map (setN k v) else kvs ++ [(k, b, v)]
theorem KN.len : ∀ {kvs : List Ent} {xs : List Raw}, KN kvs xs → kvs.length = xs.length
  | _, _, .nil => rfl
  | _, _, .cons _ r => by rw [List.length_cons, List.length_cons, KN.len r]
theorem KN.val {k : NestedKey} : ∀ {kvs : List Ent} {xs : List Raw}, KN kvs xs → RelO (valN kvs k) ((atKey xs k).map (·.2))
  | _, _, .nil => by exact True.intro
  | _, _, @Paired.cons _ _ _ p q ps qs h r => by
    have ih := KN.val (k := k) r
    unfold valN atKey at ih ⊢
    by_cases c : p.1 = k
    · rw [List.find?_cons_of_pos (by exact decide_eq_true c), List.find?_cons_of_pos (by rw [← h.1]; exact decide_eq_true c)]
      exact h.2.2
    · rw [List.find?_cons_of_neg (by simpa using c), List.find?_cons_of_neg (by rw [← h.1]; simpa using c)]
      exact ih
theorem KN.rep {k : NestedKey} {v : V} {r : Value} (rv : RelV v r) : ∀ {kvs : List Ent} {xs : List Raw}, KN kvs xs → KN (kvs.map (setN k v)) (xs.map (putAt k r))
  | _, _, .nil => .nil
  | _, _, @Paired.cons _ _ _ p q ps qs h t => by
    refine .cons ?_ (KN.rep rv t)
    unfold setN putAt
    by_cases c : p.1 = k
    · rw [if_pos c, if_pos (by rw [← h.1]; exact c)]
      exact ⟨h.1, h.2.1, rv⟩
    · rw [if_neg c, if_neg (by rw [← h.1]; exact c)]
      exact h
theorem KN.snoc {p : Ent} {q : Raw} (h : p.1 = q.1 ∧ p.2.1 = q.2.1 ∧ RelV p.2.2 q.2.2) : ∀ {kvs : List Ent} {xs : List Raw}, KN kvs xs → KN (kvs ++ [p]) (xs ++ [q])
  | _, _, .nil => .cons h .nil
  | _, _, .cons a r => .cons a (KN.snoc h r)
theorem KN.put {k : NestedKey} {b : Addr} {v : V} {r : Value} (rv : RelV v r) {kvs : List Ent} {xs : List Raw} (h : KN kvs xs) : KN (putN kvs k b v) (storedH xs k b r) := by
  have e := (KN.val (k := k) h).isSome_eq
  rw [Option.isSome_map] at e
  unfold putN storedH
  rw [e]
  by_cases q : (atKey xs k).isSome = true
  · rw [if_pos q, if_pos q]
    exact h.rep rv
  · rw [if_neg q, if_neg q]
    exact h.snoc ⟨rfl, rfl, rv⟩
theorem putN_len (kvs : List Ent) (k : NestedKey) (b : Addr) (v : V) : (putN kvs k b v).length ≤ kvs.length + 1 := by
  unfold putN
  split
  · rw [List.length_map]
    omega
  · rw [List.length_append]
    exact Nat.le_refl _
theorem putN_ok {K : PySem.W.Frag} {H : Hp} {kvs : List Ent} {k : NestedKey} {b : Addr} {v : V} (h : KOks K H kvs) (hk : NK K H k (.ref b)) (hd : k.depth ≤ 8) : KOks K H (putN kvs k b v) := by
  unfold putN
  split
  · intro p hp
    obtain ⟨q, hq, rfl⟩ := List.mem_map.mp hp
    unfold setN
    split
    · exact h q hq
    · exact h q hq
  · intro p hp
    rcases List.mem_append.mp hp with q | q
    · exact h p q
    · rw [List.mem_singleton.mp q]
      exact ⟨hk, hd⟩
theorem do_new {P : Program} {w : World} {H : Hp} {h : Heap} {d : Addr} {kvs : List Ent} {xs : List Raw} (hs : (d == sysModules) = false) (hl : kvs.length ≤ sizeLine) (r : KN kvs xs) (dd : h.DictOfH (nestedKind P w) d xs) : ObjOk P w H h d (DO P w d kvs) := by
  obtain ⟨o, es, ep, h1, h2, h3, h4, _, h5⟩ := dd
  refine ⟨⟨hs, hl, xs, r, o, es, ep, h1, h2, h3, h4, h5⟩, ⟨o, h1⟩, ?_⟩
  rintro g1 g2 ⟨hs, hl, xs, r, o, es, ep, h1, h2⟩ kk
  exact ⟨hs, hl, xs, r, o, es, ep, kk o h1, h2⟩
section
variable {X : Cx} {pins : List (Addr × Obj)} {σ : L2.St} {H : Hp} {s : Shared} {d b : Addr} {kvs : List Ent} {k : NestedKey} {A : Around} {E : Value → Shared → Prop}
theorem do_at (I : Inv X pins σ H s) (e : Rd H d (DO X.prog X.w d kvs)) (ko : KOks X.K H kvs) : (d == sysModules) = false ∧ kvs.length ≤ sizeLine ∧ ∃ xs : List Raw, KN kvs xs ∧ s.heap.DictOfH (nestedKind X.prog X.w) d xs := by
  obtain ⟨⟨hs, hl, xs, r, o, es, ep, h1, h2, h3, h4, h5⟩, _, _⟩ := e.ok I.hok
  refine ⟨hs, hl, xs, r, o, es, ep, h1, h2, h3, h4, ?_, h5⟩
  have all : ∀ {l : List Ent} {m : List Raw}, KN l m → KOks X.K H l → ∀ x ∈ m, (nestedKind X.prog X.w).is s.heap x.1 x.2.1 := by
    intro l m q
    induction q with
    | nil => intro _ x hx; exact nomatch hx
    | @cons p q ps qs hq t ih =>
      intro ok x hx
      rcases List.mem_cons.mp hx with z | z
      · subst z
        obtain ⟨h1, h2⟩ := ok p List.mem_cons_self
        refine ⟨?_, by rw [← hq.1]; exact h2⟩
        rw [← hq.1, ← hq.2.1]
        exact nk_is I _ _ _ h1 rfl
      · exact ih (fun p hp => ok p (List.mem_cons_of_mem _ hp)) x z
  exact all r ko
theorem key_at (I : Inv X pins σ H s) (hk : NK X.K H k (.ref b)) (hd : k.depth ≤ 8) : (nestedKind X.prog X.w).is s.heap k b := ⟨nk_is I _ _ _ hk rfl, hd⟩
theorem room_at (hu : A.units + 9 < cLine) : (nestedKind X.prog X.w).room A.in1 := by
  show A.in1.units + 8 < cLine
  have : A.in1.units ≤ A.units + 1 := by first | exact Nat.le_refl _ | (unfold Around.in1; simp)
  omega
end
/-! ### rules -/
/-- {} -/
def tNewN (P : Program) (w : World) : TE := fun _ H Q => ∀ p, H p = none → Q (.ref p) (upd H p (DO P w p []))
theorem pe_dnewN {X : Cx} {pos : Pos} : PE X (.Dict [] [] pos) (tNewN X.prog X.w) := ⟨fun pins s σ H Q I h => by
  refine wpAny_Dict_empty ⟨.ref s.heap.objs.size, upd H s.heap.objs.size (DO X.prog X.w s.heap.objs.size []), ?_, rfl, h _ (I.hok.fresh (Nat.le_refl _))⟩
  refine I.laid (t' := s.toks) (fun _ _ q => Heap.get?_push_of_some _ q) (Nat.le_refl _) ?_
  exact do_new (xs := []) (beq_eq_false_iff_ne.mpr (Ne.symm (Nat.ne_of_lt I.big))) (Nat.zero_le _) .nil (Heap.DictOfH.new s.heap)⟩
/-- what is asked of a dict and a key -/
structure At (X : Cx) (H : Hp) (d b : Addr) (kvs : List Ent) (k : NestedKey) : Prop where
  dic : Rd H d (DO X.prog X.w d kvs)
  oks : KOks X.K H kvs
  key : NK X.K H k (.ref b)
  dep : k.depth ≤ 8
section
variable {X : Cx} {o i value e f : Expr} {td ty tv tx : TE} {pos pos' apos cpos : Pos}
def tGetN (X : Cx) (td ty : TE) : TE := fun σ H Q => td σ H fun x H1 => ty σ H1 fun y H2 => ∃ (d b : Addr) (kvs : List Ent) (k : NestedKey) (v : V), x = .ref d ∧ y = .ref b ∧ At X H2 d b kvs k ∧ valN kvs k = some v ∧ Q v H2
theorem pe_dgetN (hu : X.A.units + 9 < cLine) (ho : PE X o td) (hi : PE X i ty) (hs : NoSl i) : PE X (.Subscript o i pos) (tGetN X td ty) := by
  refine ⟨fun pins s σ H Q I h => ?_⟩
  refine subD_of PySem.F.slot_dict_getitem.lookup hs (thn (ho.run pins s σ H _ I h) fun u s1 ⟨x, H1, I1, rx, q1⟩ => thn (hi.run pins s1 σ H1 _ I1 q1) fun iv s2 ⟨y, H2, I2, ry, d, b, kvs, k, v, ex, ey, g, hv, q2⟩ => ?_)
  subst ex ey
  obtain rfl : u = Value.ref d := rx
  obtain rfl : iv = Value.ref b := ry
  obtain ⟨_, _, xs, r, dd⟩ := do_at I2 g.dic g.oks
  obtain ⟨w', hw, rw'⟩ := RelO.some_of (v := v) (o := (atKey xs k).map (·.2)) (by rw [← hv]; exact r.val)
  obtain ⟨p, hp, hp2⟩ := Option.map_eq_some_iff.mp hw
  refine ⟨dd.typeIs, wpAny_getItem_heap (room_at hu) (key_at I2 g.key g.dep) dd hp ?_⟩
  rw [hp2]
  exact ⟨v, H2, I2.tok _, rw', q2⟩
def rInN (X : Cx) (neg : Bool) : R2 := fun y x H Q => ∃ (d b : Addr) (kvs : List Ent) (k : NestedKey), x = .ref d ∧ y = .ref b ∧ At X H d b kvs k ∧ Q (.bl (if neg = true then !(valN kvs k).isSome else (valN kvs k).isSome)) H
theorem op_inN (hu : X.A.units + 9 < cLine) : OpR X (compareOp .In) (rInN X false) := by
  intro pins s σ H y x iv u Q I ry rx h
  obtain ⟨d, b, kvs, k, ex, ey, g, q⟩ := h
  subst ex ey
  obtain rfl : u = Value.ref d := rx
  obtain rfl : iv = Value.ref b := ry
  obtain ⟨hs, _, xs, r, dd⟩ := do_at I g.dic g.oks
  refine wpAny_in_heap (room_at hu) (key_at I g.key g.dep) hs dd ?_
  have z := (KN.val (k := k) r).isSome_eq
  rw [Option.isSome_map] at z
  exact ⟨.bl (valN kvs k).isSome, H, I.tok _, by rw [z]; rfl, q⟩
theorem op_notInN (hu : X.A.units + 9 < cLine) : OpR X (compareOp .NotIn) (rInN X true) := by
  intro pins s σ H y x iv u Q I ry rx h
  obtain ⟨d, b, kvs, k, ex, ey, g, q⟩ := h
  subst ex ey
  obtain rfl : u = Value.ref d := rx
  obtain rfl : iv = Value.ref b := ry
  obtain ⟨hs, _, xs, r, dd⟩ := do_at I g.dic g.oks
  refine wpAny_notIn_heap (room_at hu) (key_at I g.key g.dep) hs dd ?_
  have z := (KN.val (k := k) r).isSome_eq
  rw [Option.isSome_map] at z
  exact ⟨.bl (!(valN kvs k).isSome), H, I.tok _, by rw [z]; rfl, q⟩
def sPutN (X : Cx) (td ty tv : TE) : TS := fun D σ H => tv σ H fun v H1 => td σ H1 fun x H2 => ty σ H2 fun y H3 => ∃ (d b : Addr) (kvs : List Ent) (k : NestedKey), x = .ref d ∧ y = .ref b ∧ H3 d = some (DO X.prog X.w d kvs) ∧ KOks X.K H3 kvs ∧ NK X.K H3 k (.ref b) ∧ k.depth ≤ 8 ∧ kvs.length < sizeLine ∧
  D.nx σ (upd H3 d (DO X.prog X.w d (putN kvs k b v)))
theorem ps_dputN (hu : X.A.units + 9 < cLine) (ho : PE X o td) (hi : PE X i ty) (hv : PE X value tv) (hs : swapsWith value (some (.Subscript o i pos')) pos.line X.env = pure false) : PS X (.Assign [.Subscript o i pos'] value pos) (sPutN X td ty tv) := by
  refine ⟨fun pins s σ H D I h => ?_⟩
  refine wpAny_Assign_Subscript (thn (hv.run pins s σ H _ I h) fun r s1 ⟨v, H1, I1, rv, q1⟩ => thn (ho.run pins s1 σ H1 _ I1 q1) fun u s2 ⟨x, H2, I2, rx, q2⟩ => thn (hi.run pins s2 σ H2 _ I2 q2) fun iv s3 ⟨y, H3, I3, ry, d, b, kvs, k, ex, ey, hd, ok, hk, dp, hl, q3⟩ => ?_) hs
  subst ex ey
  obtain rfl : u = Value.ref d := rx
  obtain rfl : iv = Value.ref b := ry
  obtain ⟨h1, _, xs, rel, dd⟩ := do_at I3 (.inl hd) ok
  have hz : xs.length ≤ sizeLine := by
    rw [← rel.len]
    omega
  refine wpAny_setItem_heap (hsz := hz) (room_at hu) (key_at I3 hk dp) dd fun h' dd' same => ⟨σ, _, ?_, q3⟩
  have pl := putN_len kvs k b v
  have he : ∃ q, h'.get? d = some q := by
    obtain ⟨q, _, _, hq, _⟩ := dd'
    exact ⟨q, hq⟩
  exact d_write I3 (by rw [hd]; exact True.intro) same he (do_new h1 (by omega) (rel.put rv) dd')
def tSetdN (X : Cx) (td ty tx : TE) : TE := fun σ H Q => td σ H fun x H1 => ∃ d kvs0, x = .ref d ∧ H1 d = some (DO X.prog X.w d kvs0) ∧ KOks X.K H1 kvs0 ∧ ty σ H1 fun y H2 => tx σ H2 fun z H3 => ∃ (b : Addr) (kvs : List Ent) (k : NestedKey), y = .ref b ∧
  H3 d = some (DO X.prog X.w d kvs) ∧ KOks X.K H3 kvs ∧ NK X.K H3 k (.ref b) ∧ k.depth ≤ 8 ∧ kvs.length < sizeLine ∧ (∀ v, valN kvs k = some v → Q v H3) ∧ (valN kvs k = none → Q z (upd H3 d (DO X.prog X.w d (putN kvs k b z))))
theorem pe_dsetdN (hu : X.A.units + 9 < cLine) (ho : PE X o td) (he : PE X e ty) (hf : PE X f tx) (m : M2 X o "setdefault" apos e f cpos) : PE X (.Call (.Attribute o "setdefault" apos) [e, f] [] cpos) (tSetdN X td ty tx) := by
  refine ⟨fun pins s σ H Q I h => ?_⟩
  refine wpAny_Call_method m.base m.few m.line PySem.F.plainAttrs_dict PySem.F.slot_dict_setdefault PySem.F.type_dict_setdefault (thn (ho.run pins s σ H _ I h) fun u s1 ⟨x, H1, I1, rx, d, kvs0, ex, hd0, ok0, q1⟩ => ?_)
  subst ex
  obtain rfl : u = Value.ref d := rx
  obtain ⟨_, _, xs0, _, dd0⟩ := do_at I1 (.inl hd0) ok0
  refine ⟨dd0.typeIs, fun b0 q => ?_, ?_⟩
  · cases q
    obtain ⟨o0, _, _, z1, z2, _⟩ := dd0
    exact ⟨o0, z1, z2.2.1⟩
  rw [m.trees]
  refine Calls.callWith_builtin rfl (Calls.evalArgs_plain (Calls.spliced_cons (thn (he.run pins s1 σ H1 _ I1 q1) fun iv s2 ⟨y, H2, I2, ry, q2⟩ =>
    Calls.spliced_cons (thn (hf.run pins s2 σ H2 _ I2 q2) fun fv s3 ⟨z, H3, I3, rz, b, kvs, k, ey, hd, ok, hk, dp, hl, q3, q4⟩ => Calls.spliced_nil ?_))))
  subst ey
  obtain rfl : iv = Value.ref b := ry
  obtain ⟨h1, _, xs, rel, dd⟩ := do_at I3 (.inl hd) ok
  have hz : xs.length ≤ sizeLine := by
    rw [← rel.len]
    omega
  have rv := KN.val (k := k) rel
  refine call_setdefault_heap (hsz := hz) (room_at hu) (key_at I3 hk dp) h1 dd (fun p hp => ?_) fun hn h' dd' same => ?_
  · rw [hp] at rv
    cases hval : valN kvs k with
    | none => rw [hval] at rv; exact rv.elim
    | some v =>
      rw [hval] at rv
      exact ⟨v, H3, I3.tok _, rv, q3 v hval⟩
  · have hval : valN kvs k = none := by
      rw [hn] at rv
      cases hval : valN kvs k with
      | none => rfl
      | some v => rw [hval] at rv; exact rv.elim
    have pl := putN_len kvs k b z
    have he : ∃ q, h'.get? d = some q := by
      obtain ⟨q, _, _, hq, _⟩ := dd'
      exact ⟨q, hq⟩
    exact ⟨z, _, d_write I3 (by rw [hd]; exact True.intro) same he (do_new h1 (by omega) (rel.put rz) dd'), rz, q4 hval⟩
end
end ND
namespace ND
open PySem PySem.Spec PyProof.Rows L2
set_option autoImplicit false
/-! ### walking over the keys -/
/-- the keys of the locked dict, in their order: each its own tuple -/
def ItN (P : Program) (w : World) (d : Addr) (ob : Obj) (kvs : List Ent) : L2.It :=
  ⟨fun n H => H d = some (.frz ob (DO P w d kvs)) ∧ n < kvs.length, fun n H x H' => H' = H ∧ ∃ p, kvs[n]? = some p ∧ x = .ref p.2.1, fun n H => H d = some (.frz ob (DO P w d kvs)) ∧ kvs.length ≤ n⟩
theorem KN.get : ∀ {kvs : List Ent} {xs : List Raw}, KN kvs xs → ∀ (n : Nat) (p : Ent), kvs[n]? = some p → ∃ q, xs[n]? = some q ∧ p.1 = q.1 ∧ p.2.1 = q.2.1 ∧ RelV p.2.2 q.2.2
  | _, _, .nil, n, p, h => by simp at h
  | _, _, .cons a r, 0, p, h => by
    have e := Option.some.inj h
    subst e
    exact ⟨_, rfl, a⟩
  | _, _, .cons a r, n + 1, p, h => KN.get r n p h
theorem locked_at {X : Cx} {pins : List (Addr × Obj)} {σ : L2.St} {H : Hp} {s : Shared} {d : Addr} {ob : Obj} {kvs : List Ent} (I : Inv X pins σ H s) (h : H d = some (.frz ob (DO X.prog X.w d kvs))) :
    (d == sysModules) = false ∧ s.heap.get? d = some ob ∧ ob.ExactDict ∧ ∃ (es : Array DictEntry) (ep : Nat), ob.data = .dict es ep ∧ es.size = kvs.length ∧
      ∀ (n : Nat) (p : Ent), kvs[n]? = some p → ∃ en : DictEntry, es[n]? = some en ∧ en.key = .ref p.2.1 := by
  obtain ⟨at1, ⟨hs, _, xs, rel, o1, es, ep, at2, ex, dt, he, _⟩, _⟩ := I.hok d _ h
  rw [at1] at at2
  cases at2
  refine ⟨hs, at1, ex, es, ep, dt, ?_, fun n p hp => ?_⟩
  · rw [size_of_entries he, rel.len]
  · obtain ⟨q, hq, _, e2, _⟩ := KN.get rel n p hp
    have z := entry_at he n
    rw [hq] at z
    exact ⟨_, z, by rw [e2]; rfl⟩
theorem same_data {ob : Obj} {es es' : Array DictEntry} {ep ep' : Nat} (h : ob.data = .dict es ep) (h' : ob.data = .dict es' ep') : es' = es ∧ ep' = ep := by
  rw [h'] at h
  cases h
  exact ⟨rfl, rfl⟩
theorem turn_keysN {P : Program} {w : World} {K : PySem.W.Frag} {tg : Expr} {d : Addr} {ob : Obj} {es : Array DictEntry} {ep : Nat} {kvs : List Ent} (itr : Addr) (hob : ob.data = .dict es ep) : Turn P w K tg (ItN P w d ob kvs) [itr] itr (fun n h => h.IsKeyIter itr d n kvs.length ep) where
  mem := by simp
  obj := fun n h st b hb => by
    obtain rfl : b = itr := by simpa using hb
    obtain ⟨oi, z, _, dd⟩ := st
    exact ⟨oi, z, fun v q => by rw [dd] at q; cases q⟩
  keep := fun n h h' st kk => st.at fun oi z => kk itr (by simp) oi z
  item := by
    intro X hP hw hK hc n pins s σ H E I hf st hg
    subst hP hw hK
    obtain ⟨hd, hn⟩ := hg
    obtain ⟨g0, g1, g2, g3, g4, g5⟩ := hf itr (by simp)
    obtain ⟨_, atd, _, es', ep', dt', sz, ent⟩ := locked_at I hd
    obtain ⟨rfl, rfl⟩ := same_data hob dt'
    have hp : kvs[n]? = some kvs[n] := List.getElem?_eq_getElem hn
    obtain ⟨en, hen, hkey⟩ := ent n _ hp
    refine next_key_item st atd dt' sz hen fun h' st' sb => ?_
    have J : Inv X pins σ H { s with heap := h' } := I.turned (t' := s.toks) (fun b u hb z => (sb.2 b hb).trans z) g0 g1 g3 g4 g5
    obtain ⟨oi, z, cc, dd⟩ := id st'
    refine ⟨en.key, rfl, go_of (s := { s with heap := h' }) z cc dd (by decide) ⟨.ref kvs[n].2.1, H, J, hkey, ⟨rfl, kvs[n], hp, rfl⟩, st', fun b hb => (hf b hb).1⟩⟩
  done := by
    intro X hP hw hK hc n pins s σ H E I hf st hg
    subst hP hw hK
    obtain ⟨hd, hn⟩ := hg
    obtain ⟨g0, g1, g2, g3, g4, g5⟩ := hf itr (by simp)
    obtain ⟨_, atd, _, es', ep', dt', sz, ent⟩ := locked_at I hd
    obtain ⟨rfl, rfl⟩ := same_data hob dt'
    exact next_key_end (I.ok.hd hc) st atd dt' sz hn fun h' eb => ⟨rfl, I.turned (t' := s.toks) (fun b u hb z => eb b u hb z) g0 g1 g3 g4 g5⟩
  self := fun A n s Q E st h => by
    refine wpAny_pyIter_slot st.typeIs PySem.F.slot_dict_keyiterator_iter (wpAny_call_entry PySem.F.slot_dict_keyiterator_iter st.typeIs PySem.F.entry_dict_keyiterator_iter ?_ (PySem.F.args_dict_keyiterator_iter_1 _))
    show wpAny _ _ (ret (.ref itr)) _ _ s
    exact wpAny_pure ⟨_, rfl, "dict_keyiterator", _, st.typeIs, PySem.F.slot_dict_keyiterator_next.lookup, h⟩
def iKeysN (X : Cx) (td : TE) : TI := fun σ H R => td σ H fun x H1 => ∃ (d : Addr) (ob : Obj) (kvs : List Ent), x = .ref d ∧ H1 d = some (.frz ob (DO X.prog X.w d kvs)) ∧ R (ItN X.prog X.w d ob kvs) H1
theorem pi_keysN {X : Cx} {tg e : Expr} {td : TE} (he : PE X e td) : PI X tg e (iKeysN X td) := by
  refine ⟨fun pins s σ H R I h => ?_⟩
  refine thn (he.run pins s σ H _ I h) fun u s1 ⟨x, H1, J, rx, d, ob, kvs, ex, hd, q⟩ => ?_
  subst ex
  obtain rfl : u = Value.ref d := rx
  obtain ⟨hs, atd, exd, es, ep, dt, sz, _⟩ := locked_at J hd
  refine iter_keys hs atd exd dt (pi_one (tk := s1.toks) J _ (turn_keysN _ dt) ⟨_, Heap.get?_push_size _ rfl, rfl, ?_⟩ q)
  rw [sz] <;> rfl
theorem walk_keysN {P : Program} {w : World} {d : Addr} {ob : Obj} {kvs : List Ent} : Walk (ItN P w d ob kvs) kvs.length (fun H => H d = some (.frz ob (DO P w d kvs))) (fun n H x H' => H' = H ∧ ∃ p, kvs[n]? = some p ∧ x = .ref p.2.1) :=
  ⟨fun _ _ hn q => ⟨q, hn⟩, fun _ q => ⟨q, Nat.le_refl _⟩, fun _ _ _ _ _ _ y => y⟩
end ND
/-! sorted(xs, key=f): f a def of the program whose promise gives a text and leaves all as it was -/
namespace SK
open PySem PySem.Spec PyProof.Rows L2 PySem.W
set_option autoImplicit false
def leG (g : V → Str) : V → V → Bool := dataLe false fun x => PyData.str (g x)
def Rx (u : Value) (x : V) : Prop := RelV x u
theorem each_vals : ∀ {xs : List V} {us : List Value}, Vals xs us → EachIs Rx us xs
  | _, _, .nil => .nil
  | _, _, .cons h r => .cons h (each_vals r)
theorem vals_each : ∀ {xs : List V} {us : List Value}, EachIs Rx us xs → Vals xs us
  | _, _, .nil => .nil
  | _, _, .cons h r => .cons h (vals_each r)
theorem nf {a q : Addr} {n : Nat} (h1 : a < n) (h2 : n ≤ q) : q ≠ a := fun e => absurd (Nat.lt_of_lt_of_le h1 h2) (by rw [e]; exact Nat.lt_irrefl _)
structure Fresh (X : Cx) (pins : List (Addr × Obj)) (H : Hp) (q : Addr) : Prop where
  non : H q = none
  loc : q ≠ X.env.locals
  fs : q ∉ X.fs
  new : X.s_0.heap.objs.size ≤ q
  cel : ∀ x c, X.env.cells.lookup x = some c → c ≠ q
  pin : ∀ p ∈ X.pn ++ pins, p.1 ≠ q
section
variable {X : Cx} {pins : List (Addr × Obj)} {σ : L2.St} {H : Hp} {s : Shared}
theorem fresh_of (I : Inv X pins σ H s) {q : Addr} (h : s.heap.objs.size ≤ q) : Fresh X pins H q where
  non := I.hok.fresh h
  loc := nf I.lt h
  fs := I.nofs h
  new := Nat.le_trans I.sz h
  cel := fun x c hc => by
    obtain ⟨v, o, ho, _⟩ := I.cell x c hc
    exact (nf (Heap.lt_size ho) h).symm
  pin := fun p hp => (nf (Heap.lt_size (I.pin p hp).1) h).symm
/-- the key store of the sort: pinned with what it holds; the list itself: tracked to the object -/
def here (a : Addr) (o : Obj) : HO := .ext fun h => h.get? a = some o
theorem here_ok {P : Program} {w : World} {h : Heap} {a : Addr} {o : Obj} (e : h.get? a = some o) : ObjOk P w H h a (here a o) := ⟨e, ⟨o, e⟩, fun _ _ z k => k o z⟩
theorem here_at {P : Program} {w : World} {h : Heap} {a : Addr} {o : Obj} (x : HOk P w H h) (e : H a = some (here a o)) : h.get? a = some o := (x a _ e).1
theorem seq_list {vs : Array Value} {n : Nat} : (seqObj "list" vs n) = ({ cls := .type "list", data := .seq vs n } : Obj) := rfl
theorem sort_core {a f : Addr} {fd : FuncData} {k tk0 : Nat} {pn : Str} {sp : Sp} {xs : List V} {vs : List Value} {g : V → Str} {hC : Heap} {Q : Value → Shared → Prop} {E' : Value → Shared → Prop} (I : Inv X pins σ H s) (keepC : ∀ b u, s.heap.get? b = some u → hC.get? b = some u) (ha : s.heap.objs.size ≤ a) (at0 : hC.get? a = some (seqObj "list" vs.toArray 0)) (rv : Vals xs vs) (hL : xs.length ≤ sizeLine)
    (F : FnOk X.prog X.w X.K X.mg X.base CX0 k f fd [pn] sp) (hr : Room (k + 2) X.A) (hb : Binds X.K fd [pn] []) (hu : X.A.units + 4 < cLine)
    (hsp : ∀ x ∈ xs, ∀ H', Same H H' → sp [x] H' (fun v H2 => v = .str (g x) ∧ Same H' H2) (fun _ _ _ => False))
    (fin : ∀ (H2 : Hp) (q : Addr) (s2 : Shared), Inv X pins σ H2 s2 → Same H H2 → H q = none → H2 q = some (.lst (xs.mergeSort (leG g))) → Q (.ref q) s2) :
    wpAny (model X.prog X.w) X.A.in1.in1 (Builtin.«list.sort» ⟨[.ref a], [(Str.ofString "key", .ref f)]⟩) (fun f s' => f = .done (.ret .none) ∧ Q (.ref a) s') E' { s with heap := hC, toks := tk0 } := by
  have vl : xs.length = vs.length := rv.length
  rw [ksk_t1]
  obtain ⟨e1, at1⟩ : ∃ e1, (hC.update a (Obj.mapSeq fun _ => (#[] : Array Value))).get? a = some (seqObj "list" #[] e1) := ⟨_, get?_update_seq at0 fun _ => #[]⟩
  generalize eh : hC.update a (Obj.mapSeq fun _ => (#[] : Array Value)) = hA at at1
  have keepA : ∀ b u, s.heap.get? b = some u → hA.get? b = some u := fun b u q => by
    rw [← eh, Heap.get?_update_ne _ _ _ _ (nf (Heap.lt_size q) ha).symm]
    exact keepC b u q
  unfold ksk_tree
  refine wpAny_bind (listItems_at (s := { s with heap := hC, toks := tk0 }) at0 rfl ?_)
  refine wpAny_bind (listUpdate_at (s := { s with heap := hC, toks := tk0 }) at0 rfl ?_ (by rw [List.size_toArray, ← vl]; exact hL) (Nat.zero_le _))
  show wpAny _ _ _ _ _ { s with toks := tk0, heap := hC.update a (Obj.mapSeq fun _ => (#[] : Array Value)) }
  rw [eh]
  refine wpAny_bind (seqEpoch_at (s := { s with heap := hA, toks := tk0 }) at1 rfl ?_)
  refine wpAny_bind (wpAny_newTuple ?_ (by show vs.length ≤ _; rw [← vl]; exact hL))
  refine wpAny_bind (wpAny_newList ?_ (Nat.zero_le _))
  refine wpAny_holding ?_
  -- the heap with the list emptied, the tuple laid
  generalize eT : hA.push (seqObj "tuple" vs.toArray 0) = hT
  have atT : hT.get? a = some (seqObj "list" #[] e1) := by
    rw [← eT]
    exact Heap.get?_push_of_some _ at1
  have I1 : Inv X pins σ (upd H a (here a (seqObj "list" #[] e1))) { s with heap := hT, toks := tk0 } := by
    refine I.laid (fun b u q => ?_) ha (here_ok atT)
    rw [← eT]
    exact Heap.get?_push_of_some _ (keepA b u q)
  have Ha : H a = none := I.hok.fresh ha
  have sm1 : Same H (upd H a (here a (seqObj "list" #[] e1))) := fun b o q => by
    rw [upd_ne (ne_of_none q Ha)]
    exact q
  generalize eH1 : upd H a (here a (seqObj "list" #[] e1)) = H1 at I1 sm1
  have H1a : H1 a = some (here a (seqObj "list" #[] e1)) := by
    rw [← eH1]
    exact upd_same
  have fr := fresh_of I1 (Nat.le_refl _)
  show wpAny _ _ (ksk_rest a (.ref f) false vs.toArray e1 (.ref hT.objs.size)) _ _ { s with heap := hT.push (seqObj "list" #[] 0), toks := tk0 }
  have hTs : hT.objs.size = ({ s with heap := hT, toks := tk0 } : Shared).heap.objs.size := rfl
  generalize eS : hT.objs.size = kS at fr ⊢
  have ka : kS ≠ a := nf (Heap.lt_size atT) (Nat.le_of_eq eS)
  have I2 : Inv X ((kS, seqObj "list" #[] 0) :: pins) σ H1 { s with heap := hT.push (seqObj "list" #[] 0), toks := tk0 } := by
    have J : Inv X pins σ H1 { s with heap := hT.push (seqObj "list" #[] 0), toks := tk0 } := I1.kept (t' := tk0) fun b u q => Heap.get?_push_of_some _ q
    refine J.pins_of fun p hp => ?_
    rcases List.mem_cons.mp hp with e | e
    · rw [e]
      refine ⟨?_, fr.non, fr.loc, fr.fs, fun v z => by cases z⟩
      rw [← eS]
      exact Heap.get?_push_size _ rfl
    · exact J.pin p (List.mem_append_right _ e)
  unfold ksk_rest
  refine wpAny_bind (wpAny_rule ?_)
  first
    | rw [List.forIn_toArray]
    | (rw [← Array.forIn_toList]; simp only [List.toList_toArray])
  refine wpAny_bind (ksk_fold (fun n s' => ∃ (Hn : Hp) (kA : Array Value) (e : Nat), Inv X ((kS, seqObj "list" kA e) :: pins) σ Hn s' ∧ Same H1 Hn ∧ Vals ((xs.take n).map fun x => V.str (g x)) kA.toList) vs 0 _ ⟨H1, #[], 0, I2, Same.refl _, .nil⟩ ?turn ?over)
  case turn =>
    rintro j u s' hj ⟨Hn, kA, e, J, sm, rk⟩
    simp only [Nat.zero_add] at rk ⊢
    have jl : j < vs.length := (List.getElem?_eq_some_iff.mp hj).1
    obtain ⟨x, hx, rx⟩ : ∃ x, xs[j]? = some x ∧ RelV x u := by
      have hx : xs[j]? = some (xs[j]'(by omega)) := List.getElem?_eq_getElem (by omega)
      obtain ⟨u', hu', ru'⟩ := rv.get hx
      rw [hj] at hu'
      cases hu'
      exact ⟨_, hx, ru'⟩
    have xm : x ∈ xs := List.mem_of_getElem? hx
    have hrun : wpAny (model X.prog X.w) X.A.in1.in1 (call (.ref f) [u]) (fun v s2 => EP X ((kS, seqObj "list" kA e) :: pins) σ (fun v H2 => v = .str (g x) ∧ Same Hn H2) v s2) (fun _ _ => False) s' := by
      have hr2 : Room k X.A.in1.in1 := (show Room (k + 1) X.A.in1 from Room.in1 hr).in1
      refine wpAny_call (codeAny_mono (F.run X.A.in1.in1 X.stack s' Hn ⟨[u], []⟩ [u] [x] (fun v H2 => v = .str (g x) ∧ Same Hn H2) (fun _ _ _ => False) hr2 J.env0.in1.in1 ?_ (.cons rx .nil) (hsp x xm Hn (sm1.trans sm))) fun r s2 hq => ?_)
      · have b1 := hb s' [u] J.kIn rfl
        rw [List.append_nil] at b1
        exact b1
      · cases r with
        | error er => exact (hq : False)
        | ok fl =>
          cases fl with
          | ret v => exact J.after hq
          | next => exact False.elim hq
          | brk => exact False.elim hq
          | cont => exact False.elim hq
    refine wpAny_bind (wpAny_attempt (wpAny_mono hrun (fun v s2 hv => ?_) fun _ _ z => z.elim))
    obtain ⟨y, H2, J2, ry, ey, sm2⟩ := hv
    subst ey
    have pk := J2.pin (kS, seqObj "list" kA e) (List.mem_append_right _ List.mem_cons_self)
    have kl : kA.size ≤ vs.length := by
      have q1 := rk.length
      rw [List.length_map, List.length_take] at q1
      have q2 : kA.toList.length = kA.size := Array.length_toList
      omega
    obtain ⟨c2, hc2⟩ : ∃ c2, (s2.heap.update kS (Obj.mapSeq (·.push v))).get? kS = some (seqObj "list" (kA.push v) c2) := ⟨_, get?_update_seq pk.1 (·.push v)⟩
    have sb := Heap.SameBut.update s2.heap kS (Obj.mapSeq (·.push v))
    try dsimp only
    refine wpAny_bind (listUpdate_at pk.1 rfl ?_ (by rw [← vl] at kl; omega) (by rw [Array.size_push, ← vl] at *; omega))
    refine wpAny_pure ⟨rfl, H2, kA.push v, c2, ?_, sm.trans sm2, ?_⟩
    · have J3 : Inv X pins σ H2 s2 := J2.pins_of fun p hp => J2.pin p (List.mem_append_right _ (List.mem_cons_of_mem _ hp))
      have J4 := J3.turned (t' := s2.toks) (h' := s2.heap.update kS (Obj.mapSeq (·.push v))) (it := kS) (fun b o hb q => (sb.2 b hb).trans q) pk.2.1 fr.loc (.inr fr.new) fr.cel fr.pin
      refine J4.pins_of fun p hp => ?_
      rcases List.mem_cons.mp hp with q | q
      · rw [q]
        exact ⟨hc2, pk.2.1, fr.loc, fr.fs, fun v z => by cases z⟩
      · exact J4.pin p (List.mem_append_right _ q)
    · rw [List.take_add_one, hx, List.map_append, Array.toList_push]
      exact rk.append (.cons ry .nil)
  case over =>
    rintro s' ⟨Hn, kA, e, J, sm, rk⟩
    simp only [Nat.zero_add] at rk
    rw [← vl, List.take_length] at rk
    have pk := J.pin (kS, seqObj "list" kA e) (List.mem_append_right _ List.mem_cons_self)
    have ata : s'.heap.get? a = some (seqObj "list" #[] e1) := here_at J.hok (sm _ _ H1a)
    have ksz : kA.size = vs.length := by
      have q1 := rk.length
      rw [List.length_map] at q1
      have q2 : kA.toList.length = kA.size := Array.length_toList
      omega
    have eachK : EachIs (fun v d => ∃ as, Reads s'.heap v d as) kA.toList (xs.map fun x => PyData.str (g x)) := by
      have gen : ∀ (ys : List V) (us : List Value), Vals (ys.map fun x => V.str (g x)) us → EachIs (fun v d => ∃ as, Reads s'.heap v d as) us (ys.map fun x => PyData.str (g x)) := by
        intro ys
        induction ys with
        | nil =>
          intro us r
          cases r
          exact .nil
        | cons y ys ih =>
          intro us r
          cases r with
          | cons ry rr =>
            obtain ⟨t, rfl⟩ := ry
            exact .cons ⟨[], .str _ _⟩ (ih _ rr)
      exact gen xs _ rk
    have alikeK : AllAlike (xs.map fun x => PyData.str (g x)) := by
      intro d hd d' hd'
      obtain ⟨b, _, rfl⟩ := List.mem_map.mp hd
      obtain ⟨c, _, rfl⟩ := List.mem_map.mp hd'
      simp [alike]
    have sortK : Sortable (xs.map fun x => PyData.str (g x)) := by
      refine .inr fun d hd => ?_
      obtain ⟨b, _, rfl⟩ := List.mem_map.mp hd
      exact ⟨by simp, fun ys => by simp⟩
    have unitK : ∀ d ∈ xs.map (fun x => PyData.str (g x)), X.A.in1.in1.units + d.depth < cLine := by
      intro d hd
      obtain ⟨b, _, rfl⟩ := List.mem_map.mp hd
      have u1 : X.A.in1.in1.units ≤ X.A.units + 2 := by first | exact Nat.le_refl _ | simp [Around.in1]
      simp only [PyData.depth]
      omega
    try dsimp only
    refine wpAny_bind (listItems_at pk.1 rfl ?_)
    have hid : (hideAll s'.heap [kS]).get? kS = none := hideAll_none _ (by simp)
    refine keyH_end (κ := dataKind s'.heap (xs.map fun x => PyData.str (g x))) (h₁ := hideAll s'.heap [kS]) (fun b o _ q => of_hideAll _ q) hid pk.1 ata ka (SortsAt.data (s := s') eachK alikeK sortK unitK) ksz (by rw [← vl]; exact hL) fun h3 tk c kp at3 => ⟨rfl, ?_⟩
    have eo : EachIs Rx (sortVals (dataKind s'.heap (xs.map fun x => PyData.str (g x))) false kA.toList vs) (xs.mergeSort (leG g)) :=
      keyedOut_each (rev := false) (fun x : V => PyData.str (g x)) ⟨s'.heap, kA.toList, alikeK, rfl, eachK⟩ (each_vals rv)
    generalize sortVals (dataKind s'.heap (xs.map fun x => PyData.str (g x))) false kA.toList vs = out at at3 eo
    -- the key store is let go, then the list takes the items
    have J3 : Inv X pins σ Hn s' := J.pins_of fun p hp => J.pin p (List.mem_append_right _ (List.mem_cons_of_mem _ hp))
    have back : (h3.update a fun _ => seqObj "list" #[] e1).get? a = some (seqObj "list" #[] e1) := by
      exact Heap.get?_update_self _ at3 rfl
    have J4 := J3.turned (t' := tk) (h' := h3.update a fun _ => seqObj "list" #[] e1) (it := kS) (fun b o hb q => ?_) pk.2.1 fr.loc (.inr fr.new) fr.cel fr.pin
    · have lenO : (xs.mergeSort (leG g)).length ≤ sizeLine := by
        rw [List.length_mergeSort]
        exact hL
      have J5 := J4.write (t' := tk) (x := a) (e := a) (h' := h3) (o := .lst (xs.mergeSort (leG g))) (by rw [sm _ _ H1a]; exact True.intro) (.inl rfl) (fun b u hb q => ?_) ⟨_, at3⟩ ⟨lenO, out, c, vals_each eo, at3⟩
      · refine fin _ a _ J5 (fun b o q => ?_) Ha upd_same
        rw [upd_ne (ne_of_none q Ha)]
        exact sm _ _ (sm1 _ _ q)
      · rw [Heap.get?_update_ne _ _ _ _ hb] at q
        exact q
    · by_cases ba : b = a
      · rw [ba] at q ⊢
        rw [ata] at q
        rw [← Option.some.inj q]
        exact back
      · rw [Heap.get?_update_ne _ _ _ _ ba]
        refine kp b o ba ?_
        exact hideAll_get [kS] q (by simpa using hb)
theorem sorted_fn {l f : Addr} {fd : FuncData} {k : Nat} {pn : Str} {sp : Sp} {xs : List V} {vs : List Value} {g : V → Str} {Q : Value → Shared → Prop} {E : Value → Shared → Prop} (I : Inv X pins σ H s) (hl : s.heap.IsList l vs.toArray) (rv : Vals xs vs) (hL : xs.length ≤ sizeLine)
    (F : FnOk X.prog X.w X.K X.mg X.base CX0 k f fd [pn] sp) (hr : Room (k + 2) X.A) (hb : Binds X.K fd [pn] []) (hu : X.A.units + 4 < cLine)
    (hsp : ∀ x ∈ xs, ∀ H', Same H H' → sp [x] H' (fun v H2 => v = .str (g x) ∧ Same H' H2) (fun _ _ _ => False))
    (fin : ∀ (H2 : Hp) (q : Addr) (s2 : Shared), Inv X pins σ H2 s2 → Same H H2 → H q = none → H2 q = some (.lst (xs.mergeSort (leG g))) → Q (.ref q) s2) :
    wpAny (model X.prog X.w) X.A (call (.builtin "sorted") [.ref l] [(Str.ofString "key", .ref f)]) Q E s := by
  refine sorted_of_sort hl (by rw [← rv.length]; exact hL) (ksk_s1 _ _) (fun _ => ksk_l1 _ _) fun E' => ?_
  exact sort_core I (fun b u q => copyHeap_old q) (Nat.le_succ _) (copyHeap_at s.heap vs) rv hL F hr hb hu hsp fin
end
end SK
namespace SK
open PySem PySem.Spec PyProof.Rows L2 PySem.W
set_option autoImplicit false
/-- a tuple is read in one way -/
def TInj (K : PySem.W.Frag) (H : Hp) : Prop := ∀ (a : Addr) (xs ys : List V), SqT K H a xs → SqT K H a ys → xs = ys
def tSortFn (K : PySem.W.Frag) (sp : Sp) (t : TA) : TE := fun σ H Q => t σ H fun vs H1 => TInj K H1 → ∃ (l : Addr) (xs : List V) (g : V → Str), vs = [.ref l] ∧ SqL K H1 l xs ∧
  (∀ x ∈ xs, ∀ H', Same H1 H' → sp [x] H' (fun v H2 => v = .str (g x) ∧ Same H' H2) (fun _ _ _ => False)) ∧ ∀ H2 p, Same H1 H2 → H1 p = none → H2 p = some (.lst (xs.mergeSort (leG g))) → Q (.ref p) H2
section
variable {X : Cx} {p p2 pos kpos : Pos} {e : Expr} {t : TA} {k : Nat} {f : Addr} {fd : FuncData} {pn fn : Str} {sp : Sp}
theorem pe_sortedFn (F : FnOk X.prog X.w X.K X.mg X.base CX0 k f fd [pn] sp) (hr : Room (k + 2) X.A) (hb : Binds X.K fd [pn] []) (hgs : Gl X "sorted") (hms : X.mg "sorted" = none) (hgf : Gl X fn) (hmf : X.mg fn = some (.ref f)) (ha : PA X [e] t)
    (hdb : (fn == ("__debug__" : Str)) = false := by decide) (he : backTo pos (starEach [e] X.env) = (false, eval e X.env) :: backTo pos (starEach [] X.env) := by rfl) (hpl : (backTo pos (starEach [e] X.env)).any (·.1) = false := by rfl) :
    PE X (.Call (.Name "sorted" p) [e] [⟨some "key", .Name fn p2, kpos⟩] pos) (tSortFn X.K sp t) := by
  refine ⟨fun pins s σ H Q I h => ?_⟩
  refine wpAny_Call_Name_kw (ld_blt I hgs hms (u := .builtin "sorted") (by decide +kernel) ?_)
  refine PyProof.Rows.callWith_kw (thn (ha.run pos pins s σ H _ I h) fun us s1 ⟨vs, H1, J, r1, q1⟩ => ?_) he hpl (by rfl) (by rfl)
  show wpAny _ _ (evalAll [do let v ← eval (.Name fn p2) X.env; standAt pos; pure v]) _ _ s1
  refine wpAny_evalAll_cons (wpAny_bind (ld_glob J hgf hmf (wpAny_bind (wpAny_standAt (wpAny_pure (wpAny_evalAll_nil ?_)))) hdb))
  obtain ⟨l, xs, g, rfl, hs, hsp, q⟩ := q1 fun a xs ys h1 h2 => J.tuple_inj h1 h2
  obtain ⟨its, rv, hl, hz⟩ := J.list hs
  rw [Vals.ref1 r1]
  show wpAny _ _ (call (.builtin "sorted") [.ref l] [(Str.ofString "key", .ref f)]) _ _ _
  exact sorted_fn J hl.isList rv hz F hr hb (by have := hr.units; omega) hsp fun H2 a s2 J2 sm hn ha => ⟨.ref a, H2, J2, rfl, q H2 a sm hn ha⟩
end
end SK
/-! sorted(d, reverse=b), sorted(d, key=f), list(d): d a dict with tuple keys -/
namespace ND
open PySem PySem.Spec PyProof.Rows L2 PySem.W PySem.Calls
set_option autoImplicit false
def keyRefs (kvs : List Ent) : List Value := kvs.map fun p => Value.ref p.2.1
def keyVs (kvs : List Ent) : List V := kvs.map fun p => V.ref p.2.1
theorem keyVals : ∀ kvs : List Ent, Vals (keyVs kvs) (keyRefs kvs)
  | [] => .nil
  | _ :: r => .cons rfl (keyVals r)
section
variable {X : Cx} {pins : List (Addr × Obj)} {σ : L2.St} {H : Hp} {s : Shared} {d : Addr} {kvs : List Ent}
theorem raw_at (I : Inv X pins σ H s) (hd : Rd H d (DO X.prog X.w d kvs)) : (d == sysModules) = false ∧ kvs.length ≤ sizeLine ∧ ∃ (es : Array DictEntry) (ep : Nat), s.heap.DictRaw d es ep ∧ es.size = kvs.length ∧ ∀ (n : Nat) (p : Ent), kvs[n]? = some p → ∃ en : DictEntry, es[n]? = some en ∧ en.key = .ref p.2.1 := by
  obtain ⟨⟨hs, hl, xs, rel, o, es, ep, h1, h2, h3, he, _⟩, _, _⟩ := hd.ok I.hok
  refine ⟨hs, hl, es, ep, ⟨o, h1, h2, h3⟩, ?_, fun n p hp => ?_⟩
  · rw [size_of_entries he, rel.len]
  · obtain ⟨q, hq, _, e2, _⟩ := KN.get rel n p hp
    have z := entry_at he n
    rw [hq] at z
    exact ⟨_, z, by rw [e2]; rfl⟩
theorem items_keys {es : Array DictEntry} {acc : Array Value} (sz : es.size = kvs.length) (ent : ∀ (n : Nat) (p : Ent), kvs[n]? = some p → ∃ en : DictEntry, es[n]? = some en ∧ en.key = .ref p.2.1) (ha : ItemsOf (fun i v => ∃ hi : i < es.size, v = es[i].key) acc es.size) : acc.toList = keyRefs kvs := by
  refine List.ext_getElem? fun n => ?_
  have asz : acc.toList.length = kvs.length := by
    have q : acc.toList.length = acc.size := Array.length_toList
    have := ha.1
    omega
  by_cases hn : n < kvs.length
  · have hp : kvs[n]? = some kvs[n] := List.getElem?_eq_getElem hn
    obtain ⟨en, hen, hk⟩ := ent n _ hp
    have hv : acc.toList[n]? = some (acc.toList[n]'(by omega)) := List.getElem?_eq_getElem (by omega)
    obtain ⟨hi, e⟩ := ha.2 n _ (by rw [← Array.getElem?_toList]; exact hv)
    have e2 : es[n] = en := by
      have := Array.getElem?_eq_getElem (xs := es) (i := n) hi
      rw [hen] at this
      exact (Option.some.inj this).symm
    rw [hv, e, e2, hk]
    unfold keyRefs
    rw [List.getElem?_map, hp]
    rfl
  · unfold keyRefs
    rw [List.getElem?_map, List.getElem?_eq_none (by omega), List.getElem?_eq_none (by omega)]
    rfl
theorem dict_sorted {kw : List (Str × Value)} {Q : Value → Shared → Prop} {E : Value → Shared → Prop} (I : Inv X pins σ H s) (hd : Rd H d (DO X.prog X.w d kvs)) (calm : X.calm = true) (ha1 : argsOk "sorted" ⟨[.ref d], kw⟩) (ha2 : ∀ x, argsOk "list.sort" ⟨[.ref x], kw⟩)
    (body : ∀ s1 : Shared, Inv X pins σ H s1 → ∀ E' : Value → Shared → Prop,
      wpAny (model X.prog X.w) X.A.in1.in1 (Builtin.«list.sort» ⟨[.ref s1.heap.objs.size], kw⟩) (fun f s' => f = .done (.ret .none) ∧ Q (.ref s1.heap.objs.size) s') E' { s1 with heap := s1.heap.push (seqObj "list" (keyRefs kvs).toArray 0) }) :
    wpAny (model X.prog X.w) X.A (call (.builtin "sorted") [.ref d] kw) Q E s := by
  obtain ⟨lo, hl, es, ep, raw, sz, ent⟩ := raw_at I hd
  refine call_function_entry_kw kind_sorted plain_sorted entry_sorted ha1 ?_
  unfold Builtin.«sorted»
  refine wpAny_bind (m := checkCount "sorted" 1 1 _) (wpAny_pure ?_)
  refine wpAny_bind (kdu_collect (A := X.A.in1) (KdlSrc.rawDict (prog := X.prog) (w := X.w) (es := es) (ep := ep) lo) (I.ok.hd calm) raw (by rw [sz]; exact hl) fun h' tk acc kp items => ?_)
  rw [items_keys sz ent items]
  have kl : (keyRefs kvs).length ≤ sizeLine := by
    unfold keyRefs
    rw [List.length_map]
    exact hl
  refine wpAny_bind (wpAny_newList ?_ kl)
  have J : Inv X pins σ H { s with heap := h', toks := tk } := I.kept kp
  have at0 : (h'.push (seqObj "list" (keyRefs kvs).toArray 0)).get? h'.objs.size = some (seqObj "list" (keyRefs kvs).toArray 0) := Heap.get?_push_size _ rfl
  refine wpAny_bind (wpAny_holding (wpAny_call_entry_kw slot_list_sort ⟨_, at0, rfl⟩ entry_list_sort ?inner (ha2 _)))
  case inner =>
    refine wpAny_mono (body { s with heap := h', toks := tk } J _) (fun f s' hf => ?_) fun _ _ e => e
    obtain ⟨rfl, hq⟩ := hf
    exact ⟨_, rfl, wpAny_pure ⟨_, rfl, hq⟩⟩
/-! ### sorted(d, reverse=b) -/
mutual
theorem NK.dp {K : PySem.W.Frag} {H : Hp} : ∀ (k : NestedKey) (v : V), NK K H k v → Dp K H v k.data
  | .none, _, h => by cases h; exact .non
  | .num i, _, h => by cases h; exact .int i
  | .text x, _, h => by cases h; exact .str x
  | .tup ks, _, h => by
    cases h with
    | tup q r => exact .tup q (NKs.dp ks _ r)
theorem NKs.dp {K : PySem.W.Frag} {H : Hp} : ∀ (ks : List NestedKey) (vs : List V), NKs K H ks vs → DpAll K H vs (NestedKey.datas ks)
  | [], _, h => by cases h; exact .nil
  | k :: ks, _, h => by
    cases h with
    | cons a r => exact .cons (NK.dp k _ a) (NKs.dp ks _ r)
end
def Rr (u : Value) (p : Ent) : Prop := u = .ref p.2.1
theorem each_refs : ∀ kvs : List Ent, EachIs Rr (keyRefs kvs) kvs
  | [] => .nil
  | _ :: r => .cons rfl (each_refs r)
theorem vals_refs : ∀ {us : List Value} {ps : List Ent}, EachIs Rr us ps → Vals (keyVs ps) us
  | _, _, .nil => .nil
  | _, _, .cons h r => .cons h (vals_refs r)
def rSortD (X : Cx) (b : Bool) : List V → List V → Hp → VK → Prop := fun vs zs H Q => ∃ (d : Addr) (kvs : List Ent), vs = [V.ref d] ∧ zs = [.bl b] ∧ Rd H d (DO X.prog X.w d kvs) ∧ KOks X.K H kvs ∧ AllAlike (kvs.map fun p => p.1.data) ∧ Sortable (kvs.map fun p => p.1.data) ∧ (∀ p ∈ kvs, p.1.data.depth ≤ 9) ∧
  ∀ p, H p = none → Q (.ref p) (upd H p (.lst (keyVs (kvs.mergeSort (dataLe b fun p => p.1.data)))))
theorem cr_sortedD {b : Bool} (calm : X.calm = true) (hu : X.A.units + 64 < cLine) : CallRK X (.builtin "sorted") [Str.ofString "reverse"] (rSortD X b) := by
  intro pins s σ H vs zs us ws Q I r rz h
  obtain ⟨d, kvs, rfl, rfl, hd, ok, al, so, dp, q⟩ := h
  obtain rfl := Vals.ref1 r
  obtain ⟨w1, rfl, e1⟩ := vals1 rz
  obtain rfl : w1 = Value.bool b := e1
  have hl : kvs.length ≤ sizeLine := (raw_at I hd).2.1
  refine dict_sorted I hd calm (args_sorted_rev _ _) (fun _ => args_list_sort_rev _ _) fun s1 J E' => ?_
  have at0 : (s1.heap.push (seqObj "list" (keyRefs kvs).toArray 0)).get? s1.heap.objs.size = some (seqObj "list" (keyRefs kvs).toArray 0) := Heap.get?_push_size _ rfl
  have er : EachIs (fun v p => ∃ as, Reads (sortingHeap (s1.heap.push (seqObj "list" (keyRefs kvs).toArray 0)) s1.heap.objs.size (keyRefs kvs)) v p.1.data as) (keyRefs kvs) kvs := by
    have gen : ∀ l : List Ent, KOks X.K H l → EachIs (fun v p => ∃ as, Reads (sortingHeap (s1.heap.push (seqObj "list" (keyRefs kvs).toArray 0)) s1.heap.objs.size (keyRefs kvs)) v p.1.data as) (keyRefs l) l := by
      intro l
      induction l with
      | nil => intro _; exact .nil
      | cons p l ih =>
        intro o
        refine .cons ?_ (ih fun x hx => o x (List.mem_cons_of_mem _ hx))
        obtain ⟨as, rd⟩ := Dp.reads J _ _ _ (NK.dp _ _ (o p List.mem_cons_self).1) rfl
        exact ⟨as, PyProof.Rows.Reads.keeps (fun b o e => sortingHeap_old (Nat.ne_of_lt (Heap.lt_size e)) (Heap.get?_push_of_some _ e)) rd⟩
    exact gen kvs ok
  have un : ∀ x ∈ kvs.map (fun p => p.1.data), X.A.in1.in1.units + x.depth < cLine := by
    intro x hx
    obtain ⟨p, hp, rfl⟩ := List.mem_map.mp hx
    have := dp p hp
    have u1 : X.A.in1.in1.units ≤ X.A.units + 2 := by first | exact Nat.le_refl _ | simp [Around.in1]
    omega
  have kl : (keyRefs kvs).length ≤ sizeLine := by
    unfold keyRefs
    rw [List.length_map]
    exact hl
  refine list_sort_rev_vals (s := { s1 with heap := s1.heap.push (seqObj "list" (keyRefs kvs).toArray 0) }) at0 (SortsAt.data (s := { s1 with heap := sortingHeap (s1.heap.push (seqObj "list" (keyRefs kvs).toArray 0)) s1.heap.objs.size (keyRefs kvs) }) (each_map (R := fun v x => ∃ as, Reads (sortingHeap (s1.heap.push (seqObj "list" (keyRefs kvs).toArray 0)) s1.heap.objs.size (keyRefs kvs)) v x as) (fun p : Ent => p.1.data) er) al so un) kl ⟨rfl, ?_⟩
  have eo := sortVals_data b (each_refs kvs) er al
  generalize sortVals (dataKind (sortingHeap (s1.heap.push (seqObj "list" (keyRefs kvs).toArray 0)) s1.heap.objs.size (keyRefs kvs)) (kvs.map fun p => p.1.data)) b (keyRefs kvs) (keyRefs kvs) = out at eo ⊢
  obtain ⟨c, hc⟩ := PyProof.Rows.sortedHeap_at (vs := keyRefs kvs) (out := out.toArray) at0
  refine ⟨.ref s1.heap.objs.size, upd H s1.heap.objs.size (.lst (keyVs (kvs.mergeSort (dataLe b fun p => p.1.data)))), J.laid (t' := s1.toks) (fun b u e => ?_) (Nat.le_refl _) ⟨?_, out, c, vals_refs eo, hc⟩, rfl, q _ (J.hok.fresh (Nat.le_refl _))⟩
  · have lt := Heap.lt_size e
    rw [PyProof.Rows.sortedHeap_old (Nat.ne_of_lt lt) (Nat.lt_of_lt_of_le lt (by rw [size_push']; exact Nat.le_succ _))]
    exact Heap.get?_push_of_some _ e
  · unfold keyVs
    rw [List.length_map, List.length_mergeSort]
    exact hl
/-! ### sorted(d, key=f) -/
def tSortDFn (X : Cx) (sp : Sp) (t : TA) : TE := fun σ H Q => t σ H fun vs H1 => SK.TInj X.K H1 → ∃ (d : Addr) (kvs : List Ent) (g : V → Str), vs = [.ref d] ∧ Rd H1 d (DO X.prog X.w d kvs) ∧
  (∀ x ∈ keyVs kvs, ∀ H', Same H1 H' → sp [x] H' (fun v H2 => v = .str (g x) ∧ Same H' H2) (fun _ _ _ => False)) ∧ ∀ H2 p, Same H1 H2 → H1 p = none → H2 p = some (.lst ((keyVs kvs).mergeSort (SK.leG g))) → Q (.ref p) H2
theorem pe_sortedDFn {p p2 pos kpos : Pos} {e : Expr} {t : TA} {k : Nat} {f : Addr} {fd : FuncData} {pn fn : Str} {sp : Sp} (calm : X.calm = true) (F : FnOk X.prog X.w X.K X.mg X.base CX0 k f fd [pn] sp) (hr : Room (k + 2) X.A) (hb : Binds X.K fd [pn] []) (hgs : Gl X "sorted") (hms : X.mg "sorted" = none) (hgf : Gl X fn) (hmf : X.mg fn = some (.ref f)) (ha : PA X [e] t)
    (hdb : (fn == ("__debug__" : Str)) = false := by decide) (he : backTo pos (starEach [e] X.env) = (false, eval e X.env) :: backTo pos (starEach [] X.env) := by rfl) (hpl : (backTo pos (starEach [e] X.env)).any (·.1) = false := by rfl) :
    PE X (.Call (.Name "sorted" p) [e] [⟨some "key", .Name fn p2, kpos⟩] pos) (tSortDFn X sp t) := by
  refine ⟨fun pins s σ H Q I h => ?_⟩
  refine wpAny_Call_Name_kw (ld_blt I hgs hms (u := .builtin "sorted") (by decide +kernel) ?_)
  refine PyProof.Rows.callWith_kw (thn (ha.run pos pins s σ H _ I h) fun us s1 ⟨vs, H1, J, r1, q1⟩ => ?_) he hpl (by rfl) (by rfl)
  show wpAny _ _ (evalAll [do let v ← eval (.Name fn p2) X.env; standAt pos; pure v]) _ _ s1
  refine wpAny_evalAll_cons (wpAny_bind (ld_glob J hgf hmf (wpAny_bind (wpAny_standAt (wpAny_pure (wpAny_evalAll_nil ?_)))) hdb))
  obtain ⟨d, kvs, g, rfl, hd, hsp, q⟩ := q1 fun a xs ys h1 h2 => J.tuple_inj h1 h2
  have hl : (keyVs kvs).length ≤ sizeLine := by
    unfold keyVs
    rw [List.length_map]
    exact (raw_at J hd).2.1
  rw [Vals.ref1 r1]
  show wpAny _ _ (call (.builtin "sorted") [.ref d] [(Str.ofString "key", .ref f)]) _ _ _
  refine dict_sorted J hd calm (ksk_s1 _ _) (fun _ => ksk_l1 _ _) fun s2 J2 E' => ?_
  exact SK.sort_core (Q := EP X pins σ Q) J2 (fun b u e => Heap.get?_push_of_some _ e) (Nat.le_refl _) (Heap.get?_push_size _ rfl) (keyVals kvs) hl F hr hb (by have := hr.units; omega) hsp fun H2 a s3 J3 sm hn ha => ⟨.ref a, H2, J3, rfl, q H2 a sm hn ha⟩
/-! ### list(d) -/
def rListD (X : Cx) : List V → Hp → VK → Prop := fun vs H Q => ∃ (d : Addr) (kvs : List Ent), vs = [V.ref d] ∧ Rd H d (DO X.prog X.w d kvs) ∧ ∀ p, H p = none → Q (.ref p) (upd H p (.lst (keyVs kvs)))
theorem cr_listD (calm : X.calm = true) : CallR X (.type "list") (rListD X) := by
  intro pins s σ H vs us Q I r h
  obtain ⟨d, kvs, rfl, hd, q⟩ := h
  obtain rfl := Vals.ref1 r
  obtain ⟨lo, hl, es, ep, raw, sz, ent⟩ := raw_at I hd
  refine kdl_call (KdlSrc.rawDict (prog := X.prog) (w := X.w) (es := es) (ep := ep) lo) (I.ok.hd calm) raw (by rw [sz]; exact hl) fun h' tk acc c kp at0 items => ?_
  have e := items_keys sz ent items
  have at1 : h'.get? s.heap.objs.size = some { cls := .type "list", dict := none, data := .seq (keyRefs kvs).toArray c, slots := #[] } := by
    rw [at0, ← e]
  refine ⟨.ref s.heap.objs.size, upd H s.heap.objs.size (.lst (keyVs kvs)), I.laid (t' := tk) kp (Nat.le_refl _) ⟨?_, keyRefs kvs, c, keyVals kvs, at1⟩, rfl, q _ (I.hok.fresh (Nat.le_refl _))⟩
  unfold keyVs
  rw [List.length_map]
  exact hl
end
end ND
/-! sorted(set of texts), sorted(list of texts) of any length -/
namespace TXB
open PySem PySem.Spec PyProof.Rows L2 PySem.W
set_option autoImplicit false
def leS : Str → Str → Bool := dataLe false fun x : Str => PyData.str x
def TxtV (v : Value) (x : Str) : Prop := ∃ t, v = Value.str x t
theorem each_of : ∀ {us : List Value} {xs : List Str}, StrsAre us xs → EachIs TxtV us xs
  | _, _, .nil => .nil
  | _, _, .cons n t r => .cons ⟨t, rfl⟩ (each_of r)
theorem strs_of : ∀ {us : List Value} {xs : List Str}, EachIs TxtV us xs → StrsAre us xs
  | _, _, .nil => .nil
  | _, _, .cons ⟨t, rfl⟩ r => .cons _ t (strs_of r)
theorem vals_of : ∀ {us : List Value} {xs : List Str}, EachIs TxtV us xs → Vals (xs.map V.str) us
  | _, _, .nil => .nil
  | _, _, .cons h r => .cons h (vals_of r)
theorem reads_of {h : Heap} : ∀ {us : List Value} {xs : List Str}, EachIs TxtV us xs → EachIs (fun v x => ∃ as, Reads h v (PyData.str x) as) us xs
  | _, _, .nil => .nil
  | _, _, .cons ⟨t, rfl⟩ r => .cons ⟨[], .str _ t⟩ (reads_of r)
theorem al_strs (xs : List Str) : AllAlike (xs.map fun x => PyData.str x) := by
  intro d hd d' hd'
  obtain ⟨a, _, rfl⟩ := List.mem_map.mp hd
  obtain ⟨b, _, rfl⟩ := List.mem_map.mp hd'
  simp [alike]
theorem so_strs (xs : List Str) : Sortable (xs.map fun x => PyData.str x) := by
  refine .inr fun d hd => ?_
  obtain ⟨a, _, rfl⟩ := List.mem_map.mp hd
  exact ⟨by simp, fun ys => by simp⟩
theorem leS_iff {a b : Str} : leS a b = true ↔ a.cps.toList ≤ b.cps.toList := by
  unfold leS
  rw [dataLe_str fun x : Str => x]
  exact decide_eq_true_iff
theorem ms_perm (xs : List Str) : (xs.mergeSort leS).Perm xs := List.mergeSort_perm xs leS
theorem ms_sorted (xs : List Str) : sortedS (xs.mergeSort leS) = true := by
  refine sortedS_of_pairwise _ ?_
  have h := List.pairwise_mergeSort (le := leS) (fun a b c h1 h2 => leS_iff.mpr (List.le_trans (leS_iff.mp h1) (leS_iff.mp h2))) (fun a b => by
    rw [Bool.or_eq_true, leS_iff, leS_iff]
    exact List.le_total _ _) xs
  refine h.imp fun {a b} hab => ?_
  rw [ltCps_eq]
  exact decide_eq_false (List.not_lt.mpr (leS_iff.mp hab))
section
variable {P : Program} {w : World} {A : Around} {E : Value → Shared → Prop} {s : Shared}
open TX in
theorem sorted_atB {a : Addr} {l : List Str} {Q : Value → Shared → Prop} (R : At P w s.heap a l) (hh : A.handled = none) (hsb : l.length < scanBound) (hu : A.units + 4 < cLine)
    (hQ : ∀ s' p (out : Array Value) (c : Nat) (ys : List Str), (∀ b o, s.heap.get? b = some o → s'.heap.get? b = some o) → s'.gens = s.gens → s'.os = s.os → s.heap.objs.size ≤ p →
      s'.heap.get? p = some (seqObj "list" out c) → StrsAre out.toList ys → ys.Perm l → sortedS ys = true → Q (.ref p) s') :
    wpAny (model P w) A (call (.builtin "sorted") [.ref a]) Q E s := by
  obtain ⟨⟨es, ep, t⟩, ho, ok⟩ := R
  have ft : t.fits es.size = true := ok.tx.fit
  have z : es.size = l.length := ok.tx.sz
  have sb : es.size < scanBound := by omega
  refine Calls.call_function_entry kind_sorted plain_sorted entry_sorted (args_sorted1 _) ?_
  unfold Builtin.«sorted»
  refine wpAny_bind (m := checkCount "sorted" 1 1 _) (wpAny_pure ?_)
  refine wpAny_bind (collect_set (A := A.in1) hh ⟨_, ho, rfl, rfl⟩ ft sb ok.up ok.led fun s1 vs k1 hz g1 o1 pm => ?_)
  obtain ⟨ks, hS, mem, hlen⟩ := texts_of ok.tx.el vs fun v hv => pm.mem_iff.mp hv
  have vl : vs.length = l.length := by rw [pm.length_eq, List.length_map, Array.length_toList]; exact z
  have pk : ks.Perm l := perm_of_sub l ks ok.nd (fun k hk => by
    obtain ⟨e, he, q⟩ := (ok.tx.mem k).mp hk
    exact (mem k).mpr ⟨e.2, pm.mem_iff.mpr (List.mem_map.mpr ⟨e, he, rfl⟩), q⟩) (by omega)
  have szl : vs.length ≤ sizeLine := by
    rw [vl, sizeLine_eq]
    unfold scanBound at hsb
    omega
  refine wpAny_bind (wpAny_newList ?_ szl)
  have hoL : (s1.heap.push (seqObj "list" vs.toArray 0)).get? s1.heap.objs.size = some (seqObj "list" vs.toArray 0) := Heap.get?_push_size _ rfl
  have ei := each_of hS
  have un : ∀ d, d ∈ ks.map (fun x => PyData.str x) → A.in1.in1.units + d.depth < cLine := fun d hd => by
    obtain ⟨b, _, rfl⟩ := List.mem_map.mp hd
    have u1 : A.in1.in1.units ≤ A.units + 2 := by first | exact Nat.le_refl _ | simp [Around.in1]
    simp only [PyData.depth]
    omega
  have er : EachIs (fun v x => ∃ as, Reads (sortingHeap (s1.heap.push (seqObj "list" vs.toArray 0)) s1.heap.objs.size vs) v (PyData.str x) as) vs ks := reads_of ei
  refine wpAny_bind (wpAny_holding (wpAny_call_entry slot_list_sort ⟨_, hoL, rfl⟩ entry_list_sort
    (list_sort_vals (s := { s1 with heap := s1.heap.push (seqObj "list" vs.toArray 0) }) hoL (SortsAt.data (s := { s1 with heap := sortingHeap (s1.heap.push (seqObj "list" vs.toArray 0)) s1.heap.objs.size vs }) (each_map (R := fun v x => ∃ as, Reads (sortingHeap (s1.heap.push (seqObj "list" vs.toArray 0)) s1.heap.objs.size vs) v x as) (fun x : Str => PyData.str x) er) (al_strs ks) (so_strs ks) un) szl ?_) (args_list_sort _)))
  have eo := sortVals_data false ei er (al_strs ks)
  generalize sortVals (dataKind (sortingHeap (s1.heap.push (seqObj "list" vs.toArray 0)) s1.heap.objs.size vs) (ks.map fun x => PyData.str x)) false vs vs = out at eo ⊢
  obtain ⟨c, hc⟩ := sortedHeap_at (vs := vs) (out := out.toArray) hoL
  refine ⟨_, rfl, wpAny_pure ⟨_, rfl, hQ _ s1.heap.objs.size _ c (ks.mergeSort leS) (fun b u e => ?_) g1 o1 hz hc (strs_of eo) ((ms_perm ks).trans pk) (ms_sorted ks)⟩⟩
  have q := k1 b u e
  have lt := Heap.lt_size q
  show (sortedHeap (s1.heap.push (seqObj "list" vs.toArray 0)) s1.heap.objs.size vs _).get? b = some u
  rw [sortedHeap_old (Nat.ne_of_lt lt) (by rw [Heap.size_push]; exact Nat.lt_succ_of_lt lt)]
  exact Heap.get?_push_of_some _ q
end
section
variable {X : Cx}
/-- sorted(set of texts): of any length -/
def rSortTx (P : Program) (w : World) : List V → Hp → VK → Prop := fun vs H Q => ∃ (a : Addr) (l : List Str), vs = [V.ref a] ∧ H a = some (TX.SetTx P w a l) ∧ l.length < scanBound ∧
  ∀ (ys : List Str) (p : Addr), ys.Perm l → sortedS ys = true → H p = none → Q (.ref p) (upd H p (.lst (ys.map V.str)))
theorem cr_sortTx (hc : X.calm = true) (hu : X.A.units + 66 < cLine) : CallR X (.builtin "sorted") (rSortTx X.prog X.w) := by
  intro pins s σ H vs us Q I r h
  obtain ⟨a, l, rfl, ha, hsb, q⟩ := h
  have R : TX.At X.prog X.w s.heap a l := (I.hok a _ ha).1
  rw [Vals.ref1 r]
  refine sorted_atB R (I.ok.hd hc) hsb (by omega) fun s' p out c ys k g o hp hg hi pm so => ?_
  have hlen : (ys.map V.str).length ≤ sizeLine := by
    rw [List.length_map, pm.length_eq, sizeLine_eq]
    unfold scanBound at hsb
    omega
  have hn : H p = none := I.hok.fresh hp
  have J : Inv X pins σ (upd H p (.lst (ys.map V.str))) { s with heap := s'.heap, gens := s'.gens, drawn := s'.drawn, toks := s'.toks } :=
    I.call (ch := []) (Un.laid k hp hn) (I.hok.laid k hp ⟨hlen, out.toList, c, vals_of_strs hi, hg⟩) (by rw [g]; exact I.bare) (fun _ z => nomatch z)
  have e : s' = { s with heap := s'.heap, gens := s'.gens, drawn := s'.drawn, toks := s'.toks } := by
    cases s'
    cases s
    cases o
    rfl
  rw [e]
  exact ⟨.ref p, _, J, rfl, q ys p pm so hn⟩
/-- sorted(xs), xs a list of texts of any length -/
def rSortedS (K : PySem.W.Frag) : List V → Hp → VK → Prop := fun vs H Q => ∃ (a : Addr) (xs : List Str), vs = [V.ref a] ∧ SqL K H a (xs.map V.str) ∧ xs.length ≤ sizeLine ∧
  ∀ (ys : List Str) (p : Addr), ys.Perm xs → sortedS ys = true → H p = none → Q (.ref p) (upd H p (.lst (ys.map V.str)))
theorem cr_sortedS (hu : X.A.units + 66 < cLine) : CallR X (.builtin "sorted") (rSortedS X.K) := by
  intro pins s σ H vs us Q I r h
  obtain ⟨a, xs, rfl, hs, hL, q⟩ := h
  obtain ⟨its, rv, hl, _⟩ := I.list hs
  rw [Vals.ref1 r]
  have ei := each_of rv.strs
  refine sorted_data (enc := fun x : Str => PyData.str x) hl.isList ei (reads_of ei) (al_strs xs) (so_strs xs) hL (fun b _ => ?_) fun out hlen eo => ?_
  · show _ + 2 + (PyData.str _).depth < _
    simp only [PyData.depth]
    omega
  · obtain ⟨c, hc⟩ := sortedAll_at s.heap its out.toArray
    have hn : H (s.heap.objs.size + 1) = none := I.hok.fresh (Nat.le_succ _)
    refine ⟨.ref _, upd H (s.heap.objs.size + 1) (.lst ((xs.mergeSort leS).map V.str)), I.laid (t' := s.toks) (fun _ _ => sortedAll_old) (Nat.le_succ _) ⟨?_, out, c, vals_of eo, hc⟩, rfl, q _ _ (ms_perm xs) (ms_sorted xs) hn⟩
    rw [List.length_map, List.length_mergeSort]
    exact hL
end
end TXB
/-! {k: v for ..} with keys that are nested tuples -/
namespace ND
open PySem PySem.Spec PyProof.Rows L2
set_option autoImplicit false
section
variable {X : Cx}
/-- one more pair, put in by the comprehension -/
theorem putD {pins : List (Addr × Obj)} {σ : L2.St} {H : Hp} {s : Shared} {E : Value → Shared → Prop} {D b : Addr}
    {kvs : List Ent} {k : NestedKey} {v : V} {r : Value} {Q : Unit → Shared → Prop} (hu : X.A.units + 9 < cLine)
    (I : Inv X pins σ H s) (g : H D = some (DO X.prog X.w D kvs)) (oks : KOks X.K H kvs) (key : NK X.K H k (.ref b))
    (dep : k.depth ≤ 8) (few : kvs.length < sizeLine) (rv : RelV v r)
    (q : ∀ s', Inv X pins σ (upd H D (DO X.prog X.w D (putN kvs k b v))) s' → Q () s') :
    wpAny (model X.prog X.w) X.A (dictSet D (.ref b) r) Q E s := by
  obtain ⟨nsys, _, raws, rel, dd⟩ := do_at I (.inl g) oks
  have rl : raws.length ≤ sizeLine := by
    have := rel.len
    omega
  have room : (nestedKind X.prog X.w).room X.A := by
    show X.A.units + 8 < cLine
    omega
  refine wpAny_dictSet_heap (hsz := rl) room (key_at I key dep) dd fun h1 dd1 but => q _ ?_
  have has : ∃ o, h1.get? D = some o := by
    obtain ⟨o, _, _, e, _⟩ := dd1
    exact ⟨o, e⟩
  have le := putN_len kvs k b v
  exact d_write I (by rw [g]; exact True.intro) but has (do_new nsys (by omega) (rel.put rv) dd1)
/-- what a turn leaves: the pair in the dict D, then on -/
def PutIn (P : Program) (w : World) (K : PySem.W.Frag) (D : Addr) (y z : V) (H : Hp) (Nx : Hp → Prop) : Prop :=
  ∃ (b : Addr) (kvs : List Ent) (k : NestedKey), y = .ref b ∧ H D = some (DO P w D kvs) ∧ KOks K H kvs ∧
    NK K H k (.ref b) ∧ k.depth ≤ 8 ∧ kvs.length < sizeLine ∧ Nx (upd H D (DO P w D (putN kvs k b z)))
def TurnD (P : Program) (w : World) (K : PySem.W.Frag) (D : Addr) (g : TG) (tt : TT) (tk tv : TE) (vs : List Nat) (σ : L2.St) (Nx : Hp → Prop) (x : V) (H : Hp) : Prop :=
  g x (wipe σ vs) H fun σ2 H2 => wipe σ2 vs = wipe σ vs ∧ tt σ2 H2 fun b H3 =>
    if b = true then tk σ2 H3 fun y H4 => tv σ2 H4 fun z H5 => PutIn P w K D y z H5 Nx else Nx H3
def tDcN (P : Program) (w : World) (K : PySem.W.Frag) (wi : TI) (g : TG) (tt : TT) (tk tv : TE) (vs : List Nat) : TE := fun σ H Q => wi σ H fun J H1 =>
  ∀ D, H1 D = none → ∃ W : Nat → Nat → Hp → Prop, (∃ m, W 0 m (upd H1 D (DO P w D []))) ∧ ∀ i m H, W i m H →
    (J.stop i H ∧ Q (.ref D) H) ∨ (J.go i H ∧ ∃ Nx : Hp → Prop, (∀ H', Nx H' → ∃ m', m' < m ∧ W (i + 1) m' H') ∧
      ∀ x H', J.yld i H x H' → TurnD P w K D g tt tk tv vs σ Nx x H')
def InBlk (X : Cx) (scope : Scope) (p : Cx → Prop) : Prop :=
  ∀ (s : Shared) (H : Hp) (C : Addr) (cl : List (Str × Addr)) (fp : List Addr), p (X.blk s H scope (compEnvC scope cl C X.env) fp)
/-- a run that raises nothing, under any way to raise -/
theorem calmE {α : Type} {t : Sem α} {Q Q' : α → Shared → Prop} {M : Model} {A : Around} {E E' : Value → Shared → Prop} {s : Shared}
    (hx : ∀ v s, E v s → False) (h : wpAny M A t Q E s) (hQ : ∀ a s, Q a s → Q' a s) : wpAny M A t Q' E' s :=
  wpAny_mono h hQ fun _ _ z => (hx _ _ z).elim
/-- one turn of the block -/
theorem turnD {Y : Cx} {pins : List (Addr × Obj)} {kx vx tg : PySem.Expr} {ifs : List PySem.Expr} {g : TG} {tt : TT} {tk tv : TE} {vs : List Nat} {σ : L2.St} {D : Addr} {Nx : Hp → Prop} {x : V} {u : Value} {s : Shared} {H : Hp}
    {m : Nat} {Iv : Nat → Shared → Prop} {E : Value → Shared → Prop} (hx : ∀ v s, Y.xe v s → False) (hu : Y.A.units + 9 < cLine) (pg : PG Y tg g) (pt : PTs Y ifs tt) (pk : PE Y kx tk) (pv : PE Y vx tv)
    (I : Inv Y pins (wipe σ vs) H s) (rx : RelV x u) (q : TurnD Y.prog Y.w Y.K D g tt tk tv vs σ Nx x H)
    (fin : ∀ σ' s' H', wipe σ' vs = wipe σ vs → Inv Y pins σ' H' s' → Nx H' → ∃ j, j < m ∧ Iv j s') :
    wpAny (model Y.prog Y.w) Y.A (assign tg Y.env u) (fun _ t1 =>
      wpAny (model Y.prog Y.w) Y.A (forIn ifs true fun c r => if r = true then do let ok ← isTrue c Y.env (eval c Y.env); pure (ForInStep.yield ok) else pure (ForInStep.yield r)) (fun ok t2 =>
        if ok = true then
          wpAny (model Y.prog Y.w) Y.A (eval kx Y.env) (fun kv t3 =>
            wpAny (model Y.prog Y.w) Y.A (eval vx Y.env) (fun vv t4 =>
              wpAny (model Y.prog Y.w) Y.A (dictSet D kv vv) (fun _ t5 => ∃ j, j < m ∧ Iv j t5) E t4) E t3) E t2
        else ∃ j, j < m ∧ Iv j t2) E t1) E s := by
  refine calmE hx (pg.run _ s _ H x u _ I rx q) fun _ t1 ⟨σ1, H1, I1, w1, q1⟩ => ?_
  refine calmE hx (pt.run _ t1 σ1 H1 _ I1 q1) fun b t2 ⟨H2, I2, q2⟩ => ?_
  cases b
  · exact fin σ1 t2 H2 w1 I2 q2
  · refine calmE hx (pk.run _ t2 σ1 H2 _ I2 q2) fun kv t3 ⟨y, H3, I3, ry, q3⟩ => ?_
    refine calmE hx (pv.run _ t3 σ1 H3 _ I3 q3) fun vv t4 ⟨z, H4, I4, rz, b, kvs, k, ey, gD, oks, key, dep, few, nx⟩ => ?_
    subst ey
    obtain rfl : kv = Value.ref b := ry
    exact putD hu I4 gD oks key dep few rz fun t5 I5 => fin σ1 t5 _ w1 I5 nx
/-- {k: v for target in iter if ..}: its value -/
theorem pe_dcN {kx vx tg iter : PySem.Expr} {ifs : List PySem.Expr} {scope : Scope} {own : List (Str × Nat)} {pos : Pos} {wi : TI} {g : TG} {tt : TT} {tk tv : TE}
    (hu : X.A.units + 9 < cLine) (hc : X.calm = true) (hN : X.N.Nodup) (hi : PI X tg iter wi) (ok : BlkOk X.N X.env.scope scope own)
    (hg : InBlk X scope fun Y => PG Y tg g) (ht : InBlk X scope fun Y => PTs Y ifs tt) (hk : InBlk X scope fun Y => PE Y kx tk) (hv : InBlk X scope fun Y => PE Y vx tv)
    (hs : ∀ x, foldedSetIterable iter X.env x = pure x := by intro _; rfl) :
    PE X (.DictComp kx vx [⟨tg, iter, ifs, 0⟩] scope pos) (tDcN X.prog X.w X.K wi g tt tk tv (own.map (·.2))) := by
  refine ⟨fun pins s σ H Q I h => ?_⟩
  rw [arm_eval_DictComp]
  have frees : ∀ y ∈ scope.names, y.2 = .free → ∃ c, X.env.cells.lookup y.1 = some c := fun y hy e =>
    (ok.free y hy e).elim (fun k => I.ok.has _ (.inl k)) (fun k => I.ok.has _ (.inr k))
  refine wpAny_comprehension_free (use := none) rfl hs (closure_ok frees) ok.kind (fun y hy e => (ok.uniq y hy).trans (congrArg some e)) ?_
  refine thn (hi.run pins s σ H _ I h) fun xv s1 hx => thn hx fun itv s2 ⟨it, fp, tn, J, H2, e, I2, T, st2, f2, q⟩ => ?_
  subst e
  refine wpAny_newObj_type (newEnv_comp ?_)
  obtain ⟨nd, end_⟩ : ∃ d : Obj, d = { cls := .type "dict", data := .dict #[] } := ⟨_, rfl⟩
  rw [← end_]
  obtain ⟨s3, e3⟩ : ∃ t : Shared, t = { s2 with heap := s2.heap.push nd } := ⟨_, rfl⟩
  obtain ⟨D, eD⟩ : ∃ D, D = s2.heap.objs.size := ⟨_, rfl⟩
  have hp3 : s3.heap = s2.heap.push nd := by rw [e3]
  have gone : H2 D = none := I2.hok.fresh (Nat.le_of_eq eD.symm)
  obtain ⟨W, ⟨m0, w0⟩, turn⟩ := q D gone
  have I3 : Inv X pins σ (upd H2 D (DO X.prog X.w D [])) s3 := by
    rw [e3]
    refine I2.laid (t' := s2.toks) (fun b o e => Heap.get?_push_of_some _ e) (Nat.le_of_eq eD.symm) ?_
    rw [eD, end_]
    exact do_new (xs := []) (beq_eq_false_iff_ne.mpr (Ne.symm (Nat.ne_of_lt I2.big))) (Nat.zero_le _) .nil (Heap.DictOfH.new s2.heap)
  -- what the loop goes through lies elsewhere
  have low : ∀ b ∈ fp, b < D := fun b hb => by
    obtain ⟨o, e, _⟩ := T.obj _ _ st2 b hb
    rw [eD]
    exact Heap.lt_size e
  have f3 : ∀ b ∈ fp, FpOk X pins (upd H2 D (DO X.prog X.w D [])) b ∧ b < s3.heap.objs.size := fun b hb => by
    have lt := low b hb
    refine ⟨⟨(upd_ne (Nat.ne_of_lt lt)).trans (f2 b hb).1, (f2 b hb).2⟩, ?_⟩
    rw [hp3, Heap.size_push, ← eD]
    exact Nat.lt_succ_of_lt lt
  have st3 : tn 0 s3.heap := T.keep _ _ _ st2 fun b _ o e => by
    rw [hp3]
    exact Heap.get?_push_of_some _ e
  have I4 := block_start I3 ok hN f3
  have none3 : ∀ b ∈ fp, (upd H2 D (DO X.prog X.w D [])) b = none := fun b hb => (f3 b hb).1.1
  obtain ⟨C, eC⟩ : ∃ C, C = s3.heap.objs.size := ⟨_, rfl⟩
  obtain ⟨cl, ecl⟩ : ∃ cl, cl = cellsFrom (s3.heap.objs.size + 1) scope.names (cloFrom X.env.cells scope.names []) := ⟨_, rfl⟩
  obtain ⟨ev, eev⟩ : ∃ ev, ev = compEnvC scope cl C X.env := ⟨_, rfl⟩
  have atC : ev.locals = s3.heap.objs.size := by
    rw [eev, ← eC]
    rfl
  have pg := hg s3 (upd H2 D (DO X.prog X.w D [])) C cl fp
  have pt := ht s3 (upd H2 D (DO X.prog X.w D [])) C cl fp
  have pk := hk s3 (upd H2 D (DO X.prog X.w D [])) C cl fp
  have pv := hv s3 (upd H2 D (DO X.prog X.w D [])) C cl fp
  rw [← eev] at pg pt pk pv
  rw [← ecl, ← eC, ← eev] at I4
  have goal : codeAny (model X.prog X.w) X.A (.compStart (.DictComp kx vx [⟨tg, iter, ifs, 0⟩] scope pos) 0 (.ref it) (.ref D) ev) (compPost (model X.prog X.w) X.A X.xe none (EP X pins σ Q) (.ref D) C) { s3 with heap := pushCells (s3.heap.push { cls := .type "dict", data := .dict #[] }) scope.names } := ?_
  · rw [eev, ecl, eC, e3, eD, ← end_] at goal
    exact goal
  generalize hH3 : upd H2 D (DO X.prog X.w D []) = H3 at I3 I4 pg pt pk pv w0 none3 f3
  generalize hs4 : ({ s3 with heap := pushCells (s3.heap.push { cls := .type "dict", data := .dict #[] }) scope.names } : Shared) = s4 at I4 ⊢
  have st4 : tn 0 s4.heap := T.keep _ _ _ st3 fun b _ o e => by
    rw [← hs4]
    exact pushCells_keeps _ _ _ _ (Heap.get?_push_of_some _ e)
  have quiet : ∀ v s, (X.blk s3 H3 scope ev fp).xe v s → False := fun _ _ z => z
  have keeps : ∀ {σ' : L2.St} {H' : Hp} {s' : Shared}, Inv (X.blk s3 H3 scope ev fp) [] σ' H' s' → (∀ b ∈ fp, H' b = none) → ∀ b ∈ fp, FpOk (X.blk s3 H3 scope ev fp) [] H' b :=
    fun {σ' H' s'} J' nb b hb => ⟨nb b hb, (J'.ok.exf b hb).1, J'.ok.exfs b hb, .inl hb, fun x c e => (J'.ok.exf b hb).2 x c e, fun p hp => (by simp at hp : False).elim⟩
  have loop : codeAny (model X.prog X.w) X.A (.compLoop (.DictComp kx vx [⟨tg, iter, ifs, 0⟩] scope pos) 0 (.ref it) (.ref D) ev) (compPost (model X.prog X.w) X.A X.xe none (EP X pins σ Q) (.ref D) C) s4 := by
    refine compLoop_anyD (fun n t => ∃ i G, Inv (X.blk s3 H3 scope ev fp) [] (wipe σ (own.map (·.2))) G t ∧ tn i t.heap ∧ (∀ b ∈ fp, G b = none) ∧ W i n G) ?_ m0 ⟨0, H3, I4, st4, none3, w0⟩
    rintro n s5 ⟨i, G, I5, st5, n5, w5⟩
    rcases turn i n G w5 with ⟨stop, done⟩ | ⟨go, Nx, down, step⟩
    · refine thnF (T.done (X.blk s3 H3 scope ev fp) rfl rfl rfl hc i [] s5 _ G (fun _ _ => False) I5 (keeps I5 n5) st5 stop) fun r s6 ⟨er, I6⟩ => ?_
      subst er
      have I7 : Inv X pins σ G s6 := I3.call' (ch := fp) I6.os I6.base I6.hok I6.bare fun b hb =>
        let z := (f3 b hb).1.2
        ⟨z.2.2.1, z.1, z.2.2.2.1, z.2.2.2.2⟩
      have nC : G s3.heap.objs.size = none := atC ▸ (show G ev.locals = none from I6.free)
      obtain ⟨mm, ns, _⟩ := I6.loc
      have ns : s6.heap.Ns C mm := by
        rw [eC, ← atC]
        exact ns
      obtain ⟨z0, z1, _, z3, z4, z5⟩ := I3.fpOk (Nat.le_refl _) nC
      rw [← eC] at z0 z1 z3 z4 z5
      exact ⟨mm, ns, fun h2 sb => ⟨.ref D, G, I7.turned (t' := s6.toks) (fun b o hb e => (sb.2 b hb).trans e) z0 z1 z3 z4 z5, rfl, done⟩⟩
    · refine thnF (T.item (X.blk s3 H3 scope ev fp) rfl rfl rfl hc i [] s5 _ G (fun _ _ => False) I5 (keeps I5 n5) st5 go) fun r s6 ⟨u, er, h6⟩ => ?_
      subst er
      refine thnF h6 fun _ s7 ⟨x, H7, I7, r7, y7, st7, n7⟩ => ?_
      refine turnD (Y := X.blk s3 H3 scope ev fp) (Iv := fun n t => ∃ i G, Inv (X.blk s3 H3 scope ev fp) [] (wipe σ (own.map (·.2))) G t ∧ tn i t.heap ∧ (∀ b ∈ fp, G b = none) ∧ W i n G) quiet hu pg pt pk pv (I7.pinned (keeps I7 n7) (T.obj _ _ st7)) r7 (step x H7 y7) fun σ' s' G' ww Jv nx => ?_
      obtain ⟨j, lt, w'⟩ := down G' nx
      have pin : ∀ b ∈ fp, ∀ o, s7.heap.get? b = some o → s'.heap.get? b = some o ∧ G' b = none := fun b hb o e =>
        have z := Jv.pin (b, o) (List.mem_append_right _ (List.mem_append_right _ (mem_pinsAt hb e)))
        ⟨z.1, z.2.1⟩
      refine ⟨j, lt, i + 1, G', (Jv.unpinned (pins := [])).weak ?_ fun l v e => ?_, T.keep _ _ _ st7 fun b hb o e => (pin b hb o e).1, fun b hb => ?_, w'⟩
      · rw [← ww, wipe_length]
      · rw [← ww] at e
        exact (wipe_some e).1
      · obtain ⟨o, e, _⟩ := T.obj _ _ st7 b hb
        exact (pin b hb o e).2
  exact codeAny_compStart_dict loop (T.self X.A 0 _ _ _ st4 loop)
end
end ND
namespace ND
open PySem PySem.Spec PyProof.Rows L2
set_option autoImplicit false
/-- by a walk -/
theorem dcN_it {P : Program} {w0 : World} {K : PySem.W.Frag} {J : It} {n : Nat} {G : Hp → Prop} {Y : Nat → Hp → V → Hp → Prop} (w : Walk J n G Y) {g : TG} {tt : TT} {tk tv : TE} {vs : List Nat} {σ : L2.St} {H1 : Hp} {D : Addr} {Qd : Hp → Prop}
    (Pv : Nat → Hp → Prop) (h0 : Pv 0 (upd H1 D (DO P w0 D []))) (hG : ∀ i H, i ≤ n → Pv i H → G H)
    (hs : ∀ i x H H', i < n → Pv i H → Y i H x H' → TurnD P w0 K D g tt tk tv vs σ (Pv (i + 1)) x H') (hd : ∀ H, Pv n H → Qd H) :
    ∃ W : Nat → Nat → Hp → Prop, (∃ m, W 0 m (upd H1 D (DO P w0 D []))) ∧ ∀ i m H, W i m H →
      (J.stop i H ∧ Qd H) ∨ (J.go i H ∧ ∃ Nx : Hp → Prop, (∀ H', Nx H' → ∃ m', m' < m ∧ W (i + 1) m' H') ∧
        ∀ x H', J.yld i H x H' → TurnD P w0 K D g tt tk tv vs σ Nx x H') := by
  refine ⟨fun i m H => i ≤ n ∧ m = n - i ∧ Pv i H, ⟨n, Nat.zero_le _, rfl, h0⟩, ?_⟩
  rintro i m H ⟨hi, rfl, p⟩
  rcases Nat.lt_or_eq_of_le hi with lt | e
  · exact .inr ⟨w.goes i H lt (hG i H hi p), Pv (i + 1), fun H' p' => ⟨n - (i + 1), by omega, lt, rfl, p'⟩, fun x H' y => hs i x H H' lt p (w.yields i H x H' lt (hG i H hi p) y)⟩
  · subst e
    exact .inl ⟨w.stops H (hG i H hi p), hd H p⟩
end ND
/-! sets whose items are tuples at any depth (to eight) of texts, numbers, None: {f(x) for x in xs}, sorted(set); fewer than 64 items -/
namespace NSet
open PySem PySem.Spec PyProof.Rows L2 PySem.W
set_option autoImplicit false
abbrev KIt : Type := Addr × NestedKey
def KeyAt (g : Heap) (z : KIt) : Prop := NestedIs g z.2 (.ref z.1) ∧ z.2.depth ≤ 8
abbrev hs1 (w : World) (k : NestedKey) : Int := k.hash w
def ent1 (w : World) (z : KIt) : Int × Value := (hs1 w z.2, .ref z.1)
theorem KeyAt.up {g g' : Heap} {z : KIt} (q : KeyAt g z) (m : ∀ b o, g.get? b = some o → g'.get? b = some o) : KeyAt g' z := ⟨NestedIs.at (fun b o _ _ e _ => m b o e) _ _ q.1, q.2⟩
theorem KeyAt.but {g g' : Heap} {z : KIt} {d : Addr} {o : Obj} {r : Array (Int × Value)} {n : Nat} {T : SetTable} (q : KeyAt g z) (e : g.get? d = some o) (f : o.data = .set r n T) (m : Heap.SameBut d g g') : KeyAt g' z := by
  refine ⟨NestedIs.at (fun b ob vs k h1 h2 => (m.2 b fun x => ?_).trans h1) _ _ q.1, q.2⟩
  rw [x, e] at h1
  cases h1
  rw [f] at h2
  cases h2
theorem KeyAt.one {g : Heap} {y z : KIt} (a : KeyAt g y) (b : KeyAt g z) (e : y.1 = z.1) : y = z := by
  refine Prod.ext e ?_
  have b1 := b.1
  rw [← e] at b1
  exact NestedIs.inj _ _ _ a.1 b1
section
variable {P : Program} {w : World}
/-! ### questions about keys that the search asks -/
def NoC (P : Program) (w : World) (n : Nat) (s : Shared) (v : Value) : Prop := ∀ (B : Around) (E : Value → Shared → Prop) (Q : Bool → Shared → Prop), Q false s → wpAny (model P w) B (ofAClassStatement n v) Q E s
def Hby (P : Program) (w : World) (n : Nat) (s : Shared) (v : Value) : Prop := ∀ (B : Around) (E : Value → Shared → Prop) (Q : Bool → Shared → Prop), (∀ b, Q b s) → wpAny (model P w) B (hashByValue n v) Q E s
theorem NoC.tup {n : Nat} {s : Shared} {b : Addr} {o : Obj} {vs : Array Value} {m : Nat} (e1 : s.heap.get? b = some o) (e2 : o.cls = .type "tuple") (e3 : o.data = .seq vs m) (hq : ∀ v ∈ vs.toList, NoC P w n s v) : NoC P w (n + 1) s (.ref b) := fun B E Q h => by
  have tT : s.TypeIs (.ref b) "tuple" := ⟨o, e1, e2⟩
  unfold ofAClassStatement
  refine wpAny_bind (wpAny_typeOf tT ?_)
  dsimp only
  rw [show (("tuple" : String) == "tuple") = true from by decide]
  simp only [if_true, Bool.not_true, Bool.false_eq_true, if_false]
  try refine wpAny_bind (wpAny_pure ?_)
  try simp only [Bool.not_true, Bool.false_eq_true, if_false]
  refine wpAny_bind (wpAny_seqItems e1 e3 ?_)
  dsimp only
  refine wpAny_bind ?_
  show wpAny _ _ (forIn vs _ _) _ _ s
  rw [← Array.forIn_toList]
  refine wpAny_forIn_list _ (fun l r t => r.1 = none ∧ t = s ∧ ∀ v ∈ l, NoC P w n s v) _ ?_ ?_ _ _ ⟨rfl, rfl, hq⟩
  · rintro v l r t ⟨_, rfl, al⟩
    refine wpAny_bind (al v List.mem_cons_self _ _ _ ?_)
    simp only [Bool.false_eq_true, if_false]
    exact wpAny_pure ⟨rfl, rfl, fun u q => al u (List.mem_cons_of_mem _ q)⟩
  · rintro ⟨r1, r2⟩ t ⟨z, rfl, _⟩
    simp only at z
    subst z
    exact wpAny_pure h
theorem Hby.tup {n : Nat} {s : Shared} {b : Addr} {o : Obj} {vs : Array Value} {m : Nat} (e1 : s.heap.get? b = some o) (e2 : o.cls = .type "tuple") (e3 : o.data = .seq vs m) (hq : ∀ v ∈ vs.toList, Hby P w n s v) : Hby P w (n + 1) s (.ref b) := fun B E Q h => by
  have tT : s.TypeIs (.ref b) "tuple" := ⟨o, e1, e2⟩
  unfold hashByValue
  refine wpAny_bind (wpAny_specialOf tT F.slot_tuple_hash.lookup ?_)
  dsimp only
  refine wpAny_bind (wpAny_seqItems e1 e3 ?_)
  refine wpAny_bind ?_
  show wpAny _ _ (forIn vs _ _) _ _ s
  rw [← Array.forIn_toList]
  refine wpAny_forIn_list _ (fun l r t => t = s ∧ (r.1 = none ∨ r.1 = some false) ∧ (∀ v ∈ l, Hby P w n s v)) _ ?_ ?_ _ _ ⟨rfl, .inl rfl, hq⟩
  · rintro v l r t ⟨rfl, _, al⟩
    refine wpAny_bind (al v List.mem_cons_self _ _ _ fun c => ?_)
    cases c with
    | true =>
      simp only [Bool.not_true, Bool.false_eq_true, if_false]
      exact wpAny_pure ⟨rfl, .inl rfl, fun u q => al u (List.mem_cons_of_mem _ q)⟩
    | false =>
      simp only [Bool.not_false, if_true]
      exact wpAny_pure (wpAny_pure (h false))
  · rintro ⟨r1, r2⟩ t ⟨rfl, z, _⟩
    rcases z with z | z
    · simp only at z
      subst z
      exact wpAny_pure (h true)
    · simp only at z
      subst z
      exact wpAny_pure (h false)
mutual
theorem noC : ∀ (k : NestedKey) (v : Value) (n : Nat) (s : Shared), NestedIs s.heap k v → k.depth ≤ n → NoC P w n s v
  | .none, _, n, s, x, _ => by cases x; cases n <;> exact fun _ _ _ h => wpAny_pure h
  | .num i, _, n, s, x, _ => by cases x <;> cases n <;> exact fun _ _ _ h => wpAny_pure h
  | .text y, _, n, s, x, _ => by cases x; cases n <;> exact fun _ _ _ h => wpAny_pure h
  | .tup ks, _, n, s, x, dn => by
    cases x with
    | tup e1 e2 e3 e4 =>
      simp only [NestedKey.depth] at dn
      cases n with
      | zero => omega
      | succ n => exact .tup e1 e2 e3 (noCs ks _ n s e4 (by omega))
theorem noCs : ∀ (ks : List NestedKey) (vs : List Value) (n : Nat) (s : Shared), NestedAll s.heap ks vs → NestedKey.depthAll ks ≤ n → ∀ v ∈ vs, NoC P w n s v
  | [], _, n, s, x, _, v, hv => by cases x; cases hv
  | k :: ks, _, n, s, x, dn, v, hv => by
    cases x with
    | cons x1 x2 =>
      simp only [NestedKey.depthAll] at dn
      rcases List.mem_cons.mp hv with e | hv
      · rw [e]
        exact noC k _ n s x1 (by omega)
      · exact noCs ks _ n s x2 (by omega) v hv
end
mutual
theorem hby : ∀ (k : NestedKey) (v : Value) (n : Nat) (s : Shared), NestedIs s.heap k v → k.depth ≤ n → Hby P w n s v
  | .none, _, n, s, x, _ => by cases x; cases n <;> exact fun _ _ _ h => wpAny_pure (h _)
  | .num i, _, n, s, x, _ => by cases x <;> cases n <;> exact fun _ _ _ h => wpAny_pure (h _)
  | .text y, _, n, s, x, _ => by cases x; cases n <;> exact fun _ _ _ h => wpAny_pure (h _)
  | .tup ks, _, n, s, x, dn => by
    cases x with
    | tup e1 e2 e3 e4 =>
      simp only [NestedKey.depth] at dn
      cases n with
      | zero => omega
      | succ n => exact .tup e1 e2 e3 (hbys ks _ n s e4 (by omega))
theorem hbys : ∀ (ks : List NestedKey) (vs : List Value) (n : Nat) (s : Shared), NestedAll s.heap ks vs → NestedKey.depthAll ks ≤ n → ∀ v ∈ vs, Hby P w n s v
  | [], _, n, s, x, _, v, hv => by cases x; cases hv
  | k :: ks, _, n, s, x, dn, v, hv => by
    cases x with
    | cons x1 x2 =>
      simp only [NestedKey.depthAll] at dn
      rcases List.mem_cons.mp hv with e | hv
      · rw [e]
        exact hby k _ n s x1 (by omega)
      · exact hbys ks _ n s x2 (by omega) v hv
end
variable {A : Around} {E : Value → Shared → Prop} {s : Shared}
theorem unseen {z : KIt} (q : KeyAt s.heap z) {ys : List Value} (hy : ∀ y ∈ ys, ∃ z', y = Value.ref z'.1 ∧ KeyAt s.heap z') {Q : Bool → Shared → Prop} (h : Q false s) : wpAny (model P w) A (searchCouldBeSeen (.ref z.1) ys) Q E s := by
  unfold searchCouldBeSeen
  refine wpAny_bind ?_
  refine wpAny_forIn_list _ (fun l r t => r.1 = none ∧ t = s ∧ ∀ y ∈ l, ∃ z', y = Value.ref z'.1 ∧ KeyAt s.heap z') _ ?_ ?_ _ _ ⟨rfl, rfl, hy⟩
  · rintro v l r t ⟨_, rfl, al⟩
    obtain ⟨z', rfl, q'⟩ := al v List.mem_cons_self
    have al' : ∀ y ∈ l, ∃ z', y = Value.ref z'.1 ∧ KeyAt t.heap z' := fun u hu => al u (List.mem_cons_of_mem _ hu)
    dsimp only
    by_cases c : (z.1 == z'.1 || (carriedByValue (.ref z.1) && carriedByValue (.ref z'.1))) = true
    · exact wp_if_pos c (wpAny_pure ⟨rfl, rfl, al'⟩)
    · refine wp_if_neg c ?_
      refine wpAny_bind (quiet_key _ _ 8 t q.1 q.2 _ _ _ ?_)
      simp only [Bool.not_true, Bool.false_eq_true, if_false]
      refine wpAny_bind (quiet_key _ _ 8 t q'.1 q'.2 _ _ _ ?_)
      simp only [Bool.not_true, Bool.false_eq_true, if_false]
      refine wpAny_bind (noC _ _ 8 t q.1 q.2 _ _ _ ?_)
      simp only [Bool.false_eq_true, if_false]
      refine wpAny_bind (noC _ _ 8 t q'.1 q'.2 _ _ _ ?_)
      simp only [Bool.false_eq_true, if_false]
      exact wpAny_pure ⟨rfl, rfl, al'⟩
  · rintro ⟨r1, r2⟩ t ⟨e, rfl, _⟩
    simp only at e
    subst e
    exact wpAny_pure h
end
/-! ### the set -/
def rows1 (w : World) (L : List KIt) : List (Int × Value) := L.map (ent1 w)
def hashs (w : World) (L : List KIt) : List Int := L.map fun z => hs1 w z.2
/-- at a stands a set of the rows L -/
structure NS (w : World) (g : Heap) (a : Addr) (L : List KIt) (r : Array (Int × Value)) (n : Nat) (T : SetTable) : Prop where
  ob : ∃ o, g.get? a = some o ∧ o.ExactSet ∧ o.data = .set r n T
  rw : r.toList = rows1 w L
  tb : TabOk T (hashs w L)
  nd : (L.map (·.2)).Nodup
  ky : ∀ z ∈ L, KeyAt g z
  ld : w.params.followText "set-order" = true ∨ T.led = true
  rm : L.length * 5 < T.mask * 3
  fw : L.length < 64
theorem rows_len {w : World} {L : List KIt} {r : Array (Int × Value)} (h : r.toList = rows1 w L) : r.size = L.length := by
  have z := congrArg List.length h
  unfold rows1 at z
  rwa [Array.length_toList, List.length_map] at z
theorem hashs_len (w : World) (L : List KIt) : (hashs w L).length = L.length := List.length_map _
section
variable {P : Program} {w : World} {A : Around} {E : Value → Shared → Prop} {s : Shared} {a : Addr} {L : List KIt} {r : Array (Int × Value)} {n : Nat} {T : SetTable}
theorem NS.fits {g : Heap} (R : NS w g a L r n T) : T.fits r.size = true := by
  have z1 := R.tb.sz
  rw [hashs_len] at z1
  have z2 := rows_len R.rw
  have z3 := R.rm
  unfold SetTable.fits SetTable.fill
  rw [R.tb.dm, Bool.and_eq_true, beq_iff_eq, decide_eq_true_eq]
  exact ⟨by omega, by simp; omega⟩
theorem NS.at {g : Heap} (R : NS w g a L r n T) {i : Nat} {z : KIt} (h : L[i]? = some z) : r[i]? = some (ent1 w z) := by
  rw [← Array.getElem?_toList, R.rw]
  unfold rows1
  rw [List.getElem?_map, h]
  rfl
theorem NS.open {g : Heap} (R : NS w g a L r n T) : ¬ T.gaveWay = true := by
  unfold SetTable.gaveWay
  rw [mask_odd R.tb.mok]
  decide
theorem NS.up {g g' : Heap} (R : NS w g a L r n T) (m : ∀ b o, g.get? b = some o → g'.get? b = some o) : NS w g' a L r n T := by
  obtain ⟨o, e, q⟩ := R.ob
  exact ⟨⟨o, m _ _ e, q⟩, R.rw, R.tb, R.nd, fun z hz => (R.ky z hz).up m, R.ld, R.rm, R.fw⟩
theorem plainDummy (m : Nat) : ∀ (c : Nat) (p : SetTable.Probe), p.dummy = none → (nth m p c).dummy = none
  | 0, _, h => h
  | c + 1, p, h => plainDummy m c (adv m p) (by unfold adv; split <;> exact h)
/-- looking for a key on its way from step c on; K: the first empty place of the way -/
theorem look_from (R : NS w s.heap a L r n T) {z : KIt} (hz : KeyAt s.heap z) (hu : A.units + 8 < cLine) {K : Nat} (kf : K < 10 * SetTable.turns T.mask) (kn : way T.mask (hs1 w z.2) K ∉ T.place.toList)
    (kb : ∀ c, c < K → way T.mask (hs1 w z.2) c ∈ T.place.toList) {Q : SetFound → Shared → Prop} (yes : z.2 ∈ L.map (·.2) → Q (.there none) s) (no : z.2 ∉ L.map (·.2) → Q (.free (way T.mask (hs1 w z.2) K) false) s) :
    ∀ (f c : Nat) (at0 : Option SetTable.Probe), at0.getD (T.probeStart (hs1 w z.2)) = nth T.mask (runAt T.mask (SetTable.bits (hs1 w z.2) % (T.mask + 1)) (SetTable.bits (hs1 w z.2))) c → c ≤ K → K < f + c →
      (∀ (i : Nat) y, L[i]? = some y → y.2 = z.2 → ∃ d, c ≤ d ∧ d < K ∧ T.place.toList[i]? = some (way T.mask (hs1 w z.2) d)) →
      wpAny (model P w) A (setSearchFrom a (.ref z.1) (hs1 w z.2) true f at0) Q E s
  | 0, c, _, _, l1, l2, _ => by omega
  | f + 1, c, at0, e0, l1, l2, ahead => by
    obtain ⟨o, ho, hx, hd⟩ := R.ob
    rw [setSearchFrom_succ]
    refine wpAny_bind (wpAny_setState_of ho hd R.fits ?_)
    dsimp only
    refine wp_if_neg R.open ?_
    try refine wpAny_bind (wpAny_pure ?_)
    generalize hk : hs1 w z.2 = k at e0 kn kb ahead no ⊢
    generalize hB : runAt T.mask (SetTable.bits k % (T.mask + 1)) (SetTable.bits k) = B at e0
    have dn : (nth T.mask B c).dummy = none := plainDummy _ c B (by rw [← hB]; rfl)
    have wq : ∀ q, (nth T.mask (nth T.mask B c) q).j = way T.mask k (c + q) := fun q => by
      rw [← nth_add, ← hB]
    have lastE : (nth T.mask (nth T.mask B c) (K - c)).j = way T.mask k K := by rw [wq, Nat.add_sub_cancel' l1]
    have hh : ∀ (i : Nat) (y : KIt), L[i]? = some y → (fun i => (r[i]?.map (·.1)).getD 0) i = hs1 w y.2 := fun i y hy => by
      simp only [R.at hy]
      rfl
    rcases go_spec T R.tb.ris R.tb.dm (fun i => (r[i]?.map (·.1)).getD 0) k (10 * SetTable.turns T.mask) (K - c) (nth T.mask B c) dn (by omega) (fun q hq => by rw [wq]; exact kb _ (by omega)) (by rw [lastE]; exact kn) with ⟨q, i, hq, hi, hm, none_before, found⟩ | ⟨none_before, found⟩
    · rw [wq] at hi found
      have pr : T.probe (fun i => (r[i]?.map (·.1)).getD 0) k (at0.getD (T.probeStart k)) = some (.candidate (way T.mask k (c + q)) i (nth T.mask (nth T.mask B c) (q + 1))) := by
        rw [e0]
        exact found
      rw [pr]
      dsimp only
      have il : i < L.length := by
        have z1 := (List.getElem?_eq_some_iff.mp hi).1
        have z2 := R.tb.sz
        rw [hashs_len] at z2
        rw [Array.length_toList] at z1
        omega
      obtain ⟨y, hy⟩ : ∃ y, L[i]? = some y := ⟨_, List.getElem?_eq_getElem il⟩
      have ym := List.mem_of_getElem? hy
      have main : wpAny (model P w) A (searchRest a (.ref z.1) k true f r T (way T.mask k (c + q)) i (nth T.mask (nth T.mask B c) (q + 1))) Q E s := by
        unfold searchRest
        rw [R.at hy]
        dsimp only [ent1]
        refine wpAny_bind (wpAny_holding ((nestedKind P w).eqBool (x := y.2) (y := z.2) hu (R.ky y ym) hz ?_))
        refine wpAny_bind (wpAny_setState_of ho hd R.fits ?_)
        dsimp only
        by_cases same : y.2 = z.2
        · refine wp_if_pos (by simp [same]) (wpAny_pure (yes ?_))
          exact List.mem_map.mpr ⟨y, ym, same⟩
        · refine wp_if_neg (by simp [same]) ?_
          try refine wpAny_bind (wpAny_pure ?_)
          rw [sameMem]
          dsimp only
          have sl : T.slot (way T.mask k (c + q)) = .live i := slot_live R.tb.ris hi
          simp only [if_true, sl, R.at hy]
          refine wpAny_bind (wpAny_isSame_ref_self (wpAny_bind (wpAny_pure ?_)))
          simp only [if_true]
          refine wp_if_neg (by simp [same]) ?_
          rw [← hk]
          refine look_from R hz hu kf (by rw [hk]; exact kn) (by rw [hk]; exact kb) yes (by rw [hk]; exact no) f (c + (q + 1)) _ (by rw [hk, hB]; exact (nth_add _ c B (q + 1)).symm) (by omega) (by omega) fun i' y' h1 h2 => ?_
          rw [hk]
          obtain ⟨d, b1, b2, b3⟩ := ahead i' y' h1 h2
          refine ⟨d, ?_, b2, b3⟩
          have hy' : (fun i => (r[i]?.map (·.1)).getD 0) i' = k := by rw [hh i' y' h1, h2]; exact hk
          by_cases d1 : d < c + q
          · exact absurd hy' (none_before (d - c) i' (by omega) (by rw [wq, Nat.add_sub_cancel' b1]; exact b3))
          · by_cases d2 : d = c + q
            · have s2 := slot_live R.tb.ris b3
              rw [d2, sl] at s2
              injection s2 with s2
              rw [← s2, hy] at h1
              cases h1
              exact absurd h2 same
            · omega
      by_cases led : T.led = true
      · refine wp_if_neg (by simp [led]) ?_
        try refine wpAny_bind (wpAny_pure ?_)
        exact main
      · refine wp_if_pos (by simp [led]) ?_
        refine wpAny_bind (unseen hz (fun u hu => ?_) ?_)
        · obtain ⟨e, he, rfl⟩ := List.mem_map.mp hu
          have h1 : e ∈ r.toList := by
            have : e ∈ r ∧ e.1 = k := by simpa using he
            simpa using this.1
          rw [R.rw] at h1
          obtain ⟨z', hz', rfl⟩ := List.mem_map.mp h1
          exact ⟨z', rfl, R.ky z' hz'⟩
        · refine wp_if_neg (by decide) ?_
          try refine wpAny_bind (wpAny_pure ?_)
          exact main
    · rw [lastE] at found
      have pr : T.probe (fun i => (r[i]?.map (·.1)).getD 0) k (at0.getD (T.probeStart k)) = some (.empty (way T.mask k K) none) := by
        rw [e0]
        exact found
      rw [pr]
      dsimp only
      refine wpAny_pure (no fun hm => ?_)
      obtain ⟨y, ym, ye⟩ := List.mem_map.mp hm
      obtain ⟨i, il, ie⟩ := List.getElem_of_mem ym
      have hy : L[i]? = some y := by rw [List.getElem?_eq_getElem il, ie]
      obtain ⟨d, b1, b2, b3⟩ := ahead i y hy ye
      exact none_before (d - c) i (by omega) (by rw [wq, Nat.add_sub_cancel' b1]; exact b3) ((hh i y hy).trans (by rw [ye]; exact hk))
theorem look (R : NS w s.heap a L r n T) {z : KIt} (hz : KeyAt s.heap z) (hu : A.units + 8 < cLine) {Q : SetFound → Shared → Prop} (yes : z.2 ∈ L.map (·.2) → Q (.there none) s)
    (no : ∀ K, z.2 ∉ L.map (·.2) → way T.mask (hs1 w z.2) K ∉ T.place.toList → (∀ c, c < K → way T.mask (hs1 w z.2) c ∈ T.place.toList) → Q (.free (way T.mask (hs1 w z.2) K) false) s) :
    wpAny (model P w) A (setSearch a (.ref z.1) (hs1 w z.2) true) Q E s := by
  have rm := R.rm
  obtain ⟨K, k1, k2, k3⟩ := R.tb.first (by rw [hashs_len]; omega) (hs1 w z.2)
  have tn : 10 * SetTable.turns T.mask ≤ 1420 := by
    unfold SetTable.turns
    rcases R.tb.mok with e | e | e <;> omega
  unfold setSearch
  refine look_from R hz hu k1 k2 k3 yes (fun h => no K h k2 k3) 100000 0 none rfl (Nat.zero_le _) (by omega) fun i y hy ye => ?_
  have hi : (hashs w L)[i]? = some (hs1 w z.2) := by
    unfold hashs
    rw [List.getElem?_map, hy, ← ye]
    rfl
  have il : i < T.place.toList.length := by
    have z1 := (List.getElem?_eq_some_iff.mp hy).1
    have z2 := R.tb.sz
    rw [hashs_len] at z2
    rw [Array.length_toList]
    omega
  obtain ⟨c, c1, c2⟩ := R.tb.before k2 hi (List.getElem?_eq_getElem il)
  exact ⟨c, Nat.zero_le _, c1, by rw [List.getElem?_eq_getElem il, c2]⟩
theorem rows_ins (w : World) (L : List KIt) (p : Nat) (z : KIt) : rows1 w (L.take p ++ z :: L.drop p) = (rows1 w L).take p ++ ent1 w z :: (rows1 w L).drop p := by
  simp only [rows1, List.map_append, List.map_cons, List.map_take, List.map_drop]
theorem hashs_ins (w : World) (L : List KIt) (p : Nat) (z : KIt) : hashs w (L.take p ++ z :: L.drop p) = (hashs w L).take p ++ hs1 w z.2 :: (hashs w L).drop p := by
  simp only [hashs, List.map_append, List.map_cons, List.map_take, List.map_drop]
theorem order_it {w : World} {L : List KIt} {r : Array (Int × Value)} (hr : r.toList = rows1 w L) (order : Array Nat) (pm : order.toList.Perm (List.range L.length)) :
    ∃ M : List KIt, (order.filterMap (r[·]?)).toList = rows1 w M ∧ M.Perm L ∧ hashs w M = order.toList.map fun i => (r.map (·.1)).getD i 0 := by
  have rn := rows_len hr
  have ra : ∀ i (h : i < L.length), r[i]? = some (ent1 w L[i]) := fun i h => by
    rw [← Array.getElem?_toList, hr]
    unfold rows1
    rw [List.getElem?_map, List.getElem?_eq_getElem h]
    rfl
  have each : ∀ l : List Nat, (∀ i ∈ l, i < L.length) → l.filterMap (fun i => r[i]?) = rows1 w (l.filterMap fun i => L[i]?) ∧ hashs w (l.filterMap fun i => L[i]?) = l.map fun i => (r.map (·.1)).getD i 0 := by
    intro l
    induction l with
    | nil => exact fun _ => ⟨rfl, rfl⟩
    | cons i l ih =>
      intro hl
      have il := hl i List.mem_cons_self
      obtain ⟨i1, i2⟩ := ih fun j hj => hl j (List.mem_cons_of_mem _ hj)
      have e0 : (r.map (·.1)).getD i 0 = hs1 w L[i].2 := by
        rw [Array.getD_eq_getD_getElem?, Array.getElem?_map, ra i il]
        rfl
      rw [List.filterMap_cons_some (ra i il), List.filterMap_cons_some (List.getElem?_eq_getElem il), List.map_cons, i1, e0, ← i2]
      exact ⟨rfl, rfl⟩
  obtain ⟨m1, m2⟩ := each order.toList fun i hi => List.mem_range.mp (pm.mem_iff.mp hi)
  have whole : ∀ m, m ≤ L.length → (List.range m).filterMap (fun i => L[i]?) = L.take m := by
    intro m
    induction m with
    | zero => exact fun _ => rfl
    | succ m ih =>
      intro hm
      rw [List.range_succ, List.filterMap_append, ih (Nat.le_of_succ_le hm), List.take_add_one, List.getElem?_eq_getElem hm, List.filterMap_cons_some (List.getElem?_eq_getElem hm)]
      rfl
  refine ⟨order.toList.filterMap fun i => L[i]?, by rw [← m1]; simp, ?_, m2⟩
  have q := pm.filterMap fun i => L[i]?
  rwa [whole L.length (Nat.le_refl _), List.take_length] at q
theorem relay {o : Obj} (ho : s.heap.get? a = some o) (hx : o.ExactSet) (hd : o.data = .set r n T) (hr : r.toList = rows1 w L) (sz : T.place.size = r.size) (dm : T.dummies = #[]) (fl : r.size ≤ T.mask) (nd : (L.map (·.2)).Nodup) (ky : ∀ z ∈ L, KeyAt s.heap z)
    (ld : w.params.followText "set-order" = true ∨ T.led = true) (fw : L.length < 64) {want M : Nat} (e1 : SetTable.sizeAbove want - 1 = M) (hM : MaskOk M) (e2 : SetTable.sizeAbove want ≤ 128) (rm : L.length * 5 < M * 3) {Q : Unit → Shared → Prop}
    (k : ∀ g' L' r' n' T', Heap.SameBut a s.heap g' → NS w g' a L' r' n' T' → L'.Perm L → Q () { s with heap := g' }) : wpAny (model P w) A (setRelay a want) Q E s := by
  have rn := rows_len hr
  have ft : T.fits r.size = true := by
    unfold SetTable.fits SetTable.fill
    rw [dm, Bool.and_eq_true, beq_iff_eq, decide_eq_true_eq]
    exact ⟨sz, by simp; omega⟩
  obtain ⟨T', order, f1, f2, f3, f4, f5, _, _⟩ := relaid_ok T (hs := r.map (·.1)) (wanted := want) e1 hM (by rw [Array.size_map, rn]; omega)
  rw [Array.size_map, rn] at f2
  obtain ⟨L', g1, g2, g3⟩ := order_it hr order f2
  rw [← g3] at f3
  have sz' : (order.filterMap (r[·]?)).size = r.size := by
    rw [rows_len g1, g2.length_eq, rn]
  rw [setRelay_eq]
  refine wpAny_bind (wpAny_setState_of ho hd ft ?_)
  dsimp only
  refine wp_if_neg (by rw [sizeLine_eq]; omega) ?_
  try refine wpAny_bind (wpAny_pure ?_)
  rw [f1]
  dsimp only
  refine wpAny_bind (wp_if_neg (by rw [sz']; simp) ?_)
  try refine wpAny_bind (wpAny_pure ?_)
  refine wpAny_pure ?_
  dsimp only
  refine wpAny_storeSet_of ho hd ?_ (by rw [sz', rn, sizeLine_eq]; omega)
  have sb : Heap.SameBut a s.heap (s.heap.update a (Obj.putSet (order.filterMap (r[·]?)) T')) := Heap.SameBut.update ..
  exact k _ L' _ (n + 1) T' sb ⟨⟨_, store_at ho hd, ⟨hx.1, hx.2.1, hx.2.2⟩, rfl⟩, g1, f3, (g2.map (·.2)).nodup_iff.mpr nd, fun z hz => (ky z (g2.mem_iff.mp hz)).but ho hd sb, by rw [f5]; exact ld, by rw [g2.length_eq, f4]; exact rm, by rw [g2.length_eq]; exact fw⟩ g2
/-- a table without the word that its hashes are plain -/
def dl (T : SetTable) : SetTable := { T with plain := false }
theorem dl_ok {T : SetTable} {hs : List Int} (h : TabOk T hs) : TabOk (dl T) hs := ⟨h.ris, h.dm, h.sz, h.mok, h.bd, h.reach⟩
theorem put_it (R : NS w s.heap a L r n T) {z : KIt} (hz : KeyAt s.heap z) (hu : A.units + 8 < cLine) (fw : L.length + 1 < 64) {Q : Bool → Shared → Prop}
    (k : ∀ b g' L' r' n' T', Heap.SameBut a s.heap g' → NS w g' a L' r' n' T' → (z.2 ∈ L.map (·.2) → L' = L) → (z.2 ∉ L.map (·.2) → L'.Perm (z :: L)) → Q b { s with heap := g' }) :
    wpAny (model P w) A (setAddHashed a (.ref z.1) (hs1 w z.2)) Q E s := by
  obtain ⟨o, ho, hx, hd⟩ := R.ob
  have rn := rows_len R.rw
  have rm := R.rm
  unfold setAddHashed
  refine wpAny_holding ?_
  rw [show (100000 : Nat) = 99999 + 1 from rfl, setAddHashedIn_succ]
  refine wpAny_bind (wpAny_setState_of ho hd R.fits ?_)
  dsimp only
  refine wp_if_neg (by simp [byScan, Value.scannable]) ?_
  try refine wpAny_bind (wpAny_pure ?_)
  refine wpAny_bind (look R hz hu (fun hm => ?_) fun K hm kn kb => ?_)
  · dsimp only
    exact wpAny_pure (k false s.heap L r n T (Heap.SameBut.refl a s.heap) R (fun _ => rfl) fun e => absurd hm e)
  dsimp only
  refine wpAny_bind (wpAny_setState_of ho hd R.fits ?_)
  dsimp only
  obtain ⟨q1, q2, q3, q4, q5, q6, q7, q8, q9⟩ := R.tb.put kn kb
  generalize hpt : T.put (way T.mask (hs1 w z.2) K) = pt at q1 q3 q4 q5 q6 q7 q8 q9 ⊢
  obtain ⟨T1, p⟩ := pt
  dsimp only at q1 q3 q4 q5 q6 q7 q8 q9 ⊢
  subst q1
  generalize SetTable.below T.place (way T.mask (hs1 w z.2) K) = p at q2 q3 ⊢
  have pm := put_perm L p z
  have hin : (SetTable.insertAt r p (hs1 w z.2, .ref z.1)).toList = rows1 w (L.take p ++ z :: L.drop p) := by
    rw [SetTable.toList_insertAt, rows_ins, R.rw]
    rfl
  rw [← hashs_ins] at q3
  have nd1 : ((L.take p ++ z :: L.drop p).map (·.2)).Nodup := (pm.map (·.2)).nodup_iff.mpr (by rw [List.map_cons]; exact List.nodup_cons.mpr ⟨hm, R.nd⟩)
  rw [hashs_len] at q9
  -- behind the question whether the hash is by value
  have fin : ∀ T2 : SetTable, TabOk T2 (hashs w (L.take p ++ z :: L.drop p)) → T2.mask = T.mask → T2.led = T.led → T2.fill = L.length + 1 → wpAny (model P w) A (do
      storeSet a (SetTable.insertAt r p (hs1 w z.2, .ref z.1)) T2
      if (!false && T2.tooFull) = true then setRelay a (SetTable.grown (r.size + 1))
      return true) Q E s := fun T2 t1 t2 t3 t4 => by
    generalize L.take p ++ z :: L.drop p = M at pm hin nd1 t1
    have ml : M.length = L.length + 1 := pm.length_eq
    have rl := rows_len hin
    generalize SetTable.insertAt r p (hs1 w z.2, .ref z.1) = r1 at hin rl ⊢
    refine wpAny_bind (wpAny_storeSet_of ho hd ?_ (by rw [rl, ml, sizeLine_eq]; omega))
    have sb : Heap.SameBut a s.heap (s.heap.update a (Obj.putSet r1 T2)) := Heap.SameBut.update ..
    have ho1 := store_at (es' := r1) (t' := T2) ho hd
    generalize s.heap.update a (Obj.putSet r1 T2) = g1 at sb ho1 ⊢
    have ky1 : ∀ y ∈ M, KeyAt g1 y := fun y hy => by
      rcases List.mem_cons.mp (pm.mem_iff.mp hy) with e | e
      · rw [e]
        exact hz.but ho hd sb
      · exact (R.ky y e).but ho hd sb
    have ld1 : w.params.followText "set-order" = true ∨ T2.led = true := by rw [t3]; exact R.ld
    have tf : T2.tooFull = true ↔ T.mask * 3 ≤ (L.length + 1) * 5 := by
      unfold SetTable.tooFull
      rw [decide_eq_true_eq, t4, t2]
    by_cases full : T2.tooFull = true
    · first
        | (refine wpAny_bind ?_; refine wp_if_pos (by simp [full]) ?_)
        | (refine wp_if_pos (by simp [full]) ?_; refine wpAny_bind ?_)
      have fl := tf.mp full
      have sz1 : T2.place.size = r1.size := by
        have h := t1.sz
        rw [hashs_len] at h
        omega
      have two : (T.mask = 7 ∧ L.length = 4) ∨ (T.mask = 31 ∧ L.length = 18) := by
        rcases R.tb.mok with e | e | e <;> rw [e] at fl rm
        · exact .inl ⟨e, by omega⟩
        · exact .inr ⟨e, by omega⟩
        · omega
      have go : ∀ m, SetTable.sizeAbove (SetTable.grown (r.size + 1)) - 1 = m → MaskOk m → SetTable.sizeAbove (SetTable.grown (r.size + 1)) ≤ 128 → (L.length + 1) * 5 < m * 3 → wpAny (model P w) A (setRelay a (SetTable.grown (r.size + 1))) (fun _ s' => wpAny (model P w) A (pure true) Q E s') E { s with heap := g1 } := fun m x1 x2 x3 x4 => by
        refine relay (s := { s with heap := g1 }) ho1 ⟨hx.1, hx.2.1, hx.2.2⟩ rfl hin sz1 t1.dm (by rcases two with ⟨e, e2⟩ | ⟨e, e2⟩ <;> omega) nd1 ky1 ld1 (by omega) x1 x2 x3 (by rw [ml]; exact x4) fun g2 L2 r2 n2 T3 sb2 R2 pm2 => ?_
        exact wpAny_pure (k true g2 L2 r2 n2 T3 (sb.trans sb2) R2 (fun e => absurd e hm) fun _ => pm2.trans pm)
      rcases two with ⟨_, e2⟩ | ⟨_, e2⟩
      · exact go 31 (by rw [rn, e2, size_20]) (.inr (.inl rfl)) (by rw [rn, e2, size_20]; decide) (by omega)
      · exact go 127 (by rw [rn, e2, size_76]) (.inr (.inr rfl)) (by rw [rn, e2, size_76]; decide) (by omega)
    · first
        | refine wp_if_neg (by simp [full]) ?_
        | (refine wpAny_bind ?_; refine wp_if_neg (by simp [full]) ?_; refine wpAny_pure ?_)
      refine wpAny_pure (k true g1 M r1 (n + 1) T2 sb ⟨⟨_, ho1, ⟨hx.1, hx.2.1, hx.2.2⟩, rfl⟩, hin, t1, nd1, ky1, ld1, ?_, by omega⟩ (fun e => absurd e hm) fun _ => pm)
      rw [ml, t2]
      have := mt tf.mpr full
      omega
  by_cases pl : T1.plain = true
  · first
      | (refine wpAny_bind ?_; refine wp_if_pos pl ?_; refine hby _ _ 8 s hz.1 hz.2 _ _ _ fun b => ?_)
      | refine wp_if_pos pl (wpAny_bind (hby _ _ 8 s hz.1 hz.2 _ _ _ fun b => ?_))
    cases b with
    | true =>
      simp only [if_true]
      exact fin T1 q3 q4 q5 q9
    | false =>
      simp only [Bool.false_eq_true, if_false]
      exact fin (dl T1) (dl_ok q3) q4 q5 q9
  · first
      | (refine wpAny_bind ?_; refine wp_if_neg pl ?_; refine wpAny_pure ?_)
      | refine wp_if_neg pl (wpAny_bind (wpAny_pure ?_))
    simp only [if_true]
    exact fin T1 q3 q4 q5 q9
end
end NSet
/-! sorting tuples that may be empty; {f(x) for x in xs} and sorted of it, as rules -/
namespace NSet
open PySem PySem.Spec PyProof.Rows L2 PySem.W PySem.SeqAt
set_option autoImplicit false
section
variable {prog : Program} {w : World} {A : Around} {s : Shared}
theorem tup_lt {E : Value → Shared → Prop} {Q : Value → Shared → Prop} {l b : Addr} {xs ys : Array Value} {e r : Nat → Bool} (h1 : s.heap.IsTuple l xs) (h2 : s.heap.IsTuple b ys)
    (he : ∀ j (i1 : j < xs.size) (i2 : j < ys.size), EqAt A.in1 s xs[j] ys[j] (e j)) (hr : ∀ j (i1 : j < xs.size) (i2 : j < ys.size), e j = false → RcLt A.in1 s xs[j] ys[j] (r j))
    (k : Q (.bool (firstLt e r (decide (xs.size < ys.size)) (List.range (min xs.size ys.size)))) s) : wpAny (model prog w) A (call (.builtin "tuple.__lt__") [.ref l, .ref b]) Q E s := by
  obtain ⟨⟨c1, d1, t1, l1⟩, o1, e1, n1, f1⟩ := id h1
  obtain ⟨⟨c2, d2, t2, l2⟩, o2, e2, n2, f2⟩ := id h2
  simp only at e1 f1 e2 f2
  subst e1 f1 e2 f2
  exact call_meets F.slot_tuple_lt ⟨_, o1, rfl⟩ F.entry_tuple_lt (F.args_tuple_lt_2 _ _) (tuple_ltAt l b xs ys n1 n2 d1 d2 l1 l2 e r) ⟨o1, o2, he, hr, k⟩
theorem one_tup {f : Bool} {xs ys : List PyData} {a b : Value} {as bs : List Addr} {E : Value → Shared → Prop} {Q : Bool → Shared → Prop} (ra : Reads s.heap a (.tuple xs) as) (rb : Reads s.heap b (.tuple ys) bs) (al : alike (.tuple xs) (.tuple ys) = true)
    (hu : A.units + min (PyData.tuple xs).depth (PyData.tuple ys).depth < cLine) (hq : Q (dataLt (.tuple xs) (.tuple ys)) s) : wpAny (model prog w) A (oneLt' f a b) Q E s := by
  cases f with
  | false => exact oneLt_alike (fun h => nomatch h) ra rb al (by simp) hu hq
  | true =>
    have al2 : alikeAll xs ys = true := by simpa [alike] using al
    cases ra with
    | @tuple l o vs n _ as1 a1 a2 a3 a4 =>
      cases rb with
      | @tuple l' o' us n' _ bs1 b1 b2 b3 b4 =>
        have z1 : vs.size = xs.length := by simpa using ReadsAll.length _ _ _ a4
        have z2 : us.size = ys.length := by simpa using ReadsAll.length _ _ _ b4
        rw [dataLt_tuple, ← firstLt_toks xs ys al2, ← z1, ← z2] at hq
        rw [oneLt'_eq]
        simp only [if_true]
        refine wpAny_bind (wpAny_cRoomFor (room_here hu) ?_)
        refine wpAny_bind (wpAny_callSpecialIfBound?_slot (T := "tuple") ⟨_, a1, a2⟩ F.slot_tuple_lt (tup_lt (e := pairEq xs ys) (r := fun j => dataLt (xs.getD j .none) (ys.getD j .none)) ⟨_, a1, a2, _, a3⟩ ⟨_, b1, b2, _, b3⟩ (fun j j1 j2 => ?_) (fun j j1 j2 hj => ?_) ?_))
        · have := eqAt_alikeAll xs ys A.in1 s vs.toList us.toList _ _ a4 b4 al2 (room_in hu) j (by simpa using j1) (by simpa using j2)
          simpa using this
        · have := rcLt_alikeAll xs ys A.in1 s vs.toList us.toList _ _ a4 b4 al2 (room_in hu) j (by simpa using j1) (by simpa using j2) hj
          simpa using this
        · exact wpAny_truthy_bool hq
/-- what the sort finds of the first items of the keys -/
theorem firsts {M : Model} {E : Value → Shared → Prop} : ∀ (vs : List Value) {Q : List (Option Value) → Shared → Prop}, (∀ v ∈ vs, ∃ a o xs n, v = .ref a ∧ s.heap.get? a = some o ∧ o.cls = .type "tuple" ∧ o.data = .seq xs n) →
    (∀ fs : List (Option Value), fs.length = vs.length → (fs.all (·.isSome) = true → ∀ v ∈ vs, ∃ a o xs n, v = .ref a ∧ s.heap.get? a = some o ∧ o.data = .seq xs n ∧ xs.size ≠ 0) → Q fs s) → wpAny M A (vs.mapM firstOfTuple') Q E s
  | [], _, _, h => by
    rw [List.mapM_nil]
    exact wpAny_pure (h [] rfl fun _ v hv => nomatch hv)
  | v :: vs, Q, t, h => by
    obtain ⟨a, o, xs, n, rfl, ho, hc, hd⟩ := t v List.mem_cons_self
    rw [List.mapM_cons]
    refine wpAny_bind ?_
    rw [kas_first_eq]
    refine wpAny_bind (Looks.here (show Looks M s.heap (typeOf (.ref a)) o.cls from (Looks.ld ho).andThen .now) ?_)
    rw [hc, if_neg (by first | decide | simp)]
    refine wpAny_bind (listItems_at ho hd (wpAny_pure ?_))
    refine wpAny_bind (firsts vs (fun u hu => t u (List.mem_cons_of_mem _ hu)) fun fs l1 l2 => wpAny_pure (h _ (by rw [List.length_cons, List.length_cons, l1]) fun al u hu => ?_))
    rw [List.all_cons, Bool.and_eq_true] at al
    rcases List.mem_cons.mp hu with e | e
    · refine ⟨a, o, xs, n, e, ho, hd, fun z => ?_⟩
      have : xs[0]? = none := by rw [Array.getElem?_eq_none]; omega
      rw [this] at al
      exact absurd al.1 (by simp)
    · exact l2 al.2 u e
theorem each_val {α : Type} {R : Value → α → Prop} : ∀ {us : List Value} {bs : List α}, EachIs R us bs → ∀ u ∈ us, ∃ b ∈ bs, R u b
  | _, _, .nil, u, h => nomatch h
  | _, _, .cons a t, u, h => by
    rcases List.mem_cons.mp h with e | e
    · exact ⟨_, List.mem_cons_self, e ▸ a⟩
    · obtain ⟨b, h1, h2⟩ := each_val t u e
      exact ⟨b, List.mem_cons_of_mem _ h1, h2⟩
/-- tuples that read as alike data can be sorted, empty ones too -/
theorem sorts_tups {vs : List Value} {ds : List PyData} (e : EachIs (fun v d => ∃ as, Reads s.heap v d as) vs ds) (al : AllAlike ds) (tp : ∀ d ∈ ds, ∃ xs, d = .tuple xs) (hu : ∀ d, d ∈ ds → A.units + d.depth < cLine) : SortsAt prog w A s (dataKind s.heap ds) vs := by
  by_cases ne : ∀ d ∈ ds, ∃ x r, d = PyData.tuple (x :: r)
  · exact SortsAt.data e al (.inl ne) hu
  have room : ∀ {d d' : PyData}, d ∈ ds → A.units + min d.depth d'.depth < cLine := fun {d d'} hd => Nat.lt_of_le_of_lt (Nat.add_le_add_left (Nat.min_le_left _ _) _) (hu d hd)
  have lt : ∀ f : Bool, ∀ (E : Value → Shared → Prop) {x y : Value} (p q : (dataKind s.heap ds).α) {Q : Bool → Shared → Prop}, (dataKind s.heap ds).keyOf x = some p → (dataKind s.heap ds).keyOf y = some q → Q ((dataKind s.heap ds).blt p q) s → wpAny (model prog w) A (oneLt' f x y) Q E s := by
    intro f E x y p q Q hx hy hq
    obtain ⟨d, as, hd, ra, rfl⟩ := dataKind_inv hx
    obtain ⟨d', as', hd', rb, rfl⟩ := dataKind_inv hy
    have hal := al d hd d' hd'
    have hr := room (d' := d') hd
    obtain ⟨xs, rfl⟩ := tp d hd
    obtain ⟨ys, rfl⟩ := tp d' hd'
    exact one_tup ra rb hal hr hq
  have tv : ∀ v ∈ vs, ∃ a o xs n, v = .ref a ∧ s.heap.get? a = some o ∧ o.cls = .type "tuple" ∧ o.data = .seq xs n := fun v hv => by
    obtain ⟨d, hd, as, r⟩ := each_val e v hv
    obtain ⟨xs, rfl⟩ := tp d hd
    cases r with
    | @tuple l o us n _ _ a1 a2 a3 a4 => exact ⟨l, o, us, n, rfl, a1, a2, a3⟩
  have keys : ∀ v, v ∈ vs → ∃ a, (dataKind s.heap ds).keyOf v = some a := fun v hv => by
    obtain ⟨d, hd, as, r⟩ := each_val e v hv
    exact ⟨_, dataKind_some al hd r⟩
  -- which kind it is depends on the first key alone
  have kindly : ∀ (kd : SortKind), kd = general' ∨ kd = oneType' → H.LtAt prog w A s (dataKind s.heap ds) kd := by
    rintro kd (rfl | rfl) E x y a b Q hx hy hq
    · exact lt false E _ _ hx hy hq
    · exact lt true E _ _ hx hy hq
  by_cases h3 : ¬ 2 ≤ vs.length
  · exact ⟨keys, general', kindly _ (.inl rfl), fun h => absurd h h3⟩
  have h2 : 2 ≤ vs.length := Classical.not_not.mp h3
  obtain ⟨v1, rest, rfl⟩ : ∃ v1 rest, vs = v1 :: rest := by
    match vs, h2 with
    | v1 :: rest, _ => exact ⟨v1, rest, rfl⟩
  obtain ⟨a0, o0, xs0, n0, rfl, q1, q2, q3⟩ := tv v1 List.mem_cons_self
  have notall : ∀ fs : List (Option Value), (fs.all (·.isSome) = true → ∀ v ∈ Value.ref a0 :: rest, ∃ a o xs n, v = .ref a ∧ s.heap.get? a = some o ∧ o.data = .seq xs n ∧ xs.size ≠ 0) → fs.all (·.isSome) = false := fun fs h => by
    rw [Bool.eq_false_iff]
    intro z
    refine ne fun d hd => ?_
    obtain ⟨xs, rfl⟩ := tp d hd
    have h' := h z
    obtain ⟨v, hv, as, r⟩ : ∃ v ∈ Value.ref a0 :: rest, ∃ as, Reads s.heap v (.tuple xs) as := by
      have gen : ∀ {us : List Value} {bs : List PyData}, EachIs (fun v d => ∃ as, Reads s.heap v d as) us bs → PyData.tuple xs ∈ bs → ∃ v ∈ us, ∃ as, Reads s.heap v (.tuple xs) as := by
        intro us bs E
        induction E with
        | nil => exact fun h => nomatch h
        | cons a t ih =>
          intro h
          rcases List.mem_cons.mp h with e | e
          · exact ⟨_, List.mem_cons_self, e ▸ a⟩
          · obtain ⟨v, h1, h2⟩ := ih e
            exact ⟨v, List.mem_cons_of_mem _ h1, h2⟩
      exact gen e hd
    obtain ⟨a, o, us, n, rfl, e1, e2, e3⟩ := h' v hv
    cases r with
    | @tuple l o' us' n' _ _ b1 b2 b3 b4 =>
      rw [e1] at b1
      cases b1
      rw [e2] at b3
      cases b3
      have z : us.toList.length = xs.length := SeqAt.ReadsAll.length _ _ _ b4
      rw [Array.length_toList] at z
      match xs, z with
      | [], z => exact absurd z e3
      | x :: r, _ => exact ⟨x, r, rfl⟩
  by_cases z0 : xs0.size = 0
  · refine ⟨keys, oneType', kindly _ (.inr rfl), fun _ E Q hq => ?_⟩
    rw [kat_kind_eq, List.mapM_toArray, map_eq_pure_bind, List.mapM_cons]
    refine wpAny_bind (wpAny_bind (wpAny_bind ?_))
    rw [kas_first_eq]
    refine wpAny_bind (Looks.here (show Looks (model prog w) s.heap (typeOf (.ref a0)) o0.cls from (Looks.ld q1).andThen .now) ?_)
    rw [q2, if_neg (by first | decide | simp)]
    refine wpAny_bind (listItems_at q1 q3 (wpAny_pure ?_))
    have n0' : xs0[0]? = none := by rw [Array.getElem?_eq_none]; omega
    rw [n0']
    refine wpAny_bind (firsts rest (fun u hu => tv u (List.mem_cons_of_mem _ hu)) fun fs l1 l2 => wpAny_pure (wpAny_pure ?_))
    rw [if_neg (by simp), if_neg (by simp)]
    rw [oneTypeOnly'_eq, List.mapM_toArray, map_eq_pure_bind]
    refine wpAny_bind (wpAny_bind (wpAny_bind (kas_mapM (r := Value.type "tuple") _ (fun v hv Q' hq' => ?_) (wpAny_pure ?_))))
    · obtain ⟨a, o, xs, n, rfl, e1, e2, e3⟩ := tv v hv
      exact Looks.here (show Looks (model prog w) s.heap (typeOf (.ref a)) (Value.type "tuple") from e2 ▸ (Looks.ld e1).andThen .now) hq'
    · have z1 : ((Value.ref a0 :: rest).map fun _ => Value.type "tuple").toArray[0]? = some (Value.type "tuple") := by simp
      rw [z1]
      have z2 : (((Value.ref a0 :: rest).map fun _ => Value.type "tuple").toArray.all fun x => x == Value.type "tuple") = true := by
        simp only [List.all_toArray, List.all_map, List.all_eq_true]
        intro _ _
        exact beq_self_eq_true _
      simp only [z2, if_true]
      exact wpAny_pure (wpAny_pure hq)
  · refine ⟨keys, general', kindly _ (.inl rfl), fun _ E Q hq => ?_⟩
    rw [kat_kind_eq, List.mapM_toArray, map_eq_pure_bind]
    refine wpAny_bind (wpAny_bind ?_)
    rw [List.mapM_cons]
    refine wpAny_bind ?_
    rw [kas_first_eq]
    refine wpAny_bind (Looks.here (show Looks (model prog w) s.heap (typeOf (.ref a0)) o0.cls from (Looks.ld q1).andThen .now) ?_)
    rw [q2, if_neg (by first | decide | simp)]
    refine wpAny_bind (listItems_at q1 q3 (wpAny_pure ?_))
    obtain ⟨f, hf⟩ : ∃ f, xs0[0]? = some f := ⟨xs0[0]'(by omega), Array.getElem?_eq_getElem _⟩
    rw [hf]
    refine wpAny_bind (firsts rest (fun u hu => tv u (List.mem_cons_of_mem _ hu)) fun fs l1 l2 => wpAny_pure (wpAny_pure ?_))
    have na := notall (some f :: fs) fun z v hv => by
      rw [List.all_cons, Bool.and_eq_true] at z
      rcases List.mem_cons.mp hv with e | e
      · exact ⟨a0, o0, xs0, n0, e, q1, q3, z0⟩
      · exact l2 z.2 v e
    rw [if_neg (by simpa using na), if_pos (by simp)]
    exact wpAny_pure hq
end
end NSet
/-! the set comprehension, whatever is put in; sets of nested keys and of texts -/
namespace NSet
open PySem PySem.Spec PyProof.Rows L2 PySem.W ND
set_option autoImplicit false
abbrev freshSet (w : World) : Obj := { cls := .type "set", dict := none, data := .set #[] 0 (.fresh 0 0 (!w.params.followText "set-order")) }
/-- what putting y into the set at D asks, N is what must hold behind it -/
abbrev PutR : Type := Addr → V → Hp → (Hp → Prop) → Prop
def Adds (P : Program) (w : World) (K : PySem.W.Frag) (put : PutR) : Prop := ∀ {Y : Cx} {pins : List (Addr × Obj)} {σ : L2.St} {H : Hp} {s : Shared} {E : Value → Shared → Prop} {D : Addr} {y : V} {v : Value} {N : Hp → Prop} {Q : Value → Shared → Prop},
  Y.prog = P → Y.w = w → Y.K = K → Y.A.units + 16 < cLine → Inv Y pins σ H s → RelV y v → put D y H N → (∀ s' H', Inv Y pins σ H' s' → N H' → Q .none s') → wpAny (model P w) Y.A (call (.builtin "set.add") [.ref D, v]) Q E s
def News1 (P : Program) (w : World) (so : Addr → HO) : Prop := ∀ (H : Hp) (h : Heap) (D : Addr), h.get? D = some (freshSet w) → ObjOk P w H h D (so D)
def TurnS (put : PutR) (D : Addr) (g : TG) (tt : TT) (te : TE) (vs : List Nat) (σ : L2.St) (Nx : Hp → Prop) (x : V) (H : Hp) : Prop :=
  g x (wipe σ vs) H fun σ2 H2 => wipe σ2 vs = wipe σ vs ∧ tt σ2 H2 fun b H3 => if b = true then te σ2 H3 fun y H4 => put D y H4 Nx else Nx H3
def tSc (so : Addr → HO) (put : PutR) (wi : TI) (g : TG) (tt : TT) (te : TE) (vs : List Nat) : TE := fun σ H Q => wi σ H fun J H1 =>
  ∀ D, H1 D = none → ∃ W : Nat → Nat → Hp → Prop, (∃ m, W 0 m (upd H1 D (so D))) ∧ ∀ i m H, W i m H →
    (J.stop i H ∧ Q (.ref D) H) ∨ (J.go i H ∧ ∃ Nx : Hp → Prop, (∀ H', Nx H' → ∃ m', m' < m ∧ W (i + 1) m' H') ∧ ∀ x H', J.yld i H x H' → TurnS put D g tt te vs σ Nx x H')
section
variable {X : Cx}
theorem turnS {Y : Cx} {put : PutR} (ad : Adds Y.prog Y.w Y.K put) {pins : List (Addr × Obj)} {ex tg : PySem.Expr} {ifs : List PySem.Expr} {g : TG} {tt : TT} {te : TE} {vs : List Nat} {σ : L2.St} {D : Addr} {Nx : Hp → Prop} {x : V} {u : Value} {s : Shared} {H : Hp}
    {m : Nat} {Iv : Nat → Shared → Prop} {E : Value → Shared → Prop} (hx : ∀ v s, Y.xe v s → False) (hu : Y.A.units + 16 < cLine) (pg : PG Y tg g) (pt : PTs Y ifs tt) (pe : PE Y ex te)
    (I : Inv Y pins (wipe σ vs) H s) (rx : RelV x u) (q : TurnS put D g tt te vs σ Nx x H)
    (fin : ∀ σ' s' H', wipe σ' vs = wipe σ vs → Inv Y pins σ' H' s' → Nx H' → ∃ j, j < m ∧ Iv j s') :
    wpAny (model Y.prog Y.w) Y.A (assign tg Y.env u) (fun _ t1 =>
      wpAny (model Y.prog Y.w) Y.A (forIn ifs true fun c r => if r = true then do let ok ← isTrue c Y.env (eval c Y.env); pure (ForInStep.yield ok) else pure (ForInStep.yield r)) (fun ok t2 =>
        if ok = true then wpAny (model Y.prog Y.w) Y.A (eval ex Y.env) (fun v t3 => wpAny (model Y.prog Y.w) Y.A (call (.builtin "set.add") [.ref D, v]) (fun _ t5 => ∃ j, j < m ∧ Iv j t5) E t3) E t2
        else ∃ j, j < m ∧ Iv j t2) E t1) E s := by
  refine calmE hx (pg.run _ s _ H x u _ I rx q) fun _ t1 ⟨σ1, H1, I1, w1, q1⟩ => ?_
  refine calmE hx (pt.run _ t1 σ1 H1 _ I1 q1) fun b t2 ⟨H2, I2, q2⟩ => ?_
  cases b
  · exact fin σ1 t2 H2 w1 I2 q2
  · refine calmE hx (pe.run _ t2 σ1 H2 _ I2 q2) fun kv t3 ⟨y, H3, I3, ry, q3⟩ => ?_
    exact ad rfl rfl rfl hu I3 ry q3 fun t5 H5 I5 nx => fin σ1 t5 H5 w1 I5 nx
theorem pe_sc {so : Addr → HO} {put : PutR} (ad : Adds X.prog X.w X.K put) (nw : News1 X.prog X.w so) {ex tg iter : PySem.Expr} {ifs : List PySem.Expr} {scope : Scope} {own : List (Str × Nat)} {pos : Pos} {wi : TI} {g : TG} {tt : TT} {te : TE}
    (hu : X.A.units + 16 < cLine) (hc : X.calm = true) (hN : X.N.Nodup) (hi : PI X tg iter wi) (ok : BlkOk X.N X.env.scope scope own)
    (hg : InBlk X scope fun Y => PG Y tg g) (ht : InBlk X scope fun Y => PTs Y ifs tt) (he : InBlk X scope fun Y => PE Y ex te)
    (hs : ∀ x, foldedSetIterable iter X.env x = pure x := by intro _; rfl) :
    PE X (.SetComp ex [⟨tg, iter, ifs, 0⟩] scope pos) (tSc so put wi g tt te (own.map (·.2))) := by
  refine ⟨fun pins s σ H Q I h => ?_⟩
  rw [PpSet.eval_SetComp]
  have frees : ∀ y ∈ scope.names, y.2 = .free → ∃ c, X.env.cells.lookup y.1 = some c := fun y hy e =>
    (ok.free y hy e).elim (fun k => I.ok.has _ (.inl k)) (fun k => I.ok.has _ (.inr k))
  refine wpAny_comprehension_free (use := none) rfl hs (closure_ok frees) ok.kind (fun y hy e => (ok.uniq y hy).trans (congrArg some e)) ?_
  refine thn (hi.run pins s σ H _ I h) fun xv s1 hx => thn hx fun itv s2 ⟨it, fp, tn, J, H2, e, I2, T, st2, f2, q⟩ => ?_
  subst e
  refine PpSet.newSet_ok (newEnv_comp ?_)
  obtain ⟨nd, end_⟩ : ∃ d : Obj, d = { cls := .type "set", dict := none, data := .set #[] 0 (.fresh 0 0 (!X.w.params.followText "set-order")) } := ⟨_, rfl⟩
  rw [← end_]
  obtain ⟨s3, e3⟩ : ∃ t : Shared, t = { s2 with heap := s2.heap.push nd } := ⟨_, rfl⟩
  obtain ⟨D, eD⟩ : ∃ D, D = s2.heap.objs.size := ⟨_, rfl⟩
  have hp3 : s3.heap = s2.heap.push nd := by rw [e3]
  have gone : H2 D = none := I2.hok.fresh (Nat.le_of_eq eD.symm)
  obtain ⟨W, ⟨m0, w0⟩, turn⟩ := q D gone
  have I3 : Inv X pins σ (upd H2 D (so D)) s3 := by
    rw [e3]
    refine I2.laid (t' := s2.toks) (fun b o e => Heap.get?_push_of_some _ e) (Nat.le_of_eq eD.symm) ?_
    refine nw _ _ _ ?_
    rw [eD, end_]
    exact Heap.get?_push_size _ rfl
  have low : ∀ b ∈ fp, b < D := fun b hb => by
    obtain ⟨o, e, _⟩ := T.obj _ _ st2 b hb
    rw [eD]
    exact Heap.lt_size e
  have f3 : ∀ b ∈ fp, FpOk X pins (upd H2 D (so D)) b ∧ b < s3.heap.objs.size := fun b hb => by
    have lt := low b hb
    refine ⟨⟨(upd_ne (Nat.ne_of_lt lt)).trans (f2 b hb).1, (f2 b hb).2⟩, ?_⟩
    rw [hp3, Heap.size_push, ← eD]
    exact Nat.lt_succ_of_lt lt
  have st3 : tn 0 s3.heap := T.keep _ _ _ st2 fun b _ o e => by
    rw [hp3]
    exact Heap.get?_push_of_some _ e
  have I4 := block_start I3 ok hN f3
  have none3 : ∀ b ∈ fp, (upd H2 D (so D)) b = none := fun b hb => (f3 b hb).1.1
  obtain ⟨C, eC⟩ : ∃ C, C = s3.heap.objs.size := ⟨_, rfl⟩
  obtain ⟨cl, ecl⟩ : ∃ cl, cl = cellsFrom (s3.heap.objs.size + 1) scope.names (cloFrom X.env.cells scope.names []) := ⟨_, rfl⟩
  obtain ⟨ev, eev⟩ : ∃ ev, ev = compEnvC scope cl C X.env := ⟨_, rfl⟩
  have atC : ev.locals = s3.heap.objs.size := by
    rw [eev, ← eC]
    rfl
  have pg := hg s3 (upd H2 D (so D)) C cl fp
  have pt := ht s3 (upd H2 D (so D)) C cl fp
  have pe := he s3 (upd H2 D (so D)) C cl fp
  rw [← eev] at pg pt pe
  rw [← ecl, ← eC, ← eev] at I4
  have goal : codeAny (model X.prog X.w) X.A (.compStart (.SetComp ex [⟨tg, iter, ifs, 0⟩] scope pos) 0 (.ref it) (.ref D) ev) (compPost (model X.prog X.w) X.A X.xe none (EP X pins σ Q) (.ref D) C) { s3 with heap := pushCells (s3.heap.push { cls := .type "dict", data := .dict #[] }) scope.names } := ?_
  · rw [eev, ecl, eC, e3, eD] at goal
    exact goal
  generalize hH3 : upd H2 D (so D) = H3 at I3 I4 pg pt pe w0 none3 f3
  generalize hs4 : ({ s3 with heap := pushCells (s3.heap.push { cls := .type "dict", data := .dict #[] }) scope.names } : Shared) = s4 at I4 ⊢
  have st4 : tn 0 s4.heap := T.keep _ _ _ st3 fun b _ o e => by
    rw [← hs4]
    exact pushCells_keeps _ _ _ _ (Heap.get?_push_of_some _ e)
  have quiet : ∀ v s, (X.blk s3 H3 scope ev fp).xe v s → False := fun _ _ z => z
  have keeps : ∀ {σ' : L2.St} {H' : Hp} {s' : Shared}, Inv (X.blk s3 H3 scope ev fp) [] σ' H' s' → (∀ b ∈ fp, H' b = none) → ∀ b ∈ fp, FpOk (X.blk s3 H3 scope ev fp) [] H' b :=
    fun {σ' H' s'} J' nb b hb => ⟨nb b hb, (J'.ok.exf b hb).1, J'.ok.exfs b hb, .inl hb, fun x c e => (J'.ok.exf b hb).2 x c e, fun p hp => (by simp at hp : False).elim⟩
  have loop : codeAny (model X.prog X.w) X.A (.compLoop (.SetComp ex [⟨tg, iter, ifs, 0⟩] scope pos) 0 (.ref it) (.ref D) ev) (compPost (model X.prog X.w) X.A X.xe none (EP X pins σ Q) (.ref D) C) s4 := by
    refine PpSet.compLoopS_any (fun n t => ∃ i G, Inv (X.blk s3 H3 scope ev fp) [] (wipe σ (own.map (·.2))) G t ∧ tn i t.heap ∧ (∀ b ∈ fp, G b = none) ∧ W i n G) ?_ m0 ⟨0, H3, I4, st4, none3, w0⟩
    rintro n s5 ⟨i, G, I5, st5, n5, w5⟩
    rcases turn i n G w5 with ⟨stop, done⟩ | ⟨go, Nx, down, step⟩
    · refine thnF (T.done (X.blk s3 H3 scope ev fp) rfl rfl rfl hc i [] s5 _ G (fun _ _ => False) I5 (keeps I5 n5) st5 stop) fun r s6 ⟨er, I6⟩ => ?_
      subst er
      have I7 : Inv X pins σ G s6 := I3.call' (ch := fp) I6.os I6.base I6.hok I6.bare fun b hb =>
        let z := (f3 b hb).1.2
        ⟨z.2.2.1, z.1, z.2.2.2.1, z.2.2.2.2⟩
      have nC : G s3.heap.objs.size = none := atC ▸ (show G ev.locals = none from I6.free)
      obtain ⟨mm, ns, _⟩ := I6.loc
      have ns : s6.heap.Ns C mm := by
        rw [eC, ← atC]
        exact ns
      obtain ⟨z0, z1, _, z3, z4, z5⟩ := I3.fpOk (Nat.le_refl _) nC
      rw [← eC] at z0 z1 z3 z4 z5
      exact ⟨mm, ns, fun h2 sb => ⟨.ref D, G, I7.turned (t' := s6.toks) (fun b o hb e => (sb.2 b hb).trans e) z0 z1 z3 z4 z5, rfl, done⟩⟩
    · refine thnF (T.item (X.blk s3 H3 scope ev fp) rfl rfl rfl hc i [] s5 _ G (fun _ _ => False) I5 (keeps I5 n5) st5 go) fun r s6 ⟨u, er, h6⟩ => ?_
      subst er
      refine thnF h6 fun _ s7 ⟨x, H7, I7, r7, y7, st7, n7⟩ => ?_
      refine turnS (Y := X.blk s3 H3 scope ev fp) ad (Iv := fun n t => ∃ i G, Inv (X.blk s3 H3 scope ev fp) [] (wipe σ (own.map (·.2))) G t ∧ tn i t.heap ∧ (∀ b ∈ fp, G b = none) ∧ W i n G) quiet hu pg pt pe (I7.pinned (keeps I7 n7) (T.obj _ _ st7)) r7 (step x H7 y7) fun σ' s' G' ww Jv nx => ?_
      obtain ⟨j, lt, w'⟩ := down G' nx
      have pin : ∀ b ∈ fp, ∀ o, s7.heap.get? b = some o → s'.heap.get? b = some o ∧ G' b = none := fun b hb o e =>
        have z := Jv.pin (b, o) (List.mem_append_right _ (List.mem_append_right _ (mem_pinsAt hb e)))
        ⟨z.1, z.2.1⟩
      refine ⟨j, lt, i + 1, G', (Jv.unpinned (pins := [])).weak ?_ fun l v e => ?_, T.keep _ _ _ st7 fun b hb o e => (pin b hb o e).1, fun b hb => ?_, w'⟩
      · rw [← ww, wipe_length]
      · rw [← ww] at e
        exact (wipe_some e).1
      · obtain ⟨o, e, _⟩ := T.obj _ _ st7 b hb
        exact (pin b hb o e).2
  exact PpSet.codeAny_compStart_set loop (T.self X.A 0 _ _ _ st4 loop)
end
/-- by a walk -/
theorem sc_it {so : Addr → HO} {put : PutR} {J : It} {n : Nat} {G : Hp → Prop} {Y : Nat → Hp → V → Hp → Prop} (w : L2.Walk J n G Y) {g : TG} {tt : TT} {te : TE} {vs : List Nat} {σ : L2.St} {H1 : Hp} {D : Addr} {Qd : Hp → Prop}
    (Pv : Nat → Hp → Prop) (h0 : Pv 0 (upd H1 D (so D))) (hG : ∀ i H, i ≤ n → Pv i H → G H) (hs : ∀ i x H H', i < n → Pv i H → Y i H x H' → TurnS put D g tt te vs σ (Pv (i + 1)) x H') (hd : ∀ H, Pv n H → Qd H) :
    ∃ W : Nat → Nat → Hp → Prop, (∃ m, W 0 m (upd H1 D (so D))) ∧ ∀ i m H, W i m H →
      (J.stop i H ∧ Qd H) ∨ (J.go i H ∧ ∃ Nx : Hp → Prop, (∀ H', Nx H' → ∃ m', m' < m ∧ W (i + 1) m' H') ∧ ∀ x H', J.yld i H x H' → TurnS put D g tt te vs σ Nx x H') := by
  refine ⟨fun i m H => i ≤ n ∧ m = n - i ∧ Pv i H, ⟨n, Nat.zero_le _, rfl, h0⟩, ?_⟩
  rintro i m H ⟨hi, rfl, p⟩
  rcases Nat.lt_or_eq_of_le hi with lt | e
  · exact .inr ⟨w.goes i H lt (hG i H hi p), Pv (i + 1), fun H' p' => ⟨n - (i + 1), by omega, lt, rfl, p'⟩, fun x H' y => hs i x H H' lt p (w.yields i H x H' lt (hG i H hi p) y)⟩
  · subst e
    exact .inl ⟨w.stops H (hG i H hi p), hd H p⟩
end NSet
/-! sets of nested keys and of texts, put by a comprehension; sorted(set of nested keys) -/
namespace NSet
open PySem PySem.Spec PyProof.Rows L2 PySem.W ND
set_option autoImplicit false
/-- the set at a, without what is known of the keys themselves -/
def N0 (w : World) (g : Heap) (a : Addr) (L : List KIt) : Prop := ∃ (r : Array (Int × Value)) (n : Nat) (T : SetTable), (∃ o, g.get? a = some o ∧ o.ExactSet ∧ o.data = .set r n T) ∧ r.toList = rows1 w L ∧ TabOk T (hashs w L) ∧ (L.map (·.2)).Nodup ∧
  (w.params.followText "set-order" = true ∨ T.led = true) ∧ L.length * 5 < T.mask * 3 ∧ L.length < 64
theorem NS.n0 {w : World} {g : Heap} {a : Addr} {L : List KIt} {r : Array (Int × Value)} {n : Nat} {T : SetTable} (R : NS w g a L r n T) : N0 w g a L := ⟨r, n, T, R.ob, R.rw, R.tb, R.nd, R.ld, R.rm, R.fw⟩
theorem N0.full {w : World} {g : Heap} {a : Addr} {L : List KIt} (R : N0 w g a L) (k : ∀ z ∈ L, KeyAt g z) : ∃ r n T, NS w g a L r n T := by
  obtain ⟨r, n, T, h1, h2, h3, h4, h5, h6, h7⟩ := R
  exact ⟨r, n, T, h1, h2, h3, h4, k, h5, h6, h7⟩
def SetO (w : World) (a : Addr) (L : List KIt) : HO := .ext fun g => N0 w g a L
theorem setO_new {w : World} {P : Program} {H : Hp} {h : Heap} {a : Addr} {L : List KIt} (R : N0 w h a L) : ObjOk P w H h a (SetO w a L) := by
  have ⟨r, n, T, ⟨o, ho, x⟩, q⟩ := R
  refine ⟨R, ⟨o, ho⟩, fun h1 h2 p k => ?_⟩
  have ⟨r', n', T', ⟨o', ho', x'⟩, q'⟩ := (show N0 w h1 a L from p)
  exact ⟨r', n', T', ⟨o', k o' ho', x'⟩, q'⟩
theorem setO_fresh (P0 : Program) (w : World) : News1 P0 w fun D => SetO w D [] := fun H h D e => setO_new ⟨#[], 0, _, ⟨_, e, ⟨rfl, rfl, rfl⟩, rfl⟩, rfl,
  ⟨List.Pairwise.nil, rfl, rfl, .inl rfl, fun x hx => (by cases hx), fun i h j hi => (by simp [hashs] at hi)⟩, List.nodup_nil, by
    show _ ∨ (!w.params.followText "set-order") = true
    cases w.params.followText "set-order"
    · exact .inr rfl
    · exact .inl rfl, by show 0 * 5 < 7 * 3; decide, by show 0 < 64; decide⟩
def NKs1 (K : PySem.W.Frag) (H : Hp) (L : List KIt) : Prop := ∀ z ∈ L, NK K H z.2 (.ref z.1) ∧ z.2.depth ≤ 8
theorem NKs1.mono {K : PySem.W.Frag} {H H' : Hp} {L : List KIt} (h : NKs1 K H L) (m : ∀ b xs, SqT K H b xs → SqT K H' b xs) : NKs1 K H' L := fun z hz => ⟨NK.mono m _ _ (h z hz).1, (h z hz).2⟩
/-- a tuple that is a key goes into the set -/
def putN1 (w : World) (K : PySem.W.Frag) : PutR := fun D y H N => ∃ (b : Addr) (k : NestedKey) (L : List KIt), y = .ref b ∧ H D = some (SetO w D L) ∧ NKs1 K H L ∧ NK K H k (.ref b) ∧ k.depth ≤ 8 ∧ L.length + 1 < 64 ∧
  ∀ L', (k ∈ L.map (·.2) → L' = L) → (k ∉ L.map (·.2) → L'.Perm ((b, k) :: L)) → N (upd H D (SetO w D L'))
theorem adds_N (P : Program) (w : World) (K : PySem.W.Frag) : Adds P w K (putN1 w K) := by
  intro Y pins σ H s E D y v N Q e1 e2 e3 hu I rv ⟨b, k, L, ey, hD, oks, key, dep, few, nx⟩ q
  subst e1 e2 e3 ey
  obtain rfl : v = Value.ref b := rv
  have R0 : N0 Y.w s.heap D L := (I.hok D _ hD).1
  obtain ⟨r, n, T, R⟩ := R0.full fun z hz => ⟨nk_is I _ _ _ (oks z hz).1 rfl, (oks z hz).2⟩
  have hz : KeyAt s.heap (b, k) := ⟨nk_is I _ _ _ key rfl, dep⟩
  have tS : s.TypeIs (.ref D) "set" := by
    obtain ⟨o, ho, hx, _⟩ := R.ob
    exact ⟨o, ho, hx.1⟩
  refine wpAny_call_entry F.slot_set_add tS F.entry_set_add ?_ (F.args_set_add_2 _ _)
  unfold Builtin.«set.add» Builtin.Frozenset.oneOther
  simp only [List.isEmpty_nil, bind_assoc]
  unfold Builtin.Frozenset.addrOf setAdd
  refine wpAny_bind (wpAny_pure ?_)
  try dsimp only
  refine wpAny_bind (wpAny_pure ?_)
  try dsimp only
  refine wpAny_bind ?_
  refine wpAny_holding ?_
  have u1 : Y.A.in1.units ≤ Y.A.units + 1 := by first | exact Nat.le_refl _ | simp [Around.in1]
  refine wpAny_bind (pyHash_key k _ _ _ _ hz.1 (by omega) ?_)
  refine put_it (s := { s with toks := s.toks + k.draws }) (R.up fun _ _ e => e) (z := (b, k)) hz (by omega) few fun c g' L' r' n' T' sb R' c1 c2 => ?_
  show wpAny _ _ (ret Value.none) _ _ _
  refine wpAny_pure ⟨_, rfl, ?_⟩
  have he : ∃ u, g'.get? D = some u := by
    obtain ⟨o, ho, _⟩ := R'.ob
    exact ⟨o, ho⟩
  exact q _ _ (I.write (e := D) (t' := s.toks + k.draws) (by rw [hD]; trivial) (.inl rfl) (fun b u hb hu => (sb.2 b hb).trans hu) he (setO_new R'.n0)) (nx L' c1 c2)
/-! ### texts -/
theorem setTx_fresh (P : Program) (w : World) : News1 P w fun D => TX.SetTx P w D [] := fun H h D e => TX.setTx_new ⟨(#[], 0, .fresh 0 0 (!w.params.followText "set-order")), e, ⟨Froz.TxOk.nil rfl, List.Pairwise.nil, by
    show _ ∨ (!w.params.followText "set-order") = true
    cases w.params.followText "set-order"
    · exact .inr rfl
    · exact .inl rfl, List.nodup_nil⟩⟩
def putTx (P : Program) (w : World) : PutR := fun D y H N => ∃ (x : Str) (l : List Str), y = .str x ∧ H D = some (TX.SetTx P w D l) ∧ l.length + 1 < scanBound ∧ (x ∈ l → N H) ∧ (x ∉ l → N (upd H D (TX.SetTx P w D (x :: l))))
theorem adds_Tx (P : Program) (w : World) (K : PySem.W.Frag) : Adds P w K (putTx P w) := by
  intro Y pins σ H s E D y v N Q e1 e2 e3 hu I rv ⟨x, l, ey, hD, few, n1, n2⟩ q
  subst e1 e2 e3 ey
  obtain ⟨t, rfl⟩ : ∃ t, v = Value.str x t := rv
  have R0 : TX.At Y.prog Y.w s.heap D l := (I.hok D _ hD).1
  obtain ⟨B, hB, ok⟩ := id R0
  refine wpAny_call_entry F.slot_set_add ⟨_, hB, rfl⟩ F.entry_set_add ?_ (F.args_set_add_2 _ _)
  unfold Builtin.«set.add» Builtin.Frozenset.oneOther
  simp only [List.isEmpty_nil, bind_assoc]
  unfold Builtin.Frozenset.addrOf setAdd
  refine wpAny_bind (wpAny_pure ?_)
  try dsimp only
  refine wpAny_bind (wpAny_pure ?_)
  try dsimp only
  refine wpAny_bind ?_
  refine wpAny_holding ?_
  refine wpAny_bind ((strKind Y.prog Y.w).pyHash (Froz.is_str x t) ?_)
  by_cases m : x ∈ l
  · refine TX.add_old (s := { s with toks := s.toks + 1 }) hB ok.tx m (by omega) ?_
    show wpAny _ _ (ret Value.none) _ _ _
    exact wpAny_pure ⟨_, rfl, q _ _ (I.kept (t' := s.toks + 1) fun _ _ e => e) (n1 m)⟩
  · refine Froz.add_x (s := { s with toks := s.toks + 1 }) hB ok.tx m (by omega) ?_
    show wpAny _ _ (ret Value.none) _ _ _
    refine wpAny_pure ⟨_, rfl, q _ _ ?_ (n2 m)⟩
    have hg : (s.heap.update D (fun _ => Froz.sObj "set" (Froz.addTx (hashStr Y.w x) (.str x t) B))).get? D = some (Froz.sObj "set" (Froz.addTx (hashStr Y.w x) (.str x t) B)) := Froz.get_upd _ hB rfl
    refine I.write (e := D) (t' := s.toks + 1) (by rw [hD]; trivial) (.inl rfl) (fun b u hb hu => ?_) ⟨_, hg⟩ (TX.setTx_new ⟨_, hg, ok.add t m⟩)
    exact (Heap.get?_update_ne _ _ _ _ hb).trans hu
/-! ### sorted -/
mutual
theorem data_depth : ∀ k : NestedKey, k.data.depth = k.depth
  | .none => by simp [NestedKey.data, NestedKey.depth, PyData.depth]
  | .num i => by simp [NestedKey.data, NestedKey.depth, PyData.depth]
  | .text x => by simp [NestedKey.data, NestedKey.depth, PyData.depth]
  | .tup ks => by
    rw [NestedKey.data, NestedKey.depth, PyData.depth, datas_depth ks]
theorem datas_depth : ∀ ks : List NestedKey, PyData.depthAll (NestedKey.datas ks) = NestedKey.depthAll ks
  | [] => by simp [NestedKey.datas, NestedKey.depthAll, PyData.depthAll]
  | k :: ks => by rw [NestedKey.datas, NestedKey.depthAll, PyData.depthAll, data_depth k, datas_depth ks]
end
section
variable {X : Cx}
theorem refs_perm {L : List KIt} (inj : ∀ y ∈ L, ∀ z ∈ L, y.1 = z.1 → y = z) (nd : L.Nodup) : ∀ vs : List Value, vs.Perm (L.map fun z => Value.ref z.1) → ∃ M : List KIt, vs = M.map (fun z => Value.ref z.1) ∧ M.Perm L := by
  intro vs pm
  have ex : ∀ us : List Value, (∀ u ∈ us, ∃ z ∈ L, u = Value.ref z.1) → ∃ M : List KIt, us = M.map (fun z => Value.ref z.1) ∧ ∀ z ∈ M, z ∈ L := by
    intro us
    induction us with
    | nil => exact fun _ => ⟨[], rfl, fun z h => nomatch h⟩
    | cons u us ih =>
      intro h
      obtain ⟨z, hz, e⟩ := h u List.mem_cons_self
      obtain ⟨M, e1, s1⟩ := ih fun x hx => h x (List.mem_cons_of_mem _ hx)
      refine ⟨z :: M, by rw [List.map_cons, e, e1], fun y hy => ?_⟩
      rcases List.mem_cons.mp hy with q | q
      · rw [q]
        exact hz
      · exact s1 y q
  obtain ⟨M, e, sub⟩ := ex vs fun u hu => by
    obtain ⟨z, hz, q⟩ := List.mem_map.mp (pm.mem_iff.mp hu)
    exact ⟨z, hz, q.symm⟩
  refine ⟨M, e, ?_⟩
  rw [e] at pm
  have nL : (L.map fun z => Value.ref z.1).Nodup := List.pairwise_map.mpr (List.Pairwise.imp_of_mem (fun {y z} hy hz ne q => ne (inj y hy z hz (by injection q))) nd)
  have nM : M.Nodup := List.Pairwise.of_map (fun z : KIt => Value.ref z.1) (fun _ _ ne q => ne (congrArg (fun z : KIt => Value.ref z.1) q)) (pm.nodup_iff.mpr nL)
  refine (List.perm_ext_iff_of_nodup nM nd).mpr fun z => ⟨sub z, fun hz => ?_⟩
  obtain ⟨y, hy, q⟩ := List.mem_map.mp (pm.mem_iff.mpr (List.mem_map.mpr ⟨z, hz, rfl⟩))
  rw [← inj y (sub y hy) z hz (by injection q)]
  exact hy
theorem refs_vals : ∀ M : List KIt, Vals (M.map fun z => V.ref z.1) (M.map fun z => Value.ref z.1)
  | [] => .nil
  | _ :: M => .cons rfl (refs_vals M)
def RefOf (u : Value) (z : KIt) : Prop := u = .ref z.1
theorem refs_each : ∀ M : List KIt, EachIs RefOf (M.map fun z => Value.ref z.1) M
  | [] => .nil
  | _ :: M => .cons rfl (refs_each M)
theorem each_out : ∀ {us : List Value} {M : List KIt}, EachIs RefOf us M → Vals (M.map fun z => V.ref z.1) us
  | _, _, .nil => .nil
  | _, _, .cons h r => .cons h (each_out r)
abbrev leN (y z : KIt) : Bool := dataLe false (fun z : KIt => z.2.data) y z
/-- sorted(a set of nested keys) -/
def rSortN (K : PySem.W.Frag) (w : World) : List V → Hp → VK → Prop := fun vs H Q => ∃ (a : Addr) (L : List KIt), vs = [V.ref a] ∧ H a = some (SetO w a L) ∧ NKs1 K H L ∧ (∀ y ∈ L, ∀ z ∈ L, alike y.2.data z.2.data = true) ∧ (∀ z ∈ L, ∃ ks, z.2 = .tup ks) ∧
  ∀ (M : List KIt) (p : Addr), M.Perm L → (M.map (·.2)).Nodup → M.length < 64 → H p = none → Q (.ref p) (upd H p (.lst ((M.mergeSort leN).map fun z => V.ref z.1)))
theorem cr_sortN (hc : X.calm = true) (hu : X.A.units + 66 < cLine) : CallR X (.builtin "sorted") (rSortN X.K X.w) := by
  intro pins s σ H vs0 us Q I rv h
  obtain ⟨a, L, rfl, ha, oks, al, tp, q⟩ := h
  rw [Vals.ref1 rv]
  have R0 : N0 X.w s.heap a L := (I.hok a _ ha).1
  obtain ⟨r, n, T, R⟩ := R0.full fun z hz => ⟨nk_is I _ _ _ (oks z hz).1 rfl, (oks z hz).2⟩
  obtain ⟨o, ho, hx, hd⟩ := R.ob
  have rn := rows_len R.rw
  have fw := R.fw
  refine Calls.call_function_entry kind_sorted plain_sorted entry_sorted (args_sorted1 _) ?_
  unfold Builtin.«sorted»
  refine wpAny_bind (m := checkCount "sorted" 1 1 _) (wpAny_pure ?_)
  refine wpAny_bind (collect_set (A := X.A.in1) (I.ok.hd hc) ⟨o, ho, hx.1, hd⟩ R.fits (by unfold scanBound; omega) R.tb.ris R.ld fun s1 vs k1 hz g1 o1 pm => ?_)
  have hes : r.toList.map (·.2) = L.map fun z => Value.ref z.1 := by
    rw [R.rw]
    unfold rows1
    rw [List.map_map]
    rfl
  rw [hes] at pm
  obtain ⟨M, rfl, pM⟩ := refs_perm (fun y hy z hz e => (R.ky y hy).one (R.ky z hz) e) (List.Pairwise.of_map (fun z : KIt => z.2) (fun _ _ ne e => ne (congrArg _ e)) R.nd) vs pm
  have Ml : M.length < 64 := by rw [pM.length_eq]; exact fw
  have szl : (M.map fun z => Value.ref z.1).length ≤ sizeLine := by rw [List.length_map, sizeLine_eq]; omega
  refine wpAny_bind (wpAny_newList ?_ szl)
  have at0 : (s1.heap.push (seqObj "list" (M.map fun z => Value.ref z.1).toArray 0)).get? s1.heap.objs.size = some (seqObj "list" (M.map fun z => Value.ref z.1).toArray 0) := Heap.get?_push_size _ rfl
  have er : EachIs (fun v (z : KIt) => ∃ as, Reads (sortingHeap (s1.heap.push (seqObj "list" (M.map fun z => Value.ref z.1).toArray 0)) s1.heap.objs.size (M.map fun z => Value.ref z.1)) v z.2.data as) (M.map fun z => Value.ref z.1) M := by
    have gen : ∀ l : List KIt, (∀ z ∈ l, z ∈ M) → EachIs (fun v (z : KIt) => ∃ as, Reads (sortingHeap (s1.heap.push (seqObj "list" (M.map fun z => Value.ref z.1).toArray 0)) s1.heap.objs.size (M.map fun z => Value.ref z.1)) v z.2.data as) (l.map fun z => Value.ref z.1) l := by
      intro l
      induction l with
      | nil => exact fun _ => .nil
      | cons z l ih =>
        intro hl
        refine .cons ?_ (ih fun x hx => hl x (List.mem_cons_of_mem _ hx))
        obtain ⟨as, rd⟩ := Dp.reads I _ _ _ (NK.dp _ _ (oks z (pM.mem_iff.mp (hl z List.mem_cons_self))).1) rfl
        exact ⟨as, PyProof.Rows.Reads.keeps (fun b o e => sortingHeap_old (Nat.ne_of_lt (Heap.lt_size (k1 b o e))) (Heap.get?_push_of_some _ (k1 b o e))) rd⟩
    exact gen M fun _ h => h
  have alM : AllAlike (M.map fun z => z.2.data) := by
    intro d hd d' hd'
    obtain ⟨y, hy, rfl⟩ := List.mem_map.mp hd
    obtain ⟨z, hz, rfl⟩ := List.mem_map.mp hd'
    exact al y (pM.mem_iff.mp hy) z (pM.mem_iff.mp hz)
  have dpl : ∀ (z : KIt), z ∈ L → z.2.data.depth ≤ 9 := fun z hz => by
    have gen : ∀ k : NestedKey, k.data.depth = k.depth := fun k => data_depth k
    rw [gen]
    exact Nat.le_succ_of_le (oks z hz).2
  have un : ∀ x ∈ M.map (fun z => z.2.data), X.A.in1.in1.units + x.depth < cLine := by
    intro x hx
    obtain ⟨z, hz, rfl⟩ := List.mem_map.mp hx
    have := dpl z (pM.mem_iff.mp hz)
    have u1 : X.A.in1.in1.units ≤ X.A.units + 2 := by first | exact Nat.le_refl _ | simp [Around.in1]
    omega
  refine wpAny_bind (wpAny_holding (wpAny_call_entry slot_list_sort ⟨_, at0, rfl⟩ entry_list_sort
    (list_sort_vals (s := { s1 with heap := s1.heap.push (seqObj "list" (M.map fun z => Value.ref z.1).toArray 0) }) at0 (sorts_tups (s := { s1 with heap := sortingHeap (s1.heap.push (seqObj "list" (M.map fun z => Value.ref z.1).toArray 0)) s1.heap.objs.size (M.map fun z => Value.ref z.1) })
      (each_map (R := fun v x => ∃ as, Reads (sortingHeap (s1.heap.push (seqObj "list" (M.map fun z => Value.ref z.1).toArray 0)) s1.heap.objs.size (M.map fun z => Value.ref z.1)) v x as) (fun z : KIt => z.2.data) er) alM (fun d hd => ?_) un) szl ?_) (args_list_sort _)))
  · obtain ⟨z, hz, rfl⟩ := List.mem_map.mp hd
    obtain ⟨ks, e⟩ := tp z (pM.mem_iff.mp hz)
    rw [e]
    exact ⟨_, by rw [NestedKey.data]⟩
  have eo := sortVals_data false (refs_each M) er alM
  generalize sortVals (dataKind (sortingHeap (s1.heap.push (seqObj "list" (M.map fun z => Value.ref z.1).toArray 0)) s1.heap.objs.size (M.map fun z => Value.ref z.1)) (M.map fun z => z.2.data)) false (M.map fun z => Value.ref z.1) (M.map fun z => Value.ref z.1) = out at eo ⊢
  obtain ⟨c, hcc⟩ := PyProof.Rows.sortedHeap_at (vs := M.map fun z => Value.ref z.1) (out := out.toArray) at0
  have hn : H s1.heap.objs.size = none := I.hok.fresh hz
  have kk : ∀ b u, s.heap.get? b = some u → (PyProof.Rows.sortedHeap (s1.heap.push (seqObj "list" (M.map fun z => Value.ref z.1).toArray 0)) s1.heap.objs.size (M.map fun z => Value.ref z.1) out.toArray).get? b = some u := fun b u e => by
    have z := k1 b u e
    have lt := Heap.lt_size z
    rw [PyProof.Rows.sortedHeap_old (Nat.ne_of_lt lt) (by rw [size_push']; exact Nat.lt_succ_of_lt lt)]
    exact Heap.get?_push_of_some _ z
  have len : ((M.mergeSort leN).map fun z => V.ref z.1).length ≤ sizeLine := by rw [List.length_map, List.length_mergeSort, sizeLine_eq]; omega
  have J : Inv X pins σ (upd H s1.heap.objs.size (.lst ((M.mergeSort leN).map fun z => V.ref z.1))) { s with heap := PyProof.Rows.sortedHeap (s1.heap.push (seqObj "list" (M.map fun z => Value.ref z.1).toArray 0)) s1.heap.objs.size (M.map fun z => Value.ref z.1) out.toArray, gens := s1.gens, drawn := s1.drawn, toks := s1.toks } :=
    I.call (ch := []) (Un.laid kk hz hn) (I.hok.laid kk hz ⟨len, out, c, each_out eo, hcc⟩) (by rw [g1]; exact I.bare) (fun _ z => nomatch z)
  refine ⟨_, rfl, wpAny_pure ⟨_, rfl, ?_⟩⟩
  have e : (({ s1 with heap := PyProof.Rows.sortedHeap (s1.heap.push (seqObj "list" (M.map fun z => Value.ref z.1).toArray 0)) s1.heap.objs.size (M.map fun z => Value.ref z.1) out.toArray } : Shared)) = { s with heap := PyProof.Rows.sortedHeap (s1.heap.push (seqObj "list" (M.map fun z => Value.ref z.1).toArray 0)) s1.heap.objs.size (M.map fun z => Value.ref z.1) out.toArray, gens := s1.gens, drawn := s1.drawn, toks := s1.toks } := by
    cases s1
    cases s
    cases o1
    rfl
  rw [← e] at J
  exact ⟨.ref s1.heap.objs.size, _, J, rfl, q M _ pM ((pM.map (·.2)).nodup_iff.mpr R.nd) Ml hn⟩
end
end NSet
/-! zip(list, tuple) -/
namespace ZL
open PySem PySem.Spec PyProof.Rows L2
/-- the items of a list and of a tuple, side by side, in new pairs -/
def ItLT (K : PySem.W.Frag) (a b : Addr) : It :=
  ⟨fun i H => ∃ (xs ys : List V) (x y : V), SqL K H a xs ∧ SqT K H b ys ∧ xs[i]? = some x ∧ ys[i]? = some y,
    fun i H v H' => ∃ (T : Addr) (x y : V), v = .ref T ∧ H T = none ∧ H' = upd H T (.tup [x, y]) ∧ (∀ xs, SqL K H a xs → xs[i]? = some x) ∧ ∀ ys, SqT K H b ys → ys[i]? = some y,
    fun i H => ∃ xs ys : List V, SqL K H a xs ∧ SqT K H b ys ∧ i = min xs.length ys.length⟩
theorem turn_zipLT {P : Program} {w : World} {K : PySem.W.Frag} {elts : List Expr} {kk : Nat} {tpos : Pos} {z TI TO i1 i2 a b : Addr} (S : ZipSep2 z TI TO i1 i2 [i1, a] [i2, b]) (na : a ≠ i1) (nb : b ≠ i2) :
    Turn P w K (.Tuple elts kk tpos) (ItLT K a b) [z, TI, TO, i1, i2] z (fun i h => IsZip h z TI TO .none ∧ IsTupOf2 h TI (.ref i1) (.ref i2) ∧ (∃ a b, IsTupOf2 h TO a b) ∧ h.IsListIter i1 a i ∧ h.IsTupleIter i2 b i) where
  mem := by simp
  obj := fun i h st c hc => by
    obtain ⟨hz, hTI, ⟨a, b, hTO⟩, ⟨o1, e1, _, d1⟩, ⟨o2, e2, _, d2⟩⟩ := st
    have e' : c = z ∨ c = TI ∨ c = TO ∨ c = i1 ∨ c = i2 := by simpa using hc
    rcases e' with q | q | q | q | q
    · rw [q]; exact ⟨_, hz, fun v q => nomatch q⟩
    · rw [q]; exact ⟨_, hTI, fun v q => nomatch q⟩
    · rw [q]; exact ⟨_, hTO, fun v q => nomatch q⟩
    · rw [q]; exact ⟨o1, e1, fun v q => by rw [d1] at q; cases q⟩
    · rw [q]; exact ⟨o2, e2, fun v q => by rw [d2] at q; cases q⟩
  keep := fun i h h' st k => by
    obtain ⟨hz, hTI, ⟨a, b, hTO⟩, h1, h2⟩ := st
    exact ⟨k z (by simp) _ hz, k TI (by simp) _ hTI, ⟨a, b, k TO (by simp) _ hTO⟩, h1.at (fun o q => k i1 (by simp) o q), h2.at fun o q => k i2 (by simp) o q⟩
  item := by
    intro X hP hw hK hc i pins s σ H E I hf st hg
    subst hP hw hK
    obtain ⟨hz, hTI, ⟨a0, b0, hTO⟩, h1, h2⟩ := st
    obtain ⟨xs, ys, x, y, hqx, hqy, hx, hy⟩ := hg
    obtain ⟨its1, rv1, p1, _⟩ := I.list hqx
    obtain ⟨u1, hu1, ru1⟩ := rv1.get hx
    have hl1 : i < its1.toArray.size := by
      rw [List.size_toArray]
      exact (List.getElem?_eq_some_iff.mp hu1).1
    obtain ⟨its2, rv2, p2, _⟩ := I.tuple hqy
    obtain ⟨u2, hu2, ru2⟩ := rv2.get hy
    have hzl : z < s.heap.objs.size := Heap.lt_size hz
    have hl2 : i < its2.toArray.size := by
      rw [List.size_toArray]
      exact (List.getElem?_eq_some_iff.mp hu2).1
    refine wpAny_pyNext_zipD2_item S (Draws.list (A := X.A.in1) (I.ok.hd hc) i1 a na its1.toArray) (Draws.tuple (A := X.A.in1) (I.ok.hd hc) i2 b nb its2.toArray) hz hTI hTO ⟨h1, p1.isList⟩ ⟨h2, p2⟩ hl1 hl2 fun v1 v2 h' tk q1 q2 z' TO' h1' h2' hT hsz hk => ?_
    have ev1 : v1 = u1 := by
      have e : its1.toArray[i]? = some u1 := by simpa using hu1
      rw [e] at q1
      exact (Option.some.inj q1).symm
    subst ev1
    have ev : v2 = u2 := by
      have e : its2.toArray[i]? = some u2 := by simpa using hu2
      rw [e] at q2
      exact (Option.some.inj q2).symm
    subst ev
    refine ⟨_, rfl, wpAny_letOwnedTupleGo_zip (s := { s with heap := h', toks := tk }) z' fun h'' z'' sb => ?_⟩
    have hT2 : h''.get? s.heap.objs.size = some { cls := .type "tuple", data := .seq #[v1, v2] } := (sb.2 _ (Nat.ne_of_gt hzl)).trans hT
    have new : ObjOk X.prog X.w (upd H s.heap.objs.size (.tup [x, y])) h'' s.heap.objs.size (.tup [x, y]) :=
      ⟨by show 2 ≤ sizeLine; decide, [v1, v2], .cons ru1 (.cons ru2 .nil), ⟨_, hT2, rfl, _, rfl⟩⟩
    have I1 : Inv X pins σ (upd H s.heap.objs.size (.tup [x, y])) { s with heap := h'', toks := tk } :=
      I.turnedNew (t' := tk) (ch := [z, TI, TO, i1, i2]) (fun c o hb q => (sb.2 c (fun q' => hb (by simp [q']))).trans (hk c o (fun q' => hb (by simp [q'])) (fun q' => hb (by simp [q'])) (fun q' => hb (by simp [q'])) (fun q' => hb (by simp [q'])) q)) hf (Nat.le_refl _) new
    refine ⟨.ref s.heap.objs.size, _, I1, rfl, ⟨_, x, y, rfl, I.hok.fresh (Nat.le_refl _), rfl, (fun l hl => by rw [I.list_inj hl hqx]; exact hx), fun l hl => by rw [I.tuple_inj hl hqy]; exact hy⟩, ⟨z'', ?_, ⟨v1, v2, ?_⟩, h1'.1.at (fun o q => (sb.2 _ S.zi1.symm).trans q), h2'.1.at fun o q => (sb.2 _ S.zi2.symm).trans q⟩, fun b hb => ?_⟩
    · exact (sb.2 _ S.TIz).trans (hk _ _ S.TIz S.TITO S.TIi1 S.TIi2 hTI)
    · exact (sb.2 _ S.TOz).trans TO'
    · have hlt : b < s.heap.objs.size := by
        have e' : b = z ∨ b = TI ∨ b = TO ∨ b = i1 ∨ b = i2 := by simpa using hb
        rcases e' with q | q | q | q | q
        · rw [q]; exact hzl
        · rw [q]; exact Heap.lt_size hTI
        · rw [q]; exact Heap.lt_size hTO
        · rw [q]; obtain ⟨_, e1, _⟩ := h1; exact Heap.lt_size e1
        · rw [q]; obtain ⟨_, e2, _⟩ := h2; exact Heap.lt_size e2
      rw [upd_ne (Nat.ne_of_lt hlt)]
      exact (hf b hb).1
  done := by
    intro X hP hw hK hc i pins s σ H E I hf st hg
    subst hP hw hK
    obtain ⟨hz, hTI, ⟨a0, b0, hTO⟩, h1, h2⟩ := st
    obtain ⟨xs, ys, hqx, hqy, hg'⟩ := hg
    obtain ⟨its1, rv1, p1, _⟩ := I.list hqx
    have l1 : its1.toArray.size = xs.length := by rw [List.size_toArray]; exact rv1.length.symm
    obtain ⟨its2, rv2, p2, _⟩ := I.tuple hqy
    have l2 : its2.toArray.size = ys.length := by rw [List.size_toArray]; exact rv2.length.symm
    exact wpAny_pyNext_zipD2_end S (Draws.list (A := X.A.in1) (I.ok.hd hc) i1 a na its1.toArray) (Draws.tuple (A := X.A.in1) (I.ok.hd hc) i2 b nb its2.toArray) hz hTI hTO ⟨h1, p1.isList⟩ ⟨h2, p2⟩ (by omega) (by omega) (by omega) fun h' tk hk => ⟨rfl, I.turnedL (t' := tk) (ch := [z, TI, TO, i1, i2]) (fun c o hb q =>
      hk c o (fun q' => hb (by simp [q'])) (fun q' => hb (by simp [q'])) (fun q' => hb (by simp [q'])) (fun q' => hb (by simp [q'])) q) hf⟩
  self := fun A i s Q E st h => wpAny_pyIter_zip st.1 h
theorem sep_newL {n a b : Nat} (ha : a < n) (hb : b < n) : ZipSep2 (n + 4) (n + 2) (n + 3) n (n + 1) [n, a] [n + 1, b] := by
  have a0 : ¬ n = b := by omega
  have a1 : ¬ n + 1 = b := by omega
  have a2 : ¬ n + 2 = b := by omega
  have a3 : ¬ n + 3 = b := by omega
  have a4 : ¬ n + 4 = b := by omega
  have c0 : ¬ n = a := by omega
  have c1 : ¬ n + 1 = a := by omega
  have c2 : ¬ n + 2 = a := by omega
  have c3 : ¬ n + 3 = a := by omega
  have c4 : ¬ n + 4 = a := by omega
  constructor <;> simp [a0, a1, a2, a3, a4, c0, c1, c2, c3, c4] <;> omega
def iZipLT (K : PySem.W.Frag) (ta : TA) : TI := fun σ H R => ta σ H fun vs H1 => ∃ (a b : Addr) (xs ys : List V), vs = [.ref a, .ref b] ∧ SqL K H1 a xs ∧ SqT K H1 b ys ∧ R (ItLT K a b) H1
theorem pi_zipLT {X : Cx} {e e2 : Expr} {ta : TA} {p pos tpos : Pos} {elts : List Expr} {kk : Nat} (hg : Gl X "zip") (hm : X.mg "zip" = none) (ha : PA X [e, e2] ta)
    (hs : starEach [e, e2] X.env = (false, eval e X.env) :: starEach [e2] X.env := by rfl) (hpl : (backTo pos (starEach [e2] X.env)).any (·.1) = false := by rfl) :
    PI X (.Tuple elts kk tpos) (.Call (.Name "zip" p) [e, e2] [] pos) (iZipLT X.K ta) := by
  refine ⟨fun pins s σ H R I h => ?_⟩
  refine Call_ (ld_blt I hg hm PyProof.Rows.boot_zip (PyProof.Rows.callWith_type1 (thn (ha.run pos pins s σ H _ I h) fun us s1 ⟨vs, H1, I1, r1, q1⟩ => ?_) hs hpl))
  obtain ⟨a, b, xs, ys, ex, hqx, hqy, q⟩ := q1
  subst ex
  cases r1 with
  | cons r rr =>
    cases rr with
    | cons r' rr =>
      cases rr
      cases r
      cases r'
      obtain ⟨its1, rv1, p1, _⟩ := I1.list hqx
      obtain ⟨its2, rv2, p2, _⟩ := I1.tuple hqy
      have al : a < s1.heap.objs.size := by
        obtain ⟨o, ho, _⟩ := id p1.isList
        exact Heap.lt_size ho
      have bl : b < s1.heap.objs.size := by
        obtain ⟨o, ho, _⟩ := id p2
        exact Heap.lt_size ho
      refine zip_begins2 (begins_list a its1.toArray) (begins_tuple b its2.toArray) p1.isList p2 fun h' hz hTI hTO h1 h2 hsz hk => wpAny_pyIter_zip hz ?_
      have I2 : Inv X pins σ H1 { s1 with heap := h' } := I1.kept (t' := s1.toks) hk
      refine ⟨s1.heap.objs.size + 4, [s1.heap.objs.size + 4, s1.heap.objs.size + 2, s1.heap.objs.size + 3, s1.heap.objs.size, s1.heap.objs.size + 1], _, _, H1, rfl, I2, turn_zipLT (sep_newL al bl) (Nat.ne_of_lt al) (Nat.ne_of_lt (Nat.lt_succ_of_lt bl)), ⟨hz, hTI, ⟨_, _, hTO⟩, ⟨_, h1, rfl, rfl⟩, ⟨_, h2, rfl, rfl⟩⟩, fun c hcm => ?_, q⟩
      have e' : c = s1.heap.objs.size + 4 ∨ c = s1.heap.objs.size + 2 ∨ c = s1.heap.objs.size + 3 ∨ c = s1.heap.objs.size ∨ c = s1.heap.objs.size + 1 := by simpa using hcm
      have hle : s1.heap.objs.size ≤ c := by
        rcases e' with z | z | z | z | z
        · rw [z]; exact Nat.le_add_right _ _
        · rw [z]; exact Nat.le_add_right _ _
        · rw [z]; exact Nat.le_add_right _ _
        · rw [z]; exact Nat.le_refl _
        · rw [z]; exact Nat.le_add_right _ _
      exact I1.fpOk hle (I1.hok.fresh hle)
theorem walk_zipLT {K : PySem.W.Frag} {a b : Addr} {xs ys : List V} {n : Nat} (hn : n = min xs.length ys.length) : Walk (ItLT K a b) n (fun H => SqL K H a xs ∧ SqT K H b ys) (YPair (fun i => xs[i]?) (fun i => ys[i]?)) := by
  subst hn
  refine ⟨fun i _ hi q => ⟨xs, ys, xs[i]'(by omega), ys[i]'(by omega), q.1, q.2, List.getElem?_eq_getElem _, List.getElem?_eq_getElem _⟩, fun _ q => ⟨xs, ys, q.1, q.2, rfl⟩, fun i H v H' _ q y => ?_⟩
  obtain ⟨T, x, z, h1, h2, h3, h4, h5⟩ := y
  exact ⟨T, x, z, h1, h2, h3, h4 xs q.1, h5 ys q.2⟩
end ZL
/-! zip(list, list) -/
namespace ZLL
open PySem PySem.Spec PyProof.Rows L2
/-- the items of two lists, side by side, in new pairs -/
def ItLL (K : PySem.W.Frag) (a b : Addr) : It :=
  ⟨fun i H => ∃ (xs ys : List V) (x y : V), SqL K H a xs ∧ SqL K H b ys ∧ xs[i]? = some x ∧ ys[i]? = some y,
    fun i H v H' => ∃ (T : Addr) (x y : V), v = .ref T ∧ H T = none ∧ H' = upd H T (.tup [x, y]) ∧ (∀ xs, SqL K H a xs → xs[i]? = some x) ∧ ∀ ys, SqL K H b ys → ys[i]? = some y,
    fun i H => ∃ xs ys : List V, SqL K H a xs ∧ SqL K H b ys ∧ i = min xs.length ys.length⟩
theorem turn_zipLL {P : Program} {w : World} {K : PySem.W.Frag} {elts : List Expr} {kk : Nat} {tpos : Pos} {z TI TO i1 i2 a b : Addr} (S : ZipSep2 z TI TO i1 i2 [i1, a] [i2, b]) (na : a ≠ i1) (nb : b ≠ i2) :
    Turn P w K (.Tuple elts kk tpos) (ItLL K a b) [z, TI, TO, i1, i2] z (fun i h => IsZip h z TI TO .none ∧ IsTupOf2 h TI (.ref i1) (.ref i2) ∧ (∃ a b, IsTupOf2 h TO a b) ∧ h.IsListIter i1 a i ∧ h.IsListIter i2 b i) where
  mem := by simp
  obj := fun i h st c hc => by
    obtain ⟨hz, hTI, ⟨a, b, hTO⟩, ⟨o1, e1, _, d1⟩, ⟨o2, e2, _, d2⟩⟩ := st
    have e' : c = z ∨ c = TI ∨ c = TO ∨ c = i1 ∨ c = i2 := by simpa using hc
    rcases e' with q | q | q | q | q
    · rw [q]; exact ⟨_, hz, fun v q => nomatch q⟩
    · rw [q]; exact ⟨_, hTI, fun v q => nomatch q⟩
    · rw [q]; exact ⟨_, hTO, fun v q => nomatch q⟩
    · rw [q]; exact ⟨o1, e1, fun v q => by rw [d1] at q; cases q⟩
    · rw [q]; exact ⟨o2, e2, fun v q => by rw [d2] at q; cases q⟩
  keep := fun i h h' st k => by
    obtain ⟨hz, hTI, ⟨a, b, hTO⟩, h1, h2⟩ := st
    exact ⟨k z (by simp) _ hz, k TI (by simp) _ hTI, ⟨a, b, k TO (by simp) _ hTO⟩, h1.at (fun o q => k i1 (by simp) o q), h2.at fun o q => k i2 (by simp) o q⟩
  item := by
    intro X hP hw hK hc i pins s σ H E I hf st hg
    subst hP hw hK
    obtain ⟨hz, hTI, ⟨a0, b0, hTO⟩, h1, h2⟩ := st
    obtain ⟨xs, ys, x, y, hqx, hqy, hx, hy⟩ := hg
    obtain ⟨its1, rv1, p1, _⟩ := I.list hqx
    obtain ⟨u1, hu1, ru1⟩ := rv1.get hx
    have hl1 : i < its1.toArray.size := by
      rw [List.size_toArray]
      exact (List.getElem?_eq_some_iff.mp hu1).1
    obtain ⟨its2, rv2, p2, _⟩ := I.list hqy
    obtain ⟨u2, hu2, ru2⟩ := rv2.get hy
    have hzl : z < s.heap.objs.size := Heap.lt_size hz
    have hl2 : i < its2.toArray.size := by
      rw [List.size_toArray]
      exact (List.getElem?_eq_some_iff.mp hu2).1
    refine wpAny_pyNext_zipD2_item S (Draws.list (A := X.A.in1) (I.ok.hd hc) i1 a na its1.toArray) (Draws.list (A := X.A.in1) (I.ok.hd hc) i2 b nb its2.toArray) hz hTI hTO ⟨h1, p1.isList⟩ ⟨h2, p2.isList⟩ hl1 hl2 fun v1 v2 h' tk q1 q2 z' TO' h1' h2' hT hsz hk => ?_
    have ev1 : v1 = u1 := by
      have e : its1.toArray[i]? = some u1 := by simpa using hu1
      rw [e] at q1
      exact (Option.some.inj q1).symm
    subst ev1
    have ev : v2 = u2 := by
      have e : its2.toArray[i]? = some u2 := by simpa using hu2
      rw [e] at q2
      exact (Option.some.inj q2).symm
    subst ev
    refine ⟨_, rfl, wpAny_letOwnedTupleGo_zip (s := { s with heap := h', toks := tk }) z' fun h'' z'' sb => ?_⟩
    have hT2 : h''.get? s.heap.objs.size = some { cls := .type "tuple", data := .seq #[v1, v2] } := (sb.2 _ (Nat.ne_of_gt hzl)).trans hT
    have new : ObjOk X.prog X.w (upd H s.heap.objs.size (.tup [x, y])) h'' s.heap.objs.size (.tup [x, y]) :=
      ⟨by show 2 ≤ sizeLine; decide, [v1, v2], .cons ru1 (.cons ru2 .nil), ⟨_, hT2, rfl, _, rfl⟩⟩
    have I1 : Inv X pins σ (upd H s.heap.objs.size (.tup [x, y])) { s with heap := h'', toks := tk } :=
      I.turnedNew (t' := tk) (ch := [z, TI, TO, i1, i2]) (fun c o hb q => (sb.2 c (fun q' => hb (by simp [q']))).trans (hk c o (fun q' => hb (by simp [q'])) (fun q' => hb (by simp [q'])) (fun q' => hb (by simp [q'])) (fun q' => hb (by simp [q'])) q)) hf (Nat.le_refl _) new
    refine ⟨.ref s.heap.objs.size, _, I1, rfl, ⟨_, x, y, rfl, I.hok.fresh (Nat.le_refl _), rfl, (fun l hl => by rw [I.list_inj hl hqx]; exact hx), fun l hl => by rw [I.list_inj hl hqy]; exact hy⟩, ⟨z'', ?_, ⟨v1, v2, ?_⟩, h1'.1.at (fun o q => (sb.2 _ S.zi1.symm).trans q), h2'.1.at fun o q => (sb.2 _ S.zi2.symm).trans q⟩, fun b hb => ?_⟩
    · exact (sb.2 _ S.TIz).trans (hk _ _ S.TIz S.TITO S.TIi1 S.TIi2 hTI)
    · exact (sb.2 _ S.TOz).trans TO'
    · have hlt : b < s.heap.objs.size := by
        have e' : b = z ∨ b = TI ∨ b = TO ∨ b = i1 ∨ b = i2 := by simpa using hb
        rcases e' with q | q | q | q | q
        · rw [q]; exact hzl
        · rw [q]; exact Heap.lt_size hTI
        · rw [q]; exact Heap.lt_size hTO
        · rw [q]; obtain ⟨_, e1, _⟩ := h1; exact Heap.lt_size e1
        · rw [q]; obtain ⟨_, e2, _⟩ := h2; exact Heap.lt_size e2
      rw [upd_ne (Nat.ne_of_lt hlt)]
      exact (hf b hb).1
  done := by
    intro X hP hw hK hc i pins s σ H E I hf st hg
    subst hP hw hK
    obtain ⟨hz, hTI, ⟨a0, b0, hTO⟩, h1, h2⟩ := st
    obtain ⟨xs, ys, hqx, hqy, hg'⟩ := hg
    obtain ⟨its1, rv1, p1, _⟩ := I.list hqx
    have l1 : its1.toArray.size = xs.length := by rw [List.size_toArray]; exact rv1.length.symm
    obtain ⟨its2, rv2, p2, _⟩ := I.list hqy
    have l2 : its2.toArray.size = ys.length := by rw [List.size_toArray]; exact rv2.length.symm
    exact wpAny_pyNext_zipD2_end S (Draws.list (A := X.A.in1) (I.ok.hd hc) i1 a na its1.toArray) (Draws.list (A := X.A.in1) (I.ok.hd hc) i2 b nb its2.toArray) hz hTI hTO ⟨h1, p1.isList⟩ ⟨h2, p2.isList⟩ (by omega) (by omega) (by omega) fun h' tk hk => ⟨rfl, I.turnedL (t' := tk) (ch := [z, TI, TO, i1, i2]) (fun c o hb q =>
      hk c o (fun q' => hb (by simp [q'])) (fun q' => hb (by simp [q'])) (fun q' => hb (by simp [q'])) (fun q' => hb (by simp [q'])) q) hf⟩
  self := fun A i s Q E st h => wpAny_pyIter_zip st.1 h
def iZipLL (K : PySem.W.Frag) (ta : TA) : TI := fun σ H R => ta σ H fun vs H1 => ∃ (a b : Addr) (xs ys : List V), vs = [.ref a, .ref b] ∧ SqL K H1 a xs ∧ SqL K H1 b ys ∧ R (ItLL K a b) H1
theorem pi_zipLL {X : Cx} {e e2 : Expr} {ta : TA} {p pos tpos : Pos} {elts : List Expr} {kk : Nat} (hg : Gl X "zip") (hm : X.mg "zip" = none) (ha : PA X [e, e2] ta)
    (hs : starEach [e, e2] X.env = (false, eval e X.env) :: starEach [e2] X.env := by rfl) (hpl : (backTo pos (starEach [e2] X.env)).any (·.1) = false := by rfl) :
    PI X (.Tuple elts kk tpos) (.Call (.Name "zip" p) [e, e2] [] pos) (iZipLL X.K ta) := by
  refine ⟨fun pins s σ H R I h => ?_⟩
  refine Call_ (ld_blt I hg hm PyProof.Rows.boot_zip (PyProof.Rows.callWith_type1 (thn (ha.run pos pins s σ H _ I h) fun us s1 ⟨vs, H1, I1, r1, q1⟩ => ?_) hs hpl))
  obtain ⟨a, b, xs, ys, ex, hqx, hqy, q⟩ := q1
  subst ex
  cases r1 with
  | cons r rr =>
    cases rr with
    | cons r' rr =>
      cases rr
      cases r
      cases r'
      obtain ⟨its1, rv1, p1, _⟩ := I1.list hqx
      obtain ⟨its2, rv2, p2, _⟩ := I1.list hqy
      have al : a < s1.heap.objs.size := by
        obtain ⟨o, ho, _⟩ := id p1.isList
        exact Heap.lt_size ho
      have bl : b < s1.heap.objs.size := by
        obtain ⟨o, ho, _⟩ := id p2.isList
        exact Heap.lt_size ho
      refine zip_begins2 (begins_list a its1.toArray) (begins_list b its2.toArray) p1.isList p2.isList fun h' hz hTI hTO h1 h2 hsz hk => wpAny_pyIter_zip hz ?_
      have I2 : Inv X pins σ H1 { s1 with heap := h' } := I1.kept (t' := s1.toks) hk
      refine ⟨s1.heap.objs.size + 4, [s1.heap.objs.size + 4, s1.heap.objs.size + 2, s1.heap.objs.size + 3, s1.heap.objs.size, s1.heap.objs.size + 1], _, _, H1, rfl, I2, turn_zipLL (ZL.sep_newL al bl) (Nat.ne_of_lt al) (Nat.ne_of_lt (Nat.lt_succ_of_lt bl)), ⟨hz, hTI, ⟨_, _, hTO⟩, ⟨_, h1, rfl, rfl⟩, ⟨_, h2, rfl, rfl⟩⟩, fun c hcm => ?_, q⟩
      have e' : c = s1.heap.objs.size + 4 ∨ c = s1.heap.objs.size + 2 ∨ c = s1.heap.objs.size + 3 ∨ c = s1.heap.objs.size ∨ c = s1.heap.objs.size + 1 := by simpa using hcm
      have hle : s1.heap.objs.size ≤ c := by
        rcases e' with z | z | z | z | z
        · rw [z]; exact Nat.le_add_right _ _
        · rw [z]; exact Nat.le_add_right _ _
        · rw [z]; exact Nat.le_add_right _ _
        · rw [z]; exact Nat.le_refl _
        · rw [z]; exact Nat.le_add_right _ _
      exact I1.fpOk hle (I1.hok.fresh hle)
theorem walk_zipLL {K : PySem.W.Frag} {a b : Addr} {xs ys : List V} {n : Nat} (hn : n = min xs.length ys.length) : Walk (ItLL K a b) n (fun H => SqL K H a xs ∧ SqL K H b ys) (YPair (fun i => xs[i]?) (fun i => ys[i]?)) := by
  subst hn
  refine ⟨fun i _ hi q => ⟨xs, ys, xs[i]'(by omega), ys[i]'(by omega), q.1, q.2, List.getElem?_eq_getElem _, List.getElem?_eq_getElem _⟩, fun _ q => ⟨xs, ys, q.1, q.2, rfl⟩, fun i H v H' _ q y => ?_⟩
  obtain ⟨T, x, z, h1, h2, h3, h4, h5⟩ := y
  exact ⟨T, x, z, h1, h2, h3, h4 xs q.1, h5 ys q.2⟩
end ZLL
/-! an own error whose __init__ begins with super().__init__(..) -/
namespace EX
open PySem PySem.Spec PyProof.Rows L2 NdefX
set_option autoImplicit false
/-- what the written part says of the class, its __init__ and the cell of its class -/
structure SupC (P : Program) (K : PySem.W.Frag) (C fI cc : Addr) (F : NF) : Prop where
  oex : OexC K C
  cl : F.cl = [(("__class__" : Str), cc)]
  cd : PySem.W.codeIn K (.ref F.c) F.qual = true
  code : ∃ (ccl : Value) (cdd : Option Addr) (vs : Array Value) (ccs : Array (Option Value)) (file : Str) (tf : Tok), K.lookup F.c = some (⟨ccl, cdd, .fields vs, ccs⟩ : Obj) ∧ vs[2]? = some (Value.str file tf) ∧ ((P.main.file : Str) == file) = true
  cell : ∃ (cl : Value) (cld : Option Addr) (csl : Array (Option Value)), K.lookup cc = some (⟨cl, cld, .cell (some (.ref C)), csl⟩ : Obj)
  top : (P.main.scope.names.lookup ("super" : Str)).isSome = false
  opq : PySem.W.nsIn K cStatics "thirdparty.any" = some none
  ini : PySem.W.ks_superIn K C C "__init__" = some (some (.builtin "ValueError.__init__"))
  ve : PySem.W.subIn K (.ref C) (.type "ValueError") = some true
  own : PySem.W.mroIn K C (.ref C) = some true
section
variable {X : Cx} {pins : List (Addr × Obj)} {σ : L2.St} {H : Hp} {s : Shared}
/-- the bound __init__ is called -/
theorem call_mw {A : Around} {E : Value → Shared → Prop} {a C u : Addr} {us : List Value} {Q : Value → Shared → Prop} (T : OexC X.K C) (I : Inv X pins σ H s) (e : H a = some (exo a C none)) (hu : s.heap.get? u = some (PySem.W.kxs_mw "ValueError.__init__" a)) (hl : us.length ≤ sizeLine) (h : ∀ s', Inv X pins σ H s' → Q .none s') :
    wpAny (model X.prog X.w) A (call (.ref u) us) Q E s := by
  obtain ⟨nm, q, N, bs, bm, sn, sub, ab, col, dd, k0, k1, k2, k3, k5, hC, hbm⟩ := T.cls
  have hC' := I.kIn _ _ hC
  obtain ⟨t1, ho⟩ := exo_at I.hok e
  obtain ⟨hp, g, d, t, os⟩ := s
  refine wpAny_call (codeAny_of_tree ?_)
  show wpAny _ A.in1 (callAny (.ref u) ⟨us, []⟩) _ _ _
  simp only [callAny]
  refine wpAny_bind (wpAny_load hu ?_)
  simp only [PySem.W.kxs_mw, show (Value.type "method-wrapper" == Value.type "method" || Value.type "method-wrapper" == Value.type "builtin_function_or_method" || Value.type "method-wrapper" == Value.type "method-wrapper") = true by decide, if_true]
  refine PySem.W.KFB.if_so (by decide) ?_
  refine wpAny_bind (PySem.W.check_bound_init F.excBase_ValueError.toExcCallFacts hC' ho rfl ?_)
  refine wpAny_bind (wpAny_pure (wpAny_pure ?_))
  refine ⟨plainId_quiet F.excBase_ValueError.init.plain _, codeAny_builtin F.excBase_ValueError.initEntry ?_⟩
  refine PySem.W.exc_init_tree (cls := .ref C) (t0 := t1) (dv := none) (c2 := .none) (c3 := .none) (b4 := .bool false) ho hl fun h' k hx _ => ?_
  have J := I.write (t' := t) (x := a) (e := a) (o := exo a C none) (by rw [e]; exact True.intro) (.inl rfl) k ⟨_, hx⟩ (exo_ok hx)
  have eu : upd H a (exo a C none) = H := by
    funext b
    by_cases hb : b = a
    · rw [hb, upd_same, e]
    · rw [upd_ne hb]
  rw [eu] at J
  exact h _ J
/-- THE RULE: an __init__ of an own error, its first statement super().__init__(msg) -/
theorem sup_ok {CX : CXT} {P : Program} {w : World} {K : PySem.W.Frag} {mg : Str → Option Value} {base : Heap} {k : Nat} {C fI cc : Addr} {F : NF} {N : List Str} {fl : Str} {msg : Expr} {rest : List Stmt} {p0 p1 p2 p3 p4 : Pos} {oc doc pm ctv : Value} {od : Option Addr} {osl : Array (Option Value)} {ar : Arg} {sp : Sp} {pl : Addr → Sem Bool}
    (T : SupC P K C fI cc F) (lk : K.lookup fI = some ⟨oc, od, .func (F.fd doc pm ctv), osl⟩) (hm : mg "super" = none) (S : NScope N ["self", fl] ["__class__"] F.scope)
    (hbody : F.body = .Expr (.Call (.Attribute (.Call (.Name "super" p0) [] [] p1) "__init__" p2) [msg] [] p3) p4 :: rest)
    (hpar : (F.params.posonlyargs ++ F.params.args).head? = some ar) (har : ar.arg = "self") (hks : F.scope.names.lookup ("super" : Str) = some .globalImplicit)
    (len : ∀ vs H Q E, sp vs H Q E → vs.length = 2)
    (h : ∀ (A : Around) (outer : List Env) (s : Shared) (H : Hp) (vs : List V) (Q : VK) (E : XK), Room k (A.deeper (envF F fI s.heap.objs.size)) → sp vs H Q E →
      ∃ (a : Addr) (y : V) (tm : TE) (t2 : TS), vs = [.ref a, y] ∧ H a = some (exo a C none) ∧ PE (ncx CX P w K mg base N F fI A outer s H E) msg tm ∧ PSs (ncx CX P w K mg base N F fI A outer s H E) rest t2 ∧
        tm (startF N vs [none]) H fun v H1 => [v].length = 1 ∧ H1 a = some (exo a C none) ∧ t2 { nx := fun _ H' => Q .non H', rt := Q } (startF N vs [none]) H1)
    (he : ∀ L : Addr, eval (.Call (.Attribute (.Call (.Name "super" p0) [] [] p1) "__init__" p2) [msg] [] p3) (envF F fI L) = (do
      let ov ← attributeBase (.Call (.Name "super" p0) [] [] p1) "__init__" (envF F fI L) (eval (.Call (.Name "super" p0) [] [] p1) (envF F fI L))
      standAt p2.atName
      let (f, first) ← holding [ov] (getMethod ov "__init__" (pl L))
      callWith p3 f first (backTo p3 (starEach [msg] (envF F fI L))) []))
    (hst : ∀ L : Addr, starEach [msg] (envF F fI L) = (false, eval msg (envF F fI L)) :: starEach [] (envF F fI L))
    (hsw : ∀ L : Addr, swapsWith (.Call (.Attribute (.Call (.Name "super" p0) [] [] p1) "__init__" p2) [msg] [] p3) none p4.line (envF F fI L) = pure false) :
    FnOk P w K mg base CX (k + 1) fI (F.fd doc pm ctv) ["self", fl] sp := by
  refine ⟨len, fun A outer s H args us vs Q E hr e0 hb r hsp => ?_⟩
  have hl := len _ _ _ _ hsp
  have KX : K.In s.heap := e0.mod.kin.keeps fun b o e => (e0.bs b o e).1
  have lim : s.heap.NoLimit := e0.mod.nolimit.keeps fun b o e => (e0.bs b o e).1
  obtain ⟨ccl, cdd, vsC, ccs, file, tf, hcode, hvs, hfile⟩ := T.code
  obtain ⟨cl1, cld, csl, hcell⟩ := T.cell
  have hcl : F.cl.lookup ("__class__" : Str) = some cc := by rw [T.cl]; rfl
  have hclA : ∀ y c, F.cl.lookup y = some c → y = ("__class__" : Str) ∧ c = cc := fun y c e => by
    rw [T.cl] at e
    by_cases hy : y = ("__class__" : Str)
    · subst hy
      exact ⟨rfl, (Option.some.inj e).symm⟩
    · have hb : (y == ("__class__" : Str)) = false := beq_false_of_ne hy
      simp only [List.lookup, hb] at e
      cases e
  have CA : CellsAt F.cl ["__class__"] [none] s.heap H := {
    len := rfl
    all := fun y c e => by
      obtain ⟨_, rfl⟩ := hclA y c e
      have hbk := e0.mod.kin _ _ hcell
      exact ⟨(e0.bs _ _ hbk).2, _, _, (e0.bs _ _ hbk).1, rfl⟩
    inj := fun x y c e1 e2 => (hclA x c e1).1.trans (hclA y c e2).1.symm
    has := fun i y e => by
      cases i with
      | zero =>
        have ey : y = ("__class__" : Str) := (Option.some.inj e).symm
        subst ey
        exact ⟨cc, hcl, fun v ev => by cases ev⟩
      | succ i => cases e }
  refine codeAny_call_function hr.depth (KX _ _ lk) rfl S.co S.gen rfl (PySem.W.codeRec_of KX T.cd) (hb _ _ _ _ ?_)
  refine wpAny_newFunctionEnv S.nocell (fun ⟨n, _⟩ hy => S.par n (List.of_mem_zip hy).1) (fun h₁ hns hsb => ⟨lim.fresh _ hsb, ?_⟩) S.kind
  show codeAny _ _ (.func F.body (envF F fI s.heap.objs.size)) _ _
  refine ks_codeAny_funcAt ?_
  have kp : ∀ b o, s.heap.get? b = some o → h₁.get? b = some o := fun b o e => hsb.extBut b o (Nat.ne_of_lt (Heap.lt_size e)) (Heap.get?_push_of_some _ e)
  obtain ⟨a, y, tm, t2, ev, ha, hm1, h2, hq⟩ := h A outer s H vs Q E (hr.deeper _) hsp
  have I : Inv (ncx CX P w K mg base N F fI A outer s H E) [] (startF N vs [none]) H { s with heap := h₁, toks := s.toks + (([("self" : Str), fl] : List Str).zip us).length } := inv_startN S hr.hd e0 hl r CA hns kp
  generalize hs1 : ({ s with heap := h₁, toks := s.toks + (([("self" : Str), fl] : List Str).zip us).length } : Shared) = s1 at I ⊢
  have KX1 : K.In s1.heap := I.kIn
  obtain ⟨nm, q, NN, bs, bm, sn, sub, ab, col, dd, k0, k1, k2, k3, k5, hC, hbm⟩ := T.oex.cls
  have hC1 := KX1 _ _ hC
  obtain ⟨t1, ho⟩ := exo_at I.hok ha
  have hne : a ≠ C := fun e => by
    rw [e, hC1] at ho
    cases ho
  rw [show execs F.body (envF F fI s.heap.objs.size) = execs (.Expr (.Call (.Attribute (.Call (.Name "super" p0) [] [] p1) "__init__" p2) [msg] [] p3) p4 :: rest) (envF F fI s.heap.objs.size) by rw [hbody]]
  refine ks_wpAt_execs_cons (ks_wpAt_Expr_any (ks_wpAt_MethodCall (pl := pl s.heap.objs.size) (ks_wpAt_super_base (env := envF F fI s.heap.objs.size) hks (S.frk "__class__" (List.mem_singleton.mpr rfl)) (by decide) rfl (KX1 _ _ lk) rfl hpar rfl (KX1 _ _ hcode) rfl hvs hfile T.top ?_) (he _)) I.quiet (hsw _))
  obtain ⟨mb, hb1, hb2⟩ := I.mod.blt
  refine PySem.W.ks_loadName_global S.kind hks (PySem.Calls.loadGlobal_builtin (I.mod.glob.keeps I.bk) hm (hb1.keeps I.bk) ((hb2 "super" (by decide)).trans (by decide +kernel : bootBuiltins "super" = some (.type "super"))) ⟨rfl, ?_⟩)
  refine wpAny_loadName_free S.kind (S.frk "__class__" (List.mem_singleton.mpr rfl)) hcl ⟨_, KX1 _ _ hcell, rfl⟩ ?_
  rw [har]
  have hself : F.scope.names.lookup ("self" : Str) = some .local := S.par "self" (List.mem_cons_self ..)
  obtain ⟨m, hnsM, hsl⟩ := I.loc
  have hN0 : N[(0 : Nat)]? = some ("self" : Str) := by
    have e := S.pre
    cases N with
    | nil => cases e
    | cons n N =>
      have e2 : n :: N.take 2 = ("self" : Str) :: [fl, "__class__"] := e
      rw [List.cons.injEq] at e2
      rw [e2.1]
      rfl
  have hms : m ("self" : Str) = some (.ref a) := by
    obtain ⟨u, ru, lu⟩ := hsl 0 "self" (.ref a) hN0 (by rw [ev]; rfl) (.inl hself)
    obtain rfl : u = Value.ref a := ru
    rcases lu with lu | ⟨lu, _⟩
    · exact lu.2
    · rw [show (ncx CX P w K mg base N F fI A outer s H E).env.kindOf "self" = some .local from hself] at lu
      rcases lu with z | z <;> cases z
  refine wpAny_loadName_local S.kind hself hnsM hms ?_
  obtain ⟨hp1, g1, d1, tk1, os1⟩ := s1
  refine ks_wpAny_isType_cls hC1 rfl ⟨rfl, ?_⟩
  refine ks_wpAny_call_super hC1 rfl ho rfl (fun c e => by cases e) (PySem.W.looks_mroIn KX1 T.own) (fun h' e kk => ?_)
  have I2 := I.kept (t' := tk1) kk
  have KX2 : K.In h' := I2.kIn
  have hC2 := KX2 _ _ hC
  have ho2 := kk _ _ ho
  have hcls : PySem.W.clsIn K C = some { name := nm, bases := bs, mro := .ref C :: bm, ns := NN, qualname := q, hasDict := true, slotNames := sn, subclasses := sub, abstract := ab, collection := col, hasDel := false } := by
    unfold PySem.W.clsIn
    rw [hC] <;> rfl
  have hini := T.ini
  unfold PySem.W.ks_superIn at hini
  rw [hcls, Option.bind_some] at hini
  have Ia : PySem.W.InstAt h' a _ C none := ⟨ho2, rfl, rfl, trivial⟩
  refine PySem.W.kxs_getMethod PySem.W.kxs_ValueError e (PySem.W.looks_opaque KX2 T.opq) (l₀ := .ref C :: bm) (fun A Q E s k q => wpAny_bind ((PySem.W.looks_clsIn KX2 hcls) A _ E s k (wpAny_pure q))) rfl KX2 hini (Ia.type.andThen (PySem.W.looks_subIn KX2 T.ve)) hne (by decide) ?_
  have kp3 : ∀ b o, h'.get? b = some o → (h'.push (PySem.W.kxs_mw "ValueError.__init__" a)).get? b = some o := fun b o e => Heap.get?_push_of_some _ e
  have I3 := I2.kept (h' := h'.push (PySem.W.kxs_mw "ValueError.__init__" a)) (t' := tk1 + 1) kp3
  have hu3 : (h'.push (PySem.W.kxs_mw "ValueError.__init__" a)).get? h'.objs.size = some (PySem.W.kxs_mw "ValueError.__init__" a) := Heap.get?_push_at rfl rfl
  have I4 : Inv (ncx CX P w K mg base N F fI A outer s H E) [(h'.objs.size, PySem.W.kxs_mw "ValueError.__init__" a)] (startF N vs [none]) H _ := I3.pins_of fun p hp => by
    rw [List.mem_singleton.mp hp]
    exact ⟨hu3, I2.hok.fresh (Nat.le_refl _), Nat.ne_of_gt I2.lt, I2.nofs (Nat.le_refl _), fun v z => by cases z⟩
  have ha1 : PA (ncx CX P w K mg base N F fI A outer s H E) [msg] _ := pa_cons hm1 pa_nil (hst _)
  have hst' := hst s.heap.objs.size
  refine PySem.W.kxs_callWith (i := "ValueError.__init__") (x := a) (by rw [hst']; rfl) ?_
  rw [hst']
  refine PySem.Calls.evalArgs_plain ?_
  have hrun := ha1.run p3 _ _ (startF N vs [none]) H (fun vs' H1 => vs'.length = 1 ∧ H1 a = some (exo a C none) ∧ t2 { nx := fun _ H' => Q .non H', rt := Q } (startF N vs [none]) H1) I4 ?_
  · have hst2 : backTo p3 (starEach [msg] (ncx CX P w K mg base N F fI A outer s H E).env) = backTo p3 ((false, eval msg (envF F fI s.heap.objs.size)) :: starEach [] (envF F fI s.heap.objs.size)) := congrArg (backTo p3) hst'
    rw [hst2] at hrun
    refine wpAny_mono hrun (fun ws s2 hw => ?_) fun e s' he => he
    obtain ⟨vs', H1, J, rv, hlen, ha2, hq2⟩ := hw
    have hu := (J.pin _ (List.mem_append_right _ (List.mem_singleton.mpr rfl))).1
    refine ⟨hu, ?_⟩
    have J0 : Inv (ncx CX P w K mg base N F fI A outer s H E) [] (startF N vs [none]) H1 s2 := J.pins_of fun p hp => by cases hp
    refine call_mw T.oex J0 ha2 hu (by
      show ws.length ≤ _
      rw [← rv.length, hlen, sizeLine_eq]; decide) fun s3 J3 => ?_
    refine wpAt_of_wpAny ?_
    refine wpAny_mono (h2.run [] s3 _ H1 _ J3 hq2) (fun fl s' hs => ?_) fun e s' hs => hs
    have fin : ∀ {σ' : L2.St} {H' : Hp} {v : V} {u : Value}, Inv (ncx CX P w K mg base N F fI A outer s H E) [] σ' H' s' → L2.RelV v u → Q v H' → CE outer P w H s Q u s' :=
      fun {σ' H' v u} J rv q => ⟨v, H', J.os, J.bare, J.base, J.hok, rv, q⟩
    cases fl with
    | ret u =>
      obtain ⟨v, σ', H', J, rv, q⟩ := hs
      exact fin J rv q
    | next =>
      obtain ⟨σ', H', J, q⟩ := hs
      exact fin (v := V.non) (u := Value.none) J rfl q
    | brk =>
      obtain ⟨_, _, _, q⟩ := hs
      exact False.elim q
    | cont =>
      obtain ⟨_, _, _, q⟩ := hs
      exact False.elim q
  · exact hq
end
end EX
/-! own errors: made, their fields, isinstance of them -/
namespace EX
open PySem PySem.Spec PyProof.Rows L2 NdefX
set_option autoImplicit false
section
variable {X : Cx}
/-- {x}: a text, an int or None, as a text that is not told -/
def MsgOk (x : V) : Prop := (∃ y : Str, x = .str y ∧ y.length ≤ 1000) ∨ (∃ i : Int, x = .int i ∧ i.natAbs.log2 < 1920) ∨ x = .non
def tFmtN (te : TE) : TE := fun σ H Q => te σ H fun x H1 => MsgOk x ∧ ∀ y : Str, y.length ≤ 10000 → Q (.str y) H1
theorem int_text {i : Int} (h : i.natAbs.log2 < 1920) : (Str.ofString (toString i)).length ≤ 10000 := by
  have e := int_text_length_le (k := 1920) (by decide) h
  rw [PySem.ofString_length]
  omega
theorem pe_fmtN {e : Expr} {te : TE} {pos : Pos} (he : PE X e te) : PE X (.FormattedValue e (-1) none pos) (tFmtN te) := by
  refine ⟨fun pins s σ H Q I h => ?_⟩
  refine wpAny_FormattedValue_plain (thn (he.run pins s σ H _ I h) fun v s1 hv => ?_)
  obtain ⟨x, H1, I1, r1, q, k⟩ := hv
  rcases q with ⟨y, rfl, hz⟩ | ⟨i, rfl, hz⟩ | rfl
  · obtain ⟨t, rfl⟩ := r1
    have q := k y (by omega)
    exact wpAny_formatField_str ⟨.str y, H1, I1, ⟨t, rfl⟩, q⟩ ⟨.str y, H1, I1.tok _, ⟨_, rfl⟩, q⟩ (by rw [sizeLine_eq]; omega)
  · obtain ⟨t, rfl⟩ := r1
    exact wpAny_formatField_int hz ⟨.str (toString i), H1, I1.tok _, ⟨_, rfl⟩, k _ (int_text hz)⟩
  · obtain rfl : v = Value.none := r1
    exact wpAny_formatField_none ⟨.str "None", H1, I1.tok _, ⟨_, rfl⟩, k "None" (by decide)⟩
/-- one argument, its end weakened -/
theorem pa_one {e : Expr} {te : TE} (he : PE X e te) (hs : starEach [e] X.env = (false, eval e X.env) :: starEach [] X.env := by rfl) : PA X [e] (fun σ H Q => ∃ Q0 : VK, te σ H Q0 ∧ ∀ y H1, Q0 y H1 → Q [y] H1) := by
  have h1 : PA X [e] _ := pa_cons he pa_nil hs
  refine ⟨fun pos pins s σ H Q I h => ?_⟩
  obtain ⟨Q0, h0, k⟩ := h
  have h2 := h1.run pos pins s σ H (fun vs H1 => ∃ y, vs = [y] ∧ Q0 y H1) I ?_
  · refine thn h2 fun us s1 hh => ?_
    obtain ⟨vs, H1, J, rv, y, rfl, q⟩ := hh
    exact ⟨[y], H1, J, rv, k y H1 q⟩
  · have e2 : (fun (x : V) (H1 : Hp) => ∃ y, [x] = [y] ∧ Q0 y H1) = Q0 := by
      funext x H1
      exact propext ⟨fun ⟨y, e, q⟩ => by cases e; exact q, fun q => ⟨x, rfl, q⟩⟩
    show te σ H (fun (x : V) (H1 : Hp) => ∃ y, [x] = [y] ∧ Q0 y H1)
    rw [e2]
    exact h0
end
/-! ### the class -/
def oexB (K : PySem.W.Frag) (C : Addr) : Bool := match K.lookup C with
  | some ⟨.type "type", _, .cls cd, sl⟩ => (match cd.mro, sl.toList with
    | .ref C' :: bm, [_, _, _, _, some (.builtin n), _] => C' == C && n == "ValueError.__new__" && !cd.hasDel && cd.hasDict && PySem.HandSPX.refsVE bm
    | _, _ => false)
  | _ => false
theorem oexB_ok {K : PySem.W.Frag} {C : Addr} (q : oexB K C = true) : ∃ nm q N bs bm sn sub ab col dd k0 k1 k2 k3 k5, K.lookup C = some (excClassObj nm q C N bs bm true sn sub ab col dd k0 k1 k2 k3 k5 "ValueError.__new__") ∧ PySem.HandSPX.refsVE bm = true := by
  unfold oexB at q
  split at q
  · rename_i dd cd sl ho
    split at q
    · rename_i C' bm k0 k1 k2 k3 n k5 hm hs
      simp only [Bool.and_eq_true, beq_iff_eq, Bool.not_eq_true'] at q
      obtain ⟨⟨⟨⟨rfl, rfl⟩, hdel⟩, hh⟩, ht⟩ := q
      obtain ⟨nm, bs, mro, ns, qn, hd, sn, sub, ab, col, del⟩ := cd
      dsimp only at hm hdel hh
      subst hm hdel hh
      have hsl : sl = #[k0, k1, k2, k3, some (.builtin "ValueError.__new__"), k5] := by
        obtain ⟨l⟩ := sl
        simp only at hs
        rw [hs]
      subst hsl
      exact ⟨nm, qn, ns, bs, bm, sn, sub, ab, col, dd, k0, k1, k2, k3, k5, ho, ht⟩
    · cases q
  · cases q
/-- an own error's class -/
structure ErrC (K : PySem.W.Frag) (C : Addr) : Prop where
  oex : OexC K C
  xf : XfC K C
  ha : PySem.W.findIn K (.ref C) "__class__" = some (some (.builtin "object.__class__"))
  hn : PySem.W.specialIn K (.builtin "object.__class__") "__get__" = some (some (.builtin "getset_descriptor.__get__"))
  ht : PySem.W.takesIn K (.builtin "object.__class__") = some true
  hm : PySem.W.mroIn K C (.type "object") = some true
def errB (K : PySem.W.Frag) (C : Addr) : Bool := oexB K C && (decide (PySem.W.findIn K (.ref C) "__setattr__" = some (some (.builtin "object.__setattr__"))) && (decide (PySem.W.subIn K (.ref C) (.type "BaseException") = some true) && (decide (PySem.W.typeIn K (.ref C) = some (.type "type")) && (PySem.W.keepIn K (.ref C) && (xfB K C &&
  (decide (PySem.W.findIn K (.ref C) "__class__" = some (some (.builtin "object.__class__"))) && (decide (PySem.W.specialIn K (.builtin "object.__class__") "__get__" = some (some (.builtin "getset_descriptor.__get__"))) && (decide (PySem.W.takesIn K (.builtin "object.__class__") = some true) && decide (PySem.W.mroIn K C (.type "object") = some true)))))))))
theorem errB_ok {K : PySem.W.Frag} {C : Addr} (h : errB K C = true) : ErrC K C := by
  unfold errB at h
  simp only [Bool.and_eq_true, decide_eq_true_eq] at h
  obtain ⟨h1, h2, h3, h4, h5, h6, h7, h8, h9, h10⟩ := h
  exact ⟨⟨oexB_ok h1, h2, h3, h4, h5⟩, xfB_ok h6, h7, h8, h9, h10⟩
/-! ### a caught error: its fields, isinstance -/
def tXfE (K : PySem.W.Frag) (a : Addr) (cls : Value) (d : Option Addr) (f : Str) (te : TE) : TE := fun σ H Q => te σ H fun x H1 => ∃ C : Addr, x = .ref a ∧ cls = .ref C ∧ ErrC K C ∧ PySem.W.findIn K (.ref C) f = some none ∧ ∃ (dd : Addr) (fs : List (Str × V)) (v : V), d = some dd ∧ H1 dd = some (.xd fs) ∧ fs.lookup f = some v ∧ Q v H1
theorem pe_xfE {X : Cx} {a : Addr} {oe : Obj} {cls : Value} {d : Option Addr} {pn : List (Addr × Obj)} {e : Expr} {te : TE} {pos : Pos} {n : Str}
    (hz : Zc cls d oe) (hf : ∃ vs, oe.data = .fields vs) (he : PE (X.suite a ((a, oe) :: pn)) e te) (hb : attributeBase e n X.env (eval e X.env) = eval e X.env := by rfl) :
    PE (X.suite a ((a, oe) :: pn)) (.Attribute e n pos) (tXfE X.K a cls d n te) := by
  refine ⟨fun pins s σ H Q I h => ?_⟩
  refine attr_of hb (thn (he.run pins s σ H _ I h) fun u s1 hh => ?_)
  obtain ⟨x, H1, I1, rx, C, ex, ec, T, hno, dd, fs, v, ed, ea, l, q⟩ := hh
  subst ex
  obtain rfl : u = Value.ref a := rx
  subst ec
  subst ed
  obtain ⟨ha, _⟩ := I1.pin (a, oe) (List.mem_append_left _ List.mem_cons_self)
  obtain ⟨vs, hd⟩ := hf
  have hx : ObjOk X.prog X.w H1 s1.heap dd (.xd fs) := I1.hok dd _ ea
  obtain ⟨mA, hns, hr⟩ := hx
  obtain ⟨od, ho, hl⟩ := lookIn_ns hns
  obtain ⟨u, hu, ru⟩ := RelO.some_of (v := v) (o := mA n) (by rw [← l]; exact hr n)
  have J : PySem.W.InstAt s1.heap a oe C (some od) := ⟨ha, hz.1, by unfold PySem.W.notCls; rw [hd] <;> rfl, by rw [hz.2]; exact ho⟩
  exact HandSPX.exc_get I1.kIn J T.xf.ga T.xf.gg T.xf.exC (PySem.W.findObj_own T.xf.hdC hno rfl (by rw [hl, hu])) (handed_of ru) ⟨v, H1, I1.tok _, ru, q⟩
theorem kit_err {K : PySem.W.Frag} {C x : Addr} {ox : Obj} {od : Option Obj} (T : ErrC K C) : PySem.W.KitX K (.ref x) (.ref C) (fun h => PySem.W.InstAt h x ox C od) := by
  have hf : PySem.W.findObj K C od "__class__" = some (.bind (.builtin "getset_descriptor.__get__") (.builtin "object.__class__")) := PySem.W.findObj_dataE (by obtain ⟨cd, hc, _⟩ := PySem.W.any_some T.xf.hdC; rw [hc]; rfl) T.ha T.hn T.ht
  exact {
    ty := fun _ _ _ I => I.type
    it := fun _ _ X _ => by
      obtain ⟨cdD, hcD, _⟩ := PySem.W.any_some T.xf.hdC
      unfold PySem.W.clsIn at hcD
      split at hcD
      · rename_i c' d' cd' sl' ho
        intro A' Q' E' s' k q
        unfold isType loadHead
        exact wpAny_bind (wpAny_loadPart (k _ _ (X _ _ ho)) (wpAny_pure q))
      · cases hcD
    ne := fun h tp dd its n sl X htp => by
      obtain ⟨cdD, hcD, _⟩ := PySem.W.any_some T.xf.hdC
      refine Bool.eq_false_iff.mpr fun q => ?_
      have e : C = tp := Value.ref.inj (beq_iff_eq.mp q)
      subst e
      unfold PySem.W.clsIn at hcD
      split at hcD
      · rename_i c' d' cd' sl' ho
        have z := (X _ _ ho).symm.trans htp
        cases z
      · cases hcD
    ca := fun X I k => PySem.W.kx_classE X I T.xf.ga T.xf.gg T.xf.exC hf T.hm k }
/-- isinstance(e, c), e the exception that the suite holds -/
def rIsX (K : PySem.W.Frag) (a : Addr) (cls : Value) (d : Option Addr) : List V → Hp → VK → Prop := fun xs H Q => ∃ (C : Addr) (c : V) (cv : Value) (b : Bool), xs = [.ref a, c] ∧ cls = .ref C ∧ ErrC K C ∧ (∀ dd, d = some dd → ∃ fs, H dd = some (.xd fs)) ∧ (∀ u, RelV c u → u = cv) ∧ PySem.W.kitOne K (.ref C) cv = some b ∧ Q (.bl b) H
theorem inst_err {X : Cx} {pins pn : List (Addr × Obj)} {σ : L2.St} {H : Hp} {s : Shared} {a C : Addr} {oe : Obj} {d : Option Addr} (I : Inv (X.suite a ((a, oe) :: pn)) pins σ H s) (hz : Zc (.ref C) d oe) (hf : ∃ vs, oe.data = .fields vs) (hd : ∀ dd, d = some dd → ∃ fs, H dd = some (.xd fs)) : ∃ od, PySem.W.InstAt s.heap a oe C od := by
  obtain ⟨hget, _⟩ := I.pin (a, oe) (List.mem_append.mpr (.inl List.mem_cons_self))
  obtain ⟨vs, hv⟩ := hf
  cases d with
  | none => exact ⟨none, hget, hz.1, by unfold PySem.W.notCls; rw [hv] <;> rfl, by rw [hz.2]; trivial⟩
  | some dd =>
    obtain ⟨fs, e⟩ := hd dd rfl
    have hx : ObjOk X.prog X.w H s.heap dd (.xd fs) := I.hok dd _ e
    obtain ⟨mA, hns, hr⟩ := hx
    obtain ⟨od, ho, hl⟩ := lookIn_ns hns
    exact ⟨some od, hget, hz.1, by unfold PySem.W.notCls; rw [hv] <;> rfl, by rw [hz.2]; exact ho⟩
theorem call_isX {X : Cx} {a : Addr} {oe : Obj} {cls : Value} {d : Option Addr} {pn : List (Addr × Obj)} (hz : Zc cls d oe) (hf : ∃ vs, oe.data = .fields vs) : CallR (X.suite a ((a, oe) :: pn)) (.builtin "isinstance") (rIsX X.K a cls d) := by
  intro pins s σ H xs us Q I r h
  obtain ⟨C, c, cv, b, rfl, rfl, T, hd, hcv, e, q⟩ := h
  cases r with
  | cons rx rr =>
    cases rr with
    | cons rt rr =>
      cases rr
      cases rx
      have ec := hcv _ rt
      subst ec
      obtain ⟨od, J⟩ := inst_err I hz hf hd
      exact PySem.W.kia_one (kit_err T) I.kIn J e (fun z => nomatch z) fun tk => ⟨.bl b, H, I.kept (t' := tk) fun _ _ z => z, rfl, q⟩
/-- isinstance(e, (c, ..)) -/
def rIsXT (K : PySem.W.Frag) (a : Addr) (cls : Value) (d : Option Addr) : List V → Hp → VK → Prop := fun xs H Q => ∃ (C t : Addr) (cs : List V) (cvs : List Value) (b : Bool), xs = [.ref a, .ref t] ∧ cls = .ref C ∧ ErrC K C ∧ (∀ dd, d = some dd → ∃ fs, H dd = some (.xd fs)) ∧ H t = some (.tup cs) ∧ (∀ us, Vals cs us → us = cvs) ∧ PySem.W.kitAny K (.ref C) cvs = some b ∧ Q (.bl b) H
theorem call_isXT {X : Cx} {a : Addr} {oe : Obj} {cls : Value} {d : Option Addr} {pn : List (Addr × Obj)} (hz : Zc cls d oe) (hf : ∃ vs, oe.data = .fields vs) : CallR (X.suite a ((a, oe) :: pn)) (.builtin "isinstance") (rIsXT X.K a cls d) := by
  intro pins s σ H xs us Q I r h
  obtain ⟨C, t, cs, cvs, b, rfl, rfl, T, hd, ht, hcv, e, q⟩ := h
  cases r with
  | cons rx rr =>
    cases rr with
    | cons rt rr =>
      cases rr
      cases rx
      cases rt
      obtain ⟨od, J⟩ := inst_err I hz hf hd
      have hx : ObjOk X.prog X.w H s.heap t (.tup cs) := I.hok t _ ht
      obtain ⟨hl, its, hv, ⟨oc, od', dt, sl⟩, ho, hc, n, hd2⟩ := hx
      dsimp only at hc hd2
      subst hc hd2
      have eI := hcv _ hv
      subst eI
      exact PySem.W.kia_tup (kit_err T) I.kIn J ho e (fun z => nomatch z) fun tk => ⟨.bl b, H, I.kept (t' := tk) fun _ _ z => z, rfl, q⟩
/-! ### an error is made -/
/-- what __init__ promises -/
def spErr (C : Addr) (fl : Str) (ok : V → Prop) : Sp := fun vs H Q _ => ∃ (a : Addr) (y : V), vs = [.ref a, y] ∧ H a = some (exo a C none) ∧ ok y ∧ ∀ dx, H dx = none → dx ≠ a → Q .non (upd (upd H dx (exd dx [(fl, y)])) a (exo a C (some dx)))
/-- C(e): the class, its dict with the one field -/
def tMkE (C : Addr) (fl : Str) (ok : V → Prop) (te : TE) : L2.St → Hp → XK → Prop := fun σ H Q => te σ H fun y H1 => ok y ∧ ∀ d, H1 d = none → Q (.ref C) (some d) (upd H1 d (.xd [(fl, y)]))
theorem pmk_err {X : Cx} {x fl : Str} {ok : V → Prop} {C fI : Addr} {fd : FuncData} {k : Nat} {e : Expr} {te : TE} {p pos : Pos} (T : ErrC X.K C) (iC : PySem.W.findIn X.K (.ref C) "__init__" = some (some (.ref fI))) (tI : PySem.W.typeIn X.K (.ref fI) = some (.type "function"))
    (F1 : FnOk X.prog X.w X.K X.mg X.base CX0 k fI fd ["self", fl] (spErr C fl ok)) (hr : Room (k + 1) X.A) (hb : Binds X.K fd ["self", fl] []) (hg : Gl X x) (hm : X.mg x = some (.ref C)) (he : PE X e te)
    (hdb : (x == ("__debug__" : Str)) = false := by decide) (hs : starEach [e] X.env = (false, eval e X.env) :: starEach [] X.env := by rfl) : PMk X (.Call (.Name x p) [e] [] pos) (tMkE C fl ok te) := by
  intro pins s σ H Q I h
  have h0 := pmk_oex (p := p) (pos := pos) T.oex iC tI F1 hr hb .nil pass0 hg hm (pa_one he hs) hdb hs (by rfl)
  refine h0 pins s σ H Q I ⟨_, h, fun y H1 ⟨oky, k⟩ => ⟨by show 1 ≤ 1000; decide, fun a na => ⟨a, y, rfl, upd_same, oky, fun dx ndx ne => ?_⟩⟩⟩
  have n1 : H1 dx = none := by
    rw [upd_ne ne] at ndx
    exact ndx
  refine ⟨rfl, dx, [(fl, y)], upd_same, (upd_ne ne).trans upd_same, n1, ?_⟩
  have eh : upd (del (upd (upd (upd H1 a (exo a C none)) dx (exd dx [(fl, y)])) a (exo a C (some dx))) a) dx (.xd [(fl, y)]) = upd H1 dx (.xd [(fl, y)]) := by
    funext b
    by_cases h1 : b = dx
    · rw [h1, upd_same, upd_same]
    · rw [upd_ne h1, upd_ne h1]
      by_cases h2 : b = a
      · rw [h2, del_same, na]
      · rw [del_ne h2, upd_ne h2, upd_ne h1, upd_ne h2]
  rw [eh]
  exact k dx n1
/-- C(), no own __init__ -/
theorem pmk_err0 {X : Cx} {x : Str} {C : Addr} {p pos : Pos} (q : PySem.W.excIn X.K C He.veBase "ValueError.__new__" = true) (T : ErrC X.K C) (hg : Gl X x) (hm : X.mg x = some (.ref C))
    (hdb : (x == ("__debug__" : Str)) = false := by decide) : PMk X (.Call (.Name x p) [] [] pos) (fun _ H Q => Q (.ref C) none H) := by
  intro pins s σ H Q I h
  refine wpAny_Call_Name_kw (ld_glob I hg hm ?_ hdb)
  refine PySem.W.callWith_K0 I.kIn T.oex.kC ?_
  obtain ⟨bm, N, nm, qn, bs, hdct, sn, sub, ab, col, dd, k0, k1, k2, k3, k5, mN, hC, hN, hni, Tl⟩ := exc_obj I.kIn q
  refine wpAny_call_exc_subT F.excBase_ValueError Tl hC hN hni (fun h' e hm => ?_) (by show 0 ≤ sizeLine; rw [sizeLine_eq]; omega)
  exact mk_of I hm (raises_own T.oex.exC T.oex.tyC) h (I.hok.gone hm.new)
end EX
/-! own errors as the top leaves them -/
namespace EX
open PySem PySem.Spec PyProof.Rows L2 NdefX
set_option autoImplicit false
/-- an error class with its __init__(self, fl) -/
structure DfE (P : Program) (K : PySem.W.Frag) (mg : Str → Option Value) (x fl : Str) (ok : V → Prop) where
  C : Addr
  fI : Addr
  fd : FuncData
  g : mg x = some (.ref C)
  T : ErrC K C
  iC : PySem.W.findIn K (.ref C) "__init__" = some (some (.ref fI))
  tI : PySem.W.typeIn K (.ref fI) = some (.type "function")
  no : PySem.W.findIn K (.ref C) fl = some none
  b : Binds K fd ["self", fl] []
  F : ∀ (w : World) (base : Heap), FnOk P w K mg base CX0 1 fI fd ["self", fl] (spErr C fl ok)
/-- an error class without an __init__ -/
structure DfE0 (K : PySem.W.Frag) (mg : Str → Option Value) (x : Str) where
  C : Addr
  g : mg x = some (.ref C)
  T : ErrC K C
  q : PySem.W.excIn K C He.veBase "ValueError.__new__" = true
/-! ### the two bodies -/
theorem app_len (a b : Str) : (a ++ b).length = a.length + b.length := by
  show (a.cps ++ b.cps).size = a.cps.size + b.cps.size
  rw [Array.size_append]
section
variable {P : Program} {w : World} {K : PySem.W.Frag} {mg : Str → Option Value} {base : Heap} {C fI cc : Addr} {F : NF} {fl : Str} {oc doc pm ctv : Value} {od : Option Addr} {osl : Array (Option Value)} {ar : Arg}
/-- f'.. {fl}' -/
theorem init_f {p0 p1 p2 p3 p4 q1 q2 q3 q4 q5 q6 q7 q8 : Pos} {m : Str} {j : Nat} {pl : Addr → Sem Bool} (T : SupC P K C fI cc F) (lk : K.lookup fI = some ⟨oc, od, .func (F.fd doc pm ctv), osl⟩) (hm : mg "super" = none) (S : NScope ["self", fl, "__class__"] ["self", fl] ["__class__"] F.scope) (no : PySem.W.findIn K (.ref C) fl = some none)
    (hbody : F.body = [.Expr (.Call (.Attribute (.Call (.Name "super" p0) [] [] p1) "__init__" p2) [.JoinedStr [.Constant (.str m) j q1, .FormattedValue (.Name fl q2) (-1) none q3] q4] [] p3) p4, .Assign [.Attribute (.Name "self" q5) fl q6] (.Name fl q7) q8]) (hml : m.length ≤ 1000)
    (hpar : (F.params.posonlyargs ++ F.params.args).head? = some ar) (har : ar.arg = "self") (hks : F.scope.names.lookup ("super" : Str) = some .globalImplicit) (hdb : (fl == ("__debug__" : Str)) = false) (hdc : (fl == ("__classdict__" : Str)) = false)
    (he : ∀ L : Addr, eval (.Call (.Attribute (.Call (.Name "super" p0) [] [] p1) "__init__" p2) [.JoinedStr [.Constant (.str m) j q1, .FormattedValue (.Name fl q2) (-1) none q3] q4] [] p3) (envF F fI L) = (do
      let ov ← attributeBase (.Call (.Name "super" p0) [] [] p1) "__init__" (envF F fI L) (eval (.Call (.Name "super" p0) [] [] p1) (envF F fI L))
      standAt p2.atName
      let (f, first) ← holding [ov] (getMethod ov "__init__" (pl L))
      callWith p3 f first (backTo p3 (starEach [.JoinedStr [.Constant (.str m) j q1, .FormattedValue (.Name fl q2) (-1) none q3] q4] (envF F fI L))) [])) :
    FnOk P w K mg base CX0 1 fI (F.fd doc pm ctv) ["self", fl] (spErr C fl MsgOk) := by
  have vs : F.scope.names.lookup ("self" : Str) = some .local := S.par "self" (List.mem_cons_self ..)
  have vf : F.scope.names.lookup fl = some .local := S.par fl (List.mem_cons_of_mem _ (List.mem_cons_self ..))
  refine sup_ok (k := 0) T lk hm S hbody hpar har hks (fun vs H Q E h => ?_) (fun A outer s H vs Q E hr h => ?_) he (fun L => rfl) (fun L => rfl)
  · obtain ⟨a, y, rfl, _⟩ := h
    rfl
  · obtain ⟨a, y, rfl, ha, ok, k⟩ := h
    refine ⟨a, y, _, _, rfl, ha, pe_joined (.cons pe_str (.cons (pe_fmtN (pe_var (i := 1) rfl (.inl vf) (hd := hdb) (hcd := hdc))) .nil)), pss_one (ps_ost (pe_var (i := 0) rfl (.inl vs)) (pe_var (i := 1) rfl (.inl vf) (hd := hdb) (hcd := hdc)) (by rfl)), ?_⟩
    refine ⟨m, rfl, by rw [app_len, sizeLine_eq]; show 0 + _ ≤ _; omega, y, rfl, ok, fun z hz => ⟨z, rfl, by rw [app_len, app_len, sizeLine_eq]; show 0 + _ + _ ≤ _; omega, rfl, ha, y, rfl, .ref a, rfl, a, C, rfl, T.oex, no, .inl ⟨ha, fun dx n1 n2 => k dx n1 n2⟩⟩⟩
/-- a written text -/
theorem init_c {p0 p1 p2 p3 p4 q1 q5 q6 q7 q8 : Pos} {m : Str} {j : Nat} {pl : Addr → Sem Bool} (T : SupC P K C fI cc F) (lk : K.lookup fI = some ⟨oc, od, .func (F.fd doc pm ctv), osl⟩) (hm : mg "super" = none) (S : NScope ["self", fl, "__class__"] ["self", fl] ["__class__"] F.scope) (no : PySem.W.findIn K (.ref C) fl = some none)
    (hbody : F.body = [.Expr (.Call (.Attribute (.Call (.Name "super" p0) [] [] p1) "__init__" p2) [.Constant (.str m) j q1] [] p3) p4, .Assign [.Attribute (.Name "self" q5) fl q6] (.Name fl q7) q8])
    (hpar : (F.params.posonlyargs ++ F.params.args).head? = some ar) (har : ar.arg = "self") (hks : F.scope.names.lookup ("super" : Str) = some .globalImplicit) (hdb : (fl == ("__debug__" : Str)) = false) (hdc : (fl == ("__classdict__" : Str)) = false)
    (he : ∀ L : Addr, eval (.Call (.Attribute (.Call (.Name "super" p0) [] [] p1) "__init__" p2) [.Constant (.str m) j q1] [] p3) (envF F fI L) = (do
      let ov ← attributeBase (.Call (.Name "super" p0) [] [] p1) "__init__" (envF F fI L) (eval (.Call (.Name "super" p0) [] [] p1) (envF F fI L))
      standAt p2.atName
      let (f, first) ← holding [ov] (getMethod ov "__init__" (pl L))
      callWith p3 f first (backTo p3 (starEach [.Constant (.str m) j q1] (envF F fI L))) [])) :
    FnOk P w K mg base CX0 1 fI (F.fd doc pm ctv) ["self", fl] (spErr C fl fun _ => True) := by
  have vs : F.scope.names.lookup ("self" : Str) = some .local := S.par "self" (List.mem_cons_self ..)
  have vf : F.scope.names.lookup fl = some .local := S.par fl (List.mem_cons_of_mem _ (List.mem_cons_self ..))
  refine sup_ok (k := 0) T lk hm S hbody hpar har hks (fun vs H Q E h => ?_) (fun A outer s H vs Q E hr h => ?_) he (fun L => rfl) (fun L => rfl)
  · obtain ⟨a, y, rfl, _⟩ := h
    rfl
  · obtain ⟨a, y, rfl, ha, ok, k⟩ := h
    refine ⟨a, y, _, _, rfl, ha, pe_str, pss_one (ps_ost (pe_var (i := 0) rfl (.inl vs)) (pe_var (i := 1) rfl (.inl vf) (hd := hdb) (hcd := hdc)) (by rfl)), ?_⟩
    exact ⟨rfl, ha, y, rfl, .ref a, rfl, a, C, rfl, T.oex, no, .inl ⟨ha, fun dx n1 n2 => k dx n1 n2⟩⟩
end
/-! ### the top's facts -/
/-- an __init__: its class, its field, its def -/
structure InD where
  cls : Str
  qual : Str
  fld : Str
  params : Arguments
  body : List Stmt
  scope : Scope
abbrev FnY : Type := Option (Str × Str × Arguments × FuncBody × Scope × Addr × Value × Value × Option Addr × Addr)
def fnY (K : PySem.W.Frag) (x : Str) : FnY := match K.lookup (He.ma K (He.ga K x) "__init__") with
  | some ⟨_, _, .func fd, _⟩ => some (fd.name, fd.qualname, fd.params, fd.body, fd.scope, fd.globals, fd.defaults, fd.kwdefaults, fd.annotations, fd.builtins)
  | _ => none
def InD.val (d : InD) : FnY := some ("__init__", d.qual, d.params, .stmts d.body, d.scope, mainGlobals, .none, .none, none, builtinsNs)
/-- the code object of the program's own text -/
def codeB (P : Program) (K : PySem.W.Frag) (c : Addr) (q : Str) : Bool := PySem.W.codeIn K (.ref c) q && (match K.lookup c with
  | some ⟨_, _, .fields vs, _⟩ => (match (vs[2]? : Option Value) with
    | some (Value.str file _) => (P.main.file : Str) == file
    | _ => false)
  | _ => false)
def codeV (P : Program) (K : PySem.W.Frag) (v : Value) (q : Str) : Bool := match v with
  | .ref c => codeB P K c q
  | _ => false
def cellB (K : PySem.W.Frag) (C c : Addr) : Bool := match K.lookup c with
  | some ⟨_, _, .cell (some (.ref D)), _⟩ => D == C
  | _ => false
def clB (K : PySem.W.Frag) (C : Addr) (l : List (Str × Addr)) : Bool := match l with
  | [(y, c)] => decide (y = "__class__") && cellB K C c
  | _ => false
def fdB (P : Program) (K : PySem.W.Frag) (C fI : Addr) : Bool := match K.lookup fI with
  | some ⟨_, _, .func fd, _⟩ => clB K C fd.closure && codeV P K fd.code fd.qualname
  | _ => false
def supB (P : Program) (K : PySem.W.Frag) (d : InD) : Bool := errB K (He.ga K d.cls) && (fdB P K (He.ga K d.cls) (He.ma K (He.ga K d.cls) "__init__") && (decide (PySem.W.nsIn K cStatics "thirdparty.any" = some none) && (decide (PySem.W.ks_superIn K (He.ga K d.cls) (He.ga K d.cls) "__init__" = some (some (.builtin "ValueError.__init__"))) &&
  (decide (PySem.W.subIn K (.ref (He.ga K d.cls)) (.type "ValueError") = some true) && (decide (PySem.W.mroIn K (He.ga K d.cls) (.ref (He.ga K d.cls)) = some true) && (decide (PySem.W.findIn K (.ref (He.ga K d.cls)) "__init__" = some (some (.ref (He.ma K (He.ga K d.cls) "__init__")))) &&
  (decide (PySem.W.typeIn K (.ref (He.ma K (He.ga K d.cls) "__init__")) = some (.type "function")) && (decide (PySem.W.findIn K (.ref (He.ga K d.cls)) d.fld = some none) && He.eqO (PySem.W.nsIn K mainGlobals d.cls) (some (some (.ref (He.ga K d.cls))))))))))))
theorem cellB_ok {K : PySem.W.Frag} {C c : Addr} (h : cellB K C c = true) : ∃ (cl : Value) (cld : Option Addr) (csl : Array (Option Value)), K.lookup c = some (⟨cl, cld, .cell (some (.ref C)), csl⟩ : Obj) := by
  unfold cellB at h
  split at h
  · rename_i a b D s e
    have : D = C := eq_of_beq h
    subst this
    exact ⟨a, b, s, e⟩
  · cases h
theorem codeB_ok {P : Program} {K : PySem.W.Frag} {c : Addr} {q : Str} (h : codeB P K c q = true) : PySem.W.codeIn K (.ref c) q = true ∧ ∃ (ccl : Value) (cdd : Option Addr) (vs : Array Value) (ccs : Array (Option Value)) (file : Str) (tf : Tok), K.lookup c = some (⟨ccl, cdd, .fields vs, ccs⟩ : Obj) ∧ vs[2]? = some (Value.str file tf) ∧ ((P.main.file : Str) == file) = true := by
  unfold codeB at h
  obtain ⟨h1, h⟩ := Bool.and_eq_true_iff.mp h
  refine ⟨h1, ?_⟩
  split at h
  · rename_i a b vs s e
    split at h
    · rename_i file t e2
      exact ⟨a, b, vs, s, file, t, e, e2, h⟩
    · cases h
  · cases h
/-- what is known of the class behind the top -/
theorem init_at {P : Program} {K : PySem.W.Frag} {d : InD} (e : fnY K d.cls = d.val) (c : supB P K d = true) (top : (P.main.scope.names.lookup ("super" : Str)).isSome = false) :
    ∃ (F : NF) (cc : Addr) (oc doc pm ctv : Value) (od : Option Addr) (osl : Array (Option Value)), F.name = "__init__" ∧ F.qual = d.qual ∧ F.params = d.params ∧ F.body = d.body ∧ F.scope = d.scope ∧ SupC P K (He.ga K d.cls) (He.ma K (He.ga K d.cls) "__init__") cc F ∧ K.lookup (He.ma K (He.ga K d.cls) "__init__") = some ⟨oc, od, .func (F.fd doc pm ctv), osl⟩ := by
  unfold supB at c
  simp only [Bool.and_eq_true, decide_eq_true_eq] at c
  obtain ⟨c1, c2, c3, c4, c5, c6, c7, c8, c9, c10⟩ := c
  have E := errB_ok c1
  unfold fdB at c2
  unfold fnY at e
  cases q : K.lookup (He.ma K (He.ga K d.cls) "__init__") with
  | none =>
    rw [q] at c2
    cases c2
  | some o =>
    obtain ⟨oc, od, dt, osl⟩ := o
    rw [q] at c2 e
    cases dt with
    | func fd =>
      obtain ⟨n1, n2, n3, n4, n5, n6, n7, n8, n9, n10, n11, n12, n13, n14, n15⟩ := fd
      have e2 : (some (n1, n2, n3, n4, n5, n6, n8, n9, n12, n15) : FnY) = some (("__init__" : Str), d.qual, d.params, FuncBody.stmts d.body, d.scope, mainGlobals, Value.none, Value.none, (none : Option Addr), builtinsNs) := e
      simp only [Option.some.injEq, Prod.mk.injEq] at e2
      obtain ⟨h1, h2, h3, h4, h5, h6, h7, h8, h9, h10⟩ := e2
      subst h1 h2 h3 h4 h5 h6 h7 h8 h9 h10
      have c3' : (clB K (He.ga K d.cls) n7 && codeV P K n13 d.qual) = true := c2
      obtain ⟨k1, k2⟩ := Bool.and_eq_true_iff.mp c3'
      unfold clB at k1
      split at k1
      · rename_i y cc
        obtain ⟨k3, k4⟩ := Bool.and_eq_true_iff.mp k1
        have ey : y = "__class__" := of_decide_eq_true k3
        subst ey
        cases n13 with
        | ref cd =>
          obtain ⟨k5, k6⟩ := codeB_ok k2
          exact ⟨⟨"__init__", d.qual, d.params, d.body, d.scope, [("__class__", cc)], cd⟩, cc, oc, n10, n11, n14, od, osl, rfl, rfl, rfl, rfl, rfl, ⟨E.oex, rfl, k5, k6, cellB_ok k4, top, c3, c4, c5, c6⟩, rfl⟩
        | _ => cases k2
      · cases k1
    | _ => cases c2
theorem mkE {P : Program} {K : PySem.W.Frag} {h : Heap} {mg : Str → Option Value} {d : InD} {ok : V → Prop} (X : K.In h) (G : h.Ns mainGlobals mg) (e : fnY K d.cls = d.val) (c : supB P K d = true) (top : (P.main.scope.names.lookup ("super" : Str)).isSome = false)
    (hb : ∀ (F : NF) (doc pm ctv : Value) (us : List Value), F.name = "__init__" → F.qual = d.qual → F.params = d.params → F.body = d.body → F.scope = d.scope → us.length = 2 → bindArgs (F.fd doc pm ctv) ⟨us, []⟩ = pure ((([("self" : Str), d.fld] : List Str)).zip us))
    (hF : ∀ (F : NF) (cc : Addr) (oc doc pm ctv : Value) (od : Option Addr) (osl : Array (Option Value)) (w : World) (base : Heap), F.params = d.params → F.body = d.body → F.scope = d.scope → SupC P K (He.ga K d.cls) (He.ma K (He.ga K d.cls) "__init__") cc F →
      K.lookup (He.ma K (He.ga K d.cls) "__init__") = some ⟨oc, od, .func (F.fd doc pm ctv), osl⟩ → PySem.W.findIn K (.ref (He.ga K d.cls)) d.fld = some none → FnOk P w K mg base CX0 1 (He.ma K (He.ga K d.cls) "__init__") (F.fd doc pm ctv) ["self", d.fld] (spErr (He.ga K d.cls) d.fld ok)) :
    ∃ D : DfE P K mg d.cls d.fld ok, D.C = He.ga K d.cls := by
  obtain ⟨F, cc, oc, doc, pm, ctv, od, osl, f1, f2, f3, f4, f5, S, lk⟩ := init_at e c top
  unfold supB at c
  simp only [Bool.and_eq_true, decide_eq_true_eq] at c
  obtain ⟨c1, c2, c3, c4, c5, c6, c7, c8, c9, c10⟩ := c
  exact ⟨⟨He.ga K d.cls, He.ma K (He.ga K d.cls) "__init__", F.fd doc pm ctv, PySem.W.mg_of X G (He.eqO_ok c10), errB_ok c1, c7, c8, c9, .all fun us hl => hb F doc pm ctv us f1 f2 f3 f4 f5 hl, fun w base => hF F cc oc doc pm ctv od osl w base f3 f4 f5 S lk c9⟩, rfl⟩
/-! ### the Hook -/
def ex0B (K : PySem.W.Frag) (x : Str) : Bool := errB K (He.ga K x) && (PySem.W.excIn K (He.ga K x) He.veBase "ValueError.__new__" && He.eqO (PySem.W.nsIn K mainGlobals x) (some (some (.ref (He.ga K x)))))
/-- isinstance of an instance of x, y: b -/
def kitB (K : PySem.W.Frag) (p : Str × Str × Bool) : Bool := decide (PySem.W.kitOne K (.ref (He.ga K p.1)) (.ref (He.ga K p.2.1)) = some p.2.2)
abbrev AlX : Type := He.AlD × Bool × List FnY
/-- an own class that isinstance, == and != ask -/
structure OwnC (K : PySem.W.Frag) (C : Addr) : Prop where
  ha : PySem.W.findIn K (.ref C) "__class__" = some (some (.builtin "object.__class__"))
  hn : PySem.W.specialIn K (.builtin "object.__class__") "__get__" = some (some (.builtin "getset_descriptor.__get__"))
  ht : PySem.W.takesIn K (.builtin "object.__class__") = some true
  hm : PySem.W.mroIn K C (.type "object") = some true
  me : PySem.W.kitOne K (.ref C) (.ref C) = some true
  ne : PySem.W.findIn K (.ref C) "__ne__" = some (some (.builtin "object.__ne__"))
def ownB (K : PySem.W.Frag) (x : Str) : Bool := decide (PySem.W.findIn K (.ref (He.ga K x)) "__class__" = some (some (.builtin "object.__class__"))) && (decide (PySem.W.specialIn K (.builtin "object.__class__") "__get__" = some (some (.builtin "getset_descriptor.__get__"))) && (decide (PySem.W.takesIn K (.builtin "object.__class__") = some true) &&
  (decide (PySem.W.mroIn K (He.ga K x) (.type "object") = some true) && (decide (PySem.W.kitOne K (.ref (He.ga K x)) (.ref (He.ga K x)) = some true) && decide (PySem.W.findIn K (.ref (He.ga K x)) "__ne__" = some (some (.builtin "object.__ne__")))))))
theorem ownB_ok {K : PySem.W.Frag} {x : Str} (h : ownB K x = true) : OwnC K (He.ga K x) := by
  unfold ownB at h
  simp only [Bool.and_eq_true, decide_eq_true_eq] at h
  obtain ⟨h1, h2, h3, h4, h5, h6⟩ := h
  exact ⟨h1, h2, h3, h4, h5, h6⟩
/-- isinstance of a value of the built-in class T, y: false; y is no such class's own -/
structure KtyF (K : PySem.W.Frag) (T : String) (C : Addr) : Prop where
  no : PySem.W.kitOne K (.type T) (.ref C) = some false
  nf : PySem.W.notFirst K C (.type T) = true
def ktyB (K : PySem.W.Frag) (p : String × Str) : Bool := decide (PySem.W.kitOne K (.type p.1) (.ref (He.ga K p.2)) = some false) && PySem.W.notFirst K (He.ga K p.2) (.type p.1)
theorem ktyB_ok {K : PySem.W.Frag} {p : String × Str} (h : ktyB K p = true) : KtyF K p.1 (He.ga K p.2) := by
  unfold ktyB at h
  simp only [Bool.and_eq_true, decide_eq_true_eq] at h
  exact ⟨h.1, h.2⟩
/-- isinstance of an object of the class y, the built-in class T: false -/
def ktnB (K : PySem.W.Frag) (p : Str × String) : Bool := decide (PySem.W.kitOne K (.ref (He.ga K p.1)) (.type p.2) = some false)
/-- an object of the class y beside one of the class x: no instance, and not asked first -/
structure NfC (K : PySem.W.Frag) (C C' : Addr) : Prop where
  no : PySem.W.kitOne K (.ref C') (.ref C) = some false
  nf : PySem.W.notFirst K C (.ref C') = true
def nfcB (K : PySem.W.Frag) (p : Str × Str) : Bool := decide (PySem.W.kitOne K (.ref (He.ga K p.2)) (.ref (He.ga K p.1)) = some false) && PySem.W.notFirst K (He.ga K p.1) (.ref (He.ga K p.2))
structure Xs where
  ini : List InD := []
  ex : List Str := []
  kit : List (Str × Str × Bool) := []
  exm : List (Str × Str × Bool) := []
  own : List Str := []
  kty : List (String × Str) := []
  ktn : List (Str × String) := []
  nfc : List (Str × Str) := []
def Xs.ok (P : Program) (x : Xs) (K : PySem.W.Frag) : Bool := x.ini.all (supB P K) && (x.ex.all (ex0B K) && (x.kit.all (kitB K) && ((x.exm.all fun p => (He.Fa.exm p.1 p.2.1 p.2.2).ok K) && (x.own.all (ownB K) && (x.kty.all (ktyB K) && (x.ktn.all (ktnB K) && x.nfc.all (nfcB K)))))))
def obsX (P : Program) (fa : List He.Fa) (fn : List He.DefD) (x : Xs) (K : PySem.W.Frag) : AlX := (He.obsD fa fn K, x.ok P K, x.ini.map fun d => fnY K d.cls)
def valX (fn : List He.DefD) (x : Xs) : AlX := (He.valD fn, true, x.ini.map InD.val)
def obsXG (P : Program) (n : Nat) (fa : List He.Fa) (fn : List He.DefD) (x : Xs) (g : Addr → Option Obj) : AlX := obsX P fa fn x (He.frG g (cStatics :: He.asD g n))
def SaysX (P : Program) (fa : List He.Fa) (fn : List He.DefD) (x : Xs) (K : PySem.W.Frag) : Prop := obsX P fa fn x K = valX fn x
def hookX (P : Program) (n : Nat) (fa : List He.Fa) (fn : List He.DefD) (x : Xs) : PySem.W.Hook where
  α := AlX
  obs := fun s => obsXG P n fa fn x s.heap.get?
  val := fun _ => valX fn x
  says := fun _ h => ∃ K : PySem.W.Frag, K.In h ∧ SaysX P fa fn x K
  of := fun _ _ e => ⟨_, He.frG_in, e⟩
  keeps := fun _ _ _ ⟨K, hK, c⟩ k => ⟨K, PySem.W.Frag.In.keeps hK k, c⟩
theorem obsXG_eq {P : Program} {n : Nat} {fa : List He.Fa} {fn : List He.DefD} {x : Xs} {g : Addr → Option Obj} {s : Shared} (h : ∀ a, g a = s.heap.get? a) : obsXG P n fa fn x g = (hookX P n fa fn x).obs s := by
  have e : g = s.heap.get? := funext h
  rw [e] <;> rfl
section
variable {P : Program} {fa : List He.Fa} {fn : List He.DefD} {x : Xs} {K : PySem.W.Frag}
theorem SaysX.d (c : SaysX P fa fn x K) : He.SaysD fa fn K := congrArg (fun z : AlX => z.1) c
theorem SaysX.b (c : SaysX P fa fn x K) : x.ok P K = true := congrArg (fun z : AlX => z.2.1) c
theorem SaysX.ini (c : SaysX P fa fn x K) (i : Nat) {d : InD} (h : x.ini[i]? = some d := by rfl) : supB P K d = true ∧ fnY K d.cls = d.val := by
  obtain ⟨b, _⟩ := Bool.and_eq_true_iff.mp c.b
  refine ⟨List.all_eq_true.mp b d (List.mem_of_getElem? h), ?_⟩
  have e : x.ini.map (fun d => fnY K d.cls) = x.ini.map InD.val := congrArg (fun z : AlX => z.2.2) c
  have e2 : (x.ini.map fun d => fnY K d.cls)[i]? = (x.ini.map InD.val)[i]? := by rw [e]
  rw [List.getElem?_map, List.getElem?_map, h] at e2
  exact Option.some.inj e2
theorem SaysX.ex {h : Heap} {mg : Str → Option Value} (c : SaysX P fa fn x K) (X : K.In h) (G : h.Ns mainGlobals mg) (i : Nat) {y : Str} (hy : x.ex[i]? = some y := by rfl) : ∃ D : DfE0 K mg y, D.C = He.ga K y := by
  obtain ⟨_, b⟩ := Bool.and_eq_true_iff.mp c.b
  obtain ⟨b, _⟩ := Bool.and_eq_true_iff.mp b
  have z := List.all_eq_true.mp b y (List.mem_of_getElem? hy)
  unfold ex0B at z
  simp only [Bool.and_eq_true] at z
  exact ⟨⟨He.ga K y, PySem.W.mg_of X G (He.eqO_ok z.2.2), errB_ok z.1, z.2.1⟩, rfl⟩
theorem SaysX.kit (c : SaysX P fa fn x K) (i : Nat) {p : Str × Str × Bool} (hy : x.kit[i]? = some p := by rfl) : PySem.W.kitOne K (.ref (He.ga K p.1)) (.ref (He.ga K p.2.1)) = some p.2.2 := by
  obtain ⟨_, b⟩ := Bool.and_eq_true_iff.mp c.b
  obtain ⟨_, b⟩ := Bool.and_eq_true_iff.mp b
  obtain ⟨b, _⟩ := Bool.and_eq_true_iff.mp b
  exact of_decide_eq_true (List.all_eq_true.mp b p (List.mem_of_getElem? hy))
theorem SaysX.exm (c : SaysX P fa fn x K) (i : Nat) {p : Str × Str × Bool} (hy : x.exm[i]? = some p := by rfl) : PySem.W.exmOne K (.ref (He.ga K p.1)) (.ref (He.ga K p.2.1)) = some p.2.2 := by
  obtain ⟨_, b⟩ := Bool.and_eq_true_iff.mp c.b
  obtain ⟨_, b⟩ := Bool.and_eq_true_iff.mp b
  obtain ⟨_, b⟩ := Bool.and_eq_true_iff.mp b
  obtain ⟨b, _⟩ := Bool.and_eq_true_iff.mp b
  exact He.exm_ok (List.all_eq_true.mp b p (List.mem_of_getElem? hy))
theorem SaysX.own (c : SaysX P fa fn x K) (i : Nat) {y : Str} (hy : x.own[i]? = some y := by rfl) : OwnC K (He.ga K y) := by
  obtain ⟨_, b⟩ := Bool.and_eq_true_iff.mp c.b
  obtain ⟨_, b⟩ := Bool.and_eq_true_iff.mp b
  obtain ⟨_, b⟩ := Bool.and_eq_true_iff.mp b
  obtain ⟨_, b⟩ := Bool.and_eq_true_iff.mp b
  obtain ⟨b, _⟩ := Bool.and_eq_true_iff.mp b
  exact ownB_ok (List.all_eq_true.mp b y (List.mem_of_getElem? hy))
theorem SaysX.kty (c : SaysX P fa fn x K) (i : Nat) {p : String × Str} (hy : x.kty[i]? = some p := by rfl) : KtyF K p.1 (He.ga K p.2) := by
  obtain ⟨_, b⟩ := Bool.and_eq_true_iff.mp c.b
  obtain ⟨_, b⟩ := Bool.and_eq_true_iff.mp b
  obtain ⟨_, b⟩ := Bool.and_eq_true_iff.mp b
  obtain ⟨_, b⟩ := Bool.and_eq_true_iff.mp b
  obtain ⟨_, b⟩ := Bool.and_eq_true_iff.mp b
  obtain ⟨b, _⟩ := Bool.and_eq_true_iff.mp b
  exact ktyB_ok (List.all_eq_true.mp b p (List.mem_of_getElem? hy))
theorem SaysX.ktn (c : SaysX P fa fn x K) (i : Nat) {p : Str × String} (hy : x.ktn[i]? = some p := by rfl) : PySem.W.kitOne K (.ref (He.ga K p.1)) (.type p.2) = some false := by
  obtain ⟨_, b⟩ := Bool.and_eq_true_iff.mp c.b
  obtain ⟨_, b⟩ := Bool.and_eq_true_iff.mp b
  obtain ⟨_, b⟩ := Bool.and_eq_true_iff.mp b
  obtain ⟨_, b⟩ := Bool.and_eq_true_iff.mp b
  obtain ⟨_, b⟩ := Bool.and_eq_true_iff.mp b
  obtain ⟨_, b⟩ := Bool.and_eq_true_iff.mp b
  obtain ⟨b, _⟩ := Bool.and_eq_true_iff.mp b
  exact of_decide_eq_true (List.all_eq_true.mp b p (List.mem_of_getElem? hy))
theorem SaysX.nfc (c : SaysX P fa fn x K) (i : Nat) {p : Str × Str} (hy : x.nfc[i]? = some p := by rfl) : NfC K (He.ga K p.1) (He.ga K p.2) := by
  obtain ⟨_, b⟩ := Bool.and_eq_true_iff.mp c.b
  obtain ⟨_, b⟩ := Bool.and_eq_true_iff.mp b
  obtain ⟨_, b⟩ := Bool.and_eq_true_iff.mp b
  obtain ⟨_, b⟩ := Bool.and_eq_true_iff.mp b
  obtain ⟨_, b⟩ := Bool.and_eq_true_iff.mp b
  obtain ⟨_, b⟩ := Bool.and_eq_true_iff.mp b
  obtain ⟨_, b⟩ := Bool.and_eq_true_iff.mp b
  have q := List.all_eq_true.mp b p (List.mem_of_getElem? hy)
  unfold nfcB at q
  simp only [Bool.and_eq_true, decide_eq_true_eq] at q
  exact ⟨q.1, q.2⟩
end
end EX
/-! an error of the program that is kept behind its handler: except (A, B) as e: x = e -/
namespace EK
open PySem PySem.Spec PyProof.Rows L2
/-- the kept error: its class, its dict -/
def Kep (a : Addr) (cls : Value) (d : Option Addr) : HO := .ext fun h => ∃ (ob : Obj) (fs : Array Value), h.get? a = some ob ∧ Zc cls d ob ∧ ob.data = .fields fs
theorem kep_new {P : Program} {w : World} {H : Hp} {h : Heap} {a : Addr} {cls : Value} {d : Option Addr} {ob : Obj} {fs : Array Value} (e : h.get? a = some ob) (z : Zc cls d ob) (q : ob.data = .fields fs) : ObjOk P w H h a (Kep a cls d) :=
  ⟨⟨ob, fs, e, z, q⟩, ⟨ob, e⟩, fun _ _ ⟨o, v, e1, r⟩ st => ⟨o, v, st o e1, r⟩⟩
section
variable {X : Cx} {pins pins' : List (Addr × Obj)} {σ : L2.St} {H : Hp} {s : Shared}
/-- an object that is new since the entry comes to be tracked -/
theorem track {a : Addr} {cls : Value} {d : Option Addr} {ob : Obj} {fs : Array Value} (I : Inv X pins' σ H s) (ha : s.heap.get? a = some ob) (hz : Zc cls d ob) (hd : ob.data = .fields fs) (na : H a = none) (n0 : X.s_0.heap.get? a = none)
    (sub : ∀ p ∈ X.pn ++ pins, p ∈ X.pn ++ pins' ∧ p.1 ≠ a) (nL : a ≠ X.env.locals) : Inv X pins σ (upd H a (Kep a cls d)) s := by
  have old : ∀ b o, X.s_0.heap.get? b = some o → b ≠ a := fun b o e q => by
    rw [q, n0] at e
    cases e
  refine ⟨I.ok, I.os, I.bare, ⟨I.base.keep, I.base.slot, fun b o e n hx => ?_, I.base.there, fun b xs e => ?_, fun b o u e => ?_, fun b ps e => ?_⟩, I.loc, I.cell, ?_, fun y c e => ?_, fun p hp => ?_, fun b u e => ?_, I.len⟩
  · rw [upd_ne (old b o e)]
    exact I.base.free b o e n hx
  · have q := I.base.tups b xs e
    rw [upd_ne (ne_of_none q na)]
    exact q
  · have q := I.base.frzs b o u e
    rw [upd_ne (ne_of_none q na)]
    exact q
  · obtain ⟨more, q⟩ := I.base.tbls b ps e
    exact ⟨more, by rw [upd_ne (ne_of_none q na)]; exact q⟩
  · rw [upd_ne (Ne.symm nL)]
    exact I.free
  · have ne : c ≠ a := fun q => by
      obtain ⟨v, o, ho, hc⟩ := I.cell y c e
      rw [q, ha] at ho
      cases ho
      rw [hd] at hc
      cases hc
    rw [upd_ne ne]
    exact I.freeC y c e
  · obtain ⟨m, ne⟩ := sub p hp
    obtain ⟨e, n, q⟩ := I.pin p m
    exact ⟨e, by rw [upd_ne ne]; exact n, q⟩
  · by_cases hb : b = a
    · subst hb
      rw [upd_same] at e
      cases e
      exact kep_new ha hz hd
    · rw [upd_ne hb] at e
      refine (I.hok b u e).stay (fun _ _ _ q => q) (fun c q => ?_) fun c xs q => ?_
      · rw [upd_ne (ne_of_none q na)]
        exact q
      · rw [upd_ne (ne_of_none q na)]
        exact q
/-- the air over a heap that has grown -/
theorem fly_grow {B h h' : Heap} {l : List Env} {a : Addr} {Z : Obj → Prop} (gr : ∀ b o, h.get? b = some o → h'.get? b = some o) (x : HandSPX.FlyingZ B l a Z h) : HandSPX.FlyingZ B l a Z h' := by
  obtain ⟨x1, x2, x3, oe, vs, T, oT, ts, y1, y2, y3, y4, y5, y6, y7, y8⟩ := x
  exact ⟨fun b o e => gr b o (x1 b o e), x2, Heap.FunFrames.of_keeps (fun b o e _ => ⟨o, gr b o e, rfl⟩) x3, oe, vs, T, oT, ts, gr _ _ y1, y2, y3, y4, y5, y6, gr _ _ y7, y8⟩
end
/-- what 'except (c1, c2) as n: suite' wishes; slot i is n's -/
def wKeep (K : PySem.W.Frag) (c1 c2 : Value) (i : Nat) (ts : Addr → TS) (D : Ends) : WX := fun cls d σ H =>
  PySem.W.exmAny K cls [c1, c2] = some true ∧ ∀ a, H a = none → ts a { nx := fun σ' H' => D.nx (σ'.set i none) (upd H' a (Kep a cls d)), rt := fun _ _ => False, bk := fun _ _ => False, ct := fun _ _ => False } (σ.set i (some (.ref a))) H
section
variable {X : Cx} {x1 x2 n : Str} {c1 c2 : Value} {i kk : Nat} {body suite : List Stmt} {b₀ : Stmt} {p1 p2 p3 p4 pos : Pos} {tb : WX → TS} {ts : Addr → TS}
theorem ps_try_keep (hex : X.ex = []) (hst : X.stack = X.env :: X.outer) (hfm : X.env.frame = some X.env.locals) (hN : X.N.Nodup) (hi : X.N[i]? = some n) (hln : X.env.kindOf n = some .local) (m1 : Names X x1 c1) (m2 : Names X x2 c2)
    (hbody : ∀ (W : WX) (pn : List (Addr × Obj)) (xe : Value → Shared → Prop), Takes (X.tr pn xe) W → PassesOwn (model X.prog X.w) X.A X.env xe → PSs (X.tr pn xe) body (tb W))
    (hsuite : ∀ (a : Addr) (oe : Obj) (pn : List (Addr × Obj)), PSs (X.suite a ((a, oe) :: pn)) (b₀ :: suite) (ts a)) :
    PS X (.Try body [.ExceptHandler (some (.Tuple [.Name x1 p1, .Name x2 p2] kk p3)) (some n) (b₀ :: suite) p4] [] [] pos) (fun D σ H => tb (wKeep X.K c1 c2 i ts D) D σ H) := by
  refine ⟨fun pins s σ H D I h => ?_⟩
  have okX := I.ok
  have frA : X.A.frames = some (X.env :: X.outer) := by rw [okX.frames, hst]
  refine wpAny_Try_except ?_
  refine wpAny_mono ((hbody (wKeep X.K c1 c2 i ts D) (X.pn ++ pins) (fun e t1 => wpAny (model X.prog X.w) X.A (noteFrame e X.env) (fun _ t2 => wpAny (model X.prog X.w) X.A (setFlight e none) (fun _ t3 =>
    wpAny (model X.prog X.w) X.A (handleBy e X.env [.ExceptHandler (some (.Tuple [.Name x1 p1, .Name x2 p2] kk p3)) (some n) (b₀ :: suite) p4]) (SP X pins D) X.xe t3) X.xe t2) X.xe t1) (fun u s' xx => ?_) PassesOwn.looking).run [] s σ H D (I.toTry _) h) (fun f s1 hsp => ?_) (fun e s1 he => he)
  · obtain ⟨a, B, sI, pinsW, σ1, H1, cls, d, rfl, JW, gnd, up, sky, na, os, ag, wm, wk⟩ := xx
    have J : Inv X pins σ1 H1 sI := JW.ofTry okX
    have skyX : Sky B (X.env :: X.outer) a (Zc cls d) X.env.locals s'.heap := by rw [← hst]; exact sky
    show wpAny (model X.prog X.w) X.A (noteFrame (.ref a) X.env) _ _ _
    refine Sky.land Zc.steady frA hfm skyX fun h3 fl3 up3 => ?_
    have noB : B.get? a = none := fl3.2.1
    have J3 : Inv X pins σ1 H1 { s' with heap := h3 } := J.landed gnd fl3.1 (up.trans up3) os ag
    obtain ⟨ob3, fs3, ea3, za3, da3⟩ := fl3.there
    have nfr : a ∉ frs (X.env :: X.outer) := fun hm => by
      obtain ⟨_, o', e', nf⟩ := fl3.2.2.1.mem hm
      rw [ea3] at e'
      cases e'
      exact nf _ da3
    have nL : a ≠ X.env.locals := fun q => nfr (List.mem_filterMap.mpr ⟨X.env, List.mem_cons_self, by rw [hfm, q]⟩)
    have nF : a ∉ X.fs := fun hm => by
      obtain ⟨e, he, q⟩ := List.mem_filterMap.mp hm
      exact nfr (List.mem_filterMap.mpr ⟨e, List.mem_cons_of_mem _ he, q⟩)
    have nst : a ∉ frs X.stack := by rw [hst]; exact nfr
    have nI : sI.heap.get? a = none := by
      cases q : sI.heap.get? a with
      | none => rfl
      | some o =>
        rw [gnd a o q nst] at noB
        cases noB
    have n0 : a ∉ X.ex → X.s_0.heap.get? a = none := fun hx => by
      cases q : X.s_0.heap.get? a with
      | none => rfl
      | some o =>
        obtain ⟨o', q'⟩ := J.base.there a o q hx
        rw [nI] at q'
        cases q'
    have nx : a ∉ X.ex := fun hx => by
      rw [hex] at hx
      cases hx
    have np : ∀ p ∈ X.pn ++ pins, p.1 ≠ a := fun p hp q => by
      have h1 := (J.pin p hp).1
      rw [q, nI] at h1
      cases h1
    have S3 := J3.suite ea3 da3 na nL nF
    refine wpAny_handleBy_cons (codeAny_handlers_test ?_) (by intro q; cases q)
    have name : ∀ {x : Str} {c : Value} {p : Pos} {Q : Value → Shared → Prop} {E : Value → Shared → Prop}, Names X x c → Q c { s' with heap := h3 } → wpAny (model X.prog X.w) (X.A.mark (some (.ref a))) (eval (.Name x p) X.env) Q E { s' with heap := h3 } := fun {x c p Q E} m q => by
      obtain ⟨hg, hdb, hm | ⟨hm, hv, hn⟩⟩ := m
      · exact ld_glob (X := X.suite a ((a, ob3) :: (X.pn ++ pins))) S3 hg hm q hdb
      · exact ld_blt (X := X.suite a ((a, ob3) :: (X.pn ++ pins))) S3 hg hm hv q hn hdb
    refine wpAny_Tuple ?_
    refine wpAny_items_cons (name m1 ?_)
    refine wpAny_items_cons (name m2 ?_)
    refine wpAny_items_nil ⟨by size_fits, ?_⟩
    generalize eg : (h3.push { cls := .type "tuple", data := .seq [c1, c2].toArray }) = g3
    have gr : ∀ b o, h3.get? b = some o → g3.get? b = some o := fun b o e => by
      rw [← eg]
      exact Heap.get?_push_of_some _ e
    have LT : PySem.W.Looks (model X.prog X.w) g3 (typeOf (.ref a)) cls := fun A Q E t k q => wpAny_typeOf_ref (k _ _ (gr _ _ ea3)) (by rw [za3.1]; exact q)
    have LM := PySem.W.exm_tup2 (M := model X.prog X.w) (J3.kIn.keeps gr) LT (by rw [← eg]; exact Heap.get?_push_size h3 rfl) wm
    refine LM.here ?_
    refine codeAny_handlers_suite_as ?_
    have flg := fly_grow gr fl3
    refine HandSPX.lands_againZ flg fun h4 fl4 up4 => ?_
    have J4 : Inv X pins σ1 H1 { s' with heap := h4 } := J.landed gnd fl4.1 ((up.trans (up3.trans (Heap.UpToSlots.of_keeps gr))).trans up4) os ag
    obtain ⟨ob4, fs4, ea4, za4, da4⟩ := fl4.there
    have S4 := J4.suite ea4 da4 na nL nF
    refine store_ok (X := X.suite a ((a, ob4) :: (X.pn ++ pins))) (v := .ref a) S4 hN hi (.inl hln) rfl (fun s5 S5 => ?_) (.inr hln)
    refine wpAny_mono ((hsuite a ob4 (X.pn ++ pins)).run [] s5 _ H1 _ S5 (wk a na)) (fun f s6 hsp => ?_) (fun _ _ q => False.elim q)
    cases f with
    | next =>
      obtain ⟨σ6, H6, S6, q6⟩ := hsp
      have mem6 : ∀ p ∈ X.pn ++ (a, ob4) :: pins, p ∈ (X.suite a ((a, ob4) :: (X.pn ++ pins))).pn ++ [] := fun p hp => by
        show p ∈ ((a, ob4) :: (X.pn ++ pins)) ++ []
        simp only [List.mem_append, List.mem_cons, List.append_nil] at hp ⊢
        rcases hp with h | h | h
        · exact .inr (.inl h)
        · exact .inl h
        · exact .inr (.inr h)
      have T6 : Inv X ((a, ob4) :: pins) σ6 H6 s6 := ⟨okX, S6.os, S6.bare, S6.base, S6.loc, S6.cell, S6.free, S6.freeC, fun p hp => S6.pin p (mem6 p hp), S6.hok, S6.len⟩
      refine gone_ok T6 hN hi hln fun s7 J7 => ?_
      obtain ⟨e7, n7, _⟩ := J7.pin (a, ob4) (List.mem_append_right _ List.mem_cons_self)
      exact ⟨_, _, track J7 e7 za4 da4 n7 (n0 nx) (fun p hp => ⟨by rcases List.mem_append.mp hp with h | h; exact List.mem_append_left _ h; exact List.mem_append_right _ (List.mem_cons_of_mem _ h), np p hp⟩) nL, q6⟩
    | brk =>
      obtain ⟨_, _, _, q6⟩ := hsp
      exact False.elim q6
    | cont =>
      obtain ⟨_, _, _, q6⟩ := hsp
      exact False.elim q6
    | ret u =>
      obtain ⟨_, _, _, _, _, q6⟩ := hsp
      exact False.elim q6
  · cases f with
    | next =>
      obtain ⟨σ', H', JW, q⟩ := hsp
      exact wpAny_execs_nil ⟨σ', H', JW.ofTry okX, q⟩
    | brk =>
      obtain ⟨σ', H', JW, q⟩ := hsp
      exact ⟨σ', H', JW.ofTry okX, q⟩
    | cont =>
      obtain ⟨σ', H', JW, q⟩ := hsp
      exact ⟨σ', H', JW.ofTry okX, q⟩
    | ret u =>
      obtain ⟨v, σ', H', JW, r, q⟩ := hsp
      exact ⟨v, σ', H', JW.ofTry okX, r, q⟩
end
end EK
namespace EK
open PySem PySem.Spec PyProof.Rows L2
/-! ### what is asked of a kept error -/
/-- isinstance(x, c), x a kept error -/
def rIsK (K : PySem.W.Frag) : List V → Hp → VK → Prop := fun xs H Q => ∃ (a C : Addr) (d : Option Addr) (c : V) (cv : Value) (b : Bool), xs = [.ref a, c] ∧ H a = some (Kep a (.ref C) d) ∧ EX.ErrC K C ∧ (∀ dd, d = some dd → ∃ fs, H dd = some (.xd fs)) ∧ (∀ u, RelV c u → u = cv) ∧ PySem.W.kitOne K (.ref C) cv = some b ∧ Q (.bl b) H
theorem kep_inst {X : Cx} {pins : List (Addr × Obj)} {σ : L2.St} {H : Hp} {s : Shared} {a C : Addr} {d : Option Addr} (I : L2.Inv X pins σ H s) (ha : H a = some (Kep a (.ref C) d)) (hd : ∀ dd, d = some dd → ∃ fs, H dd = some (.xd fs)) : ∃ ob od, PySem.W.InstAt s.heap a ob C od := by
  obtain ⟨⟨ob, fs, e, z, q⟩, _, _⟩ := I.hok a _ ha
  cases d with
  | none => exact ⟨ob, none, e, z.1, by unfold PySem.W.notCls; rw [q] <;> rfl, by rw [z.2]; trivial⟩
  | some dd =>
    obtain ⟨gs, ed⟩ := hd dd rfl
    have hx : ObjOk X.prog X.w H s.heap dd (.xd gs) := I.hok dd _ ed
    obtain ⟨mA, hns, _⟩ := hx
    obtain ⟨od, ho, _⟩ := lookIn_ns hns
    exact ⟨ob, some od, e, z.1, by unfold PySem.W.notCls; rw [q] <;> rfl, by rw [z.2]; exact ho⟩
theorem call_isK {X : Cx} : CallR X (.builtin "isinstance") (rIsK X.K) := by
  intro pins s σ H xs us Q I r h
  obtain ⟨a, C, d, c, cv, b, rfl, ha, T, hd, hcv, e, q⟩ := h
  obtain ⟨ob, od, J⟩ := kep_inst I ha hd
  cases r with
  | cons rx rr =>
    cases rr with
    | cons rt rr =>
      cases rr
      cases rx
      cases hcv _ rt
      exact PySem.W.kia_one (EX.kit_err T) I.kIn J e (fun z => nomatch z) fun tk => ⟨.bl b, H, I.kept (t' := tk) fun _ _ z => z, rfl, q⟩
/-- x.f, x a kept error -/
def tXfK (K : PySem.W.Frag) (f : Str) (te : TE) : TE := fun σ H Q => te σ H fun x H1 => ∃ (a C dd : Addr) (fs : List (Str × V)) (v : V), x = .ref a ∧ H1 a = some (Kep a (.ref C) (some dd)) ∧ EX.ErrC K C ∧ PySem.W.findIn K (.ref C) f = some none ∧ H1 dd = some (.xd fs) ∧ fs.lookup f = some v ∧ Q v H1
theorem pe_xfK {X : Cx} {e : Expr} {te : TE} {pos : Pos} {n : Str} (he : PE X e te) (hb : attributeBase e n X.env (eval e X.env) = eval e X.env := by rfl) : PE X (.Attribute e n pos) (tXfK X.K n te) := by
  refine ⟨fun pins s σ H Q I h => ?_⟩
  refine attr_of hb (thn (he.run pins s σ H _ I h) fun u s1 hh => ?_)
  obtain ⟨x, H1, I1, rx, a, C, dd, fs, v, ex, ha, T, hno, ea, l, q⟩ := hh
  subst ex
  obtain rfl : u = Value.ref a := rx
  obtain ⟨⟨ob, gs, e1, z, dq⟩, _, _⟩ := I1.hok a _ ha
  have hx : ObjOk X.prog X.w H1 s1.heap dd (.xd fs) := I1.hok dd _ ea
  obtain ⟨mA, hns, hr⟩ := hx
  obtain ⟨od, ho, hl⟩ := lookIn_ns hns
  obtain ⟨u, hu, ru⟩ := RelO.some_of (v := v) (o := mA n) (by rw [← l]; exact hr n)
  have J : PySem.W.InstAt s1.heap a ob C (some od) := ⟨e1, z.1, by unfold PySem.W.notCls; rw [dq] <;> rfl, by rw [z.2]; exact ho⟩
  exact HandSPX.exc_get I1.kIn J T.xf.ga T.xf.gg T.xf.exC (PySem.W.findObj_own T.xf.hdC hno rfl (by rw [hl, hu])) (handed_of ru) ⟨v, H1, I1.tok _, ru, q⟩
/-! ### the wish behind a state of known length -/
theorem takes_len {X : Cx} {W : WX} (t : Takes X W) : Takes X (fun c d σ H => σ.length = X.N.length → W c d σ H) := fun u s' ⟨a, B, sI, pins, σ, H, cls, d, e, I, gnd, up, sky, na, os, ag, w⟩ =>
  t u s' ⟨a, B, sI, pins, σ, H, cls, d, e, I, gnd, up, sky, na, os, ag, w I.len⟩
/-- a reading from a stronger one -/
theorem pe_more {X : Cx} {e : Expr} {te : TE} (he : PE X e te) : PE X e (fun σ H Q => ∃ Q' : VK, te σ H Q' ∧ ∀ v H', Q' v H' → Q v H') :=
  ⟨fun pins s σ H Q I ⟨Q', h, m⟩ => wpAny_mono (he.run pins s σ H Q' I h) (fun u s1 ⟨v, H1, I1, r, q⟩ => ⟨v, H1, I1, r, m _ _ q⟩) (fun _ _ x => x)⟩
/-- a def whose code object is known -/
theorem funD_okC {P : Program} {w : World} {K : PySem.W.Frag} {mg : Str → Option Value} {base : Heap} {x qual : Str} {params : Arguments} {body : List Stmt} {scope : Scope} {dvs : List V} {kws : List (Str × V)} {f c : Addr} {fd : FuncData} {CX : CXT} {N ps : List Str} {k : Nat} {sp : Sp}
    (F : FunD K x qual params body scope dvs kws f fd) (hc : ∀ oc od gd osl, K.lookup f = some ⟨oc, od, .func gd, osl⟩ → gd.code = .ref c) (S : FnScope N ps scope) (len : ∀ vs H Q E, sp vs H Q E → vs.length = ps.length)
    (bd : ∀ (A : Around) (outer : List Env) (s : Shared) (H : Hp) (vs : List V) (Q : VK) (E : XK), Room k (A.deeper (envOfC qual scope s.heap.objs.size f (.ref c))) → sp vs H Q E →
      ∃ t, PSs (cxOf CX P w K mg base N qual scope f (.ref c) A outer s H E) body t ∧ t { nx := fun _ H' => Q .non H', rt := Q } (start N vs) H) : FnOk P w K mg base CX (k + 1) f fd ps sp := by
  obtain ⟨oc, od, dV, kV, doc, pm, an, cdv, ct, osl, rfl, lk, hcd, _, _⟩ := F.ex
  have e : cdv = .ref c := hc _ _ _ _ lk
  subst e
  exact fn_of lk hcd S len fun A outer s H vs Q E hr hsp => bd A outer s H vs Q E hr hsp
end EK
/-! a try whose clauses 'except A as e', 'except B as e' all name the error; a class made that may raise -/
namespace EK
open PySem PySem.Spec PyProof.Rows L2
abbrev Cl1 := Value × (Addr → Value → Option Addr → TS)
/-- the ends of a clause's suite: slot i is empty behind it -/
def EndsI (i : Nat) (D : Ends) : Ends := { nx := fun σ H => D.nx (σ.set i none) H, rt := D.rt, bk := fun σ H => D.bk (σ.set i none) H, ct := fun σ H => D.ct (σ.set i none) H }
/-- one of the clauses takes the error, those before it do not -/
def wEach (K : PySem.W.Frag) (i : Nat) (D : Ends) : List Cl1 → WX
  | [] => fun _ _ _ _ => False
  | (c, ts) :: l => fun cls d σ H => (PySem.W.exmOne K cls c = some true ∧ ∀ a, H a = none → ts a cls d (EndsI i D) (σ.set i (some (.ref a))) H) ∨ (PySem.W.exmOne K cls c = some false ∧ wEach K i D l cls d σ H)
inductive Each (X : Cx) (n : Str) : List ExceptHandler → List Cl1 → Prop
  | nil : Each X n [] []
  | cons {x : Str} {c : Value} {ts : Addr → Value → Option Addr → TS} {b₀ : Stmt} {suite : List Stmt} {np pos : Pos} {hds : List ExceptHandler} {l : List Cl1} (hc : Names X x c)
      (hsu : ∀ (a : Addr) (oe : Obj) (cls : Value) (d : Option Addr) (pn : List (Addr × Obj)), Zc cls d oe → (∃ vs, oe.data = .fields vs) → PSs (X.suite a ((a, oe) :: pn)) (b₀ :: suite) (ts a cls d)) (r : Each X n hds l) :
      Each X n (.ExceptHandler (some (.Name x np)) (some n) (b₀ :: suite) pos :: hds) ((c, ts) :: l)
section
variable {X : Cx} {n : Str} {i : Nat} {body : List Stmt} {h₀ : ExceptHandler} {hds : List ExceptHandler} {l : List Cl1} {pos : Pos} {tb : WX → TS}
theorem ps_try_each (hst : X.stack = X.env :: X.outer) (hfm : X.env.frame = some X.env.locals) (hN : X.N.Nodup) (hi : X.N[i]? = some n) (hln : X.env.kindOf n = some .local)
    (hbody : ∀ (W : WX) (pn : List (Addr × Obj)) (xe : Value → Shared → Prop), Takes (X.tr pn xe) W → PassesOwn (model X.prog X.w) X.A X.env xe → PSs (X.tr pn xe) body (tb W))
    (hh : Each X n (h₀ :: hds) l) : PS X (.Try body (h₀ :: hds) [] [] pos) (fun D σ H => tb (wEach X.K i D l) D σ H) := by
  refine ⟨fun pins s σ H D I h => ?_⟩
  have okX := I.ok
  have frA : X.A.frames = some (X.env :: X.outer) := by rw [okX.frames, hst]
  refine wpAny_Try_except ?_
  refine wpAny_mono ((hbody (wEach X.K i D l) (X.pn ++ pins) (fun e t1 => wpAny (model X.prog X.w) X.A (noteFrame e X.env) (fun _ t2 => wpAny (model X.prog X.w) X.A (setFlight e none) (fun _ t3 =>
    wpAny (model X.prog X.w) X.A (handleBy e X.env (h₀ :: hds)) (SP X pins D) X.xe t3) X.xe t2) X.xe t1) (fun u s' xx => ?_) PassesOwn.looking).run [] s σ H D (I.toTry _) h) (fun f s1 hsp => ?_) (fun e s1 he => he)
  · obtain ⟨a, B, sI, pinsW, σ1, H1, cls, d, rfl, JW, gnd, up, sky, na, os, ag, wish⟩ := xx
    have J : Inv X pins σ1 H1 sI := JW.ofTry okX
    have skyX : Sky B (X.env :: X.outer) a (Zc cls d) X.env.locals s'.heap := by rw [← hst]; exact sky
    show wpAny (model X.prog X.w) X.A (noteFrame (.ref a) X.env) _ _ _
    refine Sky.land Zc.steady frA hfm skyX fun h3 fl3 up3 => ?_
    have J3 : Inv X pins σ1 H1 { s' with heap := h3 } := J.landed gnd fl3.1 (up.trans up3) os ag
    obtain ⟨ob3, fs3, ea3, za3, da3⟩ := fl3.there
    have nfr : a ∉ frs (X.env :: X.outer) := fun hm => by
      obtain ⟨_, o', e', nf⟩ := fl3.2.2.1.mem hm
      rw [ea3] at e'
      cases e'
      exact nf _ da3
    have nL : a ≠ X.env.locals := fun q => nfr (List.mem_filterMap.mpr ⟨X.env, List.mem_cons_self, by rw [hfm, q]⟩)
    have nF : a ∉ X.fs := fun hm => by
      obtain ⟨e, he, q⟩ := List.mem_filterMap.mp hm
      exact nfr (List.mem_filterMap.mpr ⟨e, List.mem_cons_of_mem _ he, q⟩)
    have S3 := J3.suite ea3 da3 na nL nF
    have LT : PySem.W.Looks (model X.prog X.w) h3 (typeOf (.ref a)) cls := fun A Q E t k q => wpAny_typeOf_ref (k _ _ ea3) (by rw [za3.1]; exact q)
    have name : ∀ {x : Str} {c : Value} {p : Pos} {Q : Value → Shared → Prop} {E : Value → Shared → Prop}, Names X x c → Q c { s' with heap := h3 } → wpAny (model X.prog X.w) (X.A.mark (some (.ref a))) (eval (.Name x p) X.env) Q E { s' with heap := h3 } := fun {x c p Q E} m q => by
      obtain ⟨hg, hdb, hm | ⟨hm, hv, hn⟩⟩ := m
      · exact ld_glob (X := X.suite a ((a, ob3) :: (X.pn ++ pins))) S3 hg hm q hdb
      · exact ld_blt (X := X.suite a ((a, ob3) :: (X.pn ++ pins))) S3 hg hm hv q hn hdb
    have each : ∀ {hs : List ExceptHandler} {m : List Cl1}, Each X n hs m → wEach X.K i D m cls d σ1 H1 → wpAny (model X.prog X.w) X.A (handleBy (.ref a) X.env hs) (SP X pins D) X.xe { s' with heap := h3 } := by
      intro hs m hk
      induction hk with
      | nil => exact fun q => False.elim q
      | @cons x c ts b₀ suite np pos2 hs2 m2 hc hsu r ih =>
        intro q
        refine wpAny_handleBy_cons (codeAny_handlers_test (name hc ?_)) (by intro q; cases q)
        rcases q with ⟨yes, go⟩ | ⟨no, go⟩
        · refine (PySem.W.exm_one (M := model X.prog X.w) J3.kIn LT yes).here ?_
          refine codeAny_handlers_suite_as ?_
          refine HandSPX.lands_againZ fl3 fun h4 fl4 up4 => ?_
          have J4 : Inv X pins σ1 H1 { s' with heap := h4 } := J.landed gnd fl4.1 ((up.trans up3).trans up4) os ag
          obtain ⟨ob4, fs4, ea4, za4, da4⟩ := fl4.there
          have S4 := J4.suite ea4 da4 na nL nF
          refine store_ok (X := X.suite a ((a, ob4) :: (X.pn ++ pins))) (v := .ref a) S4 hN hi (.inl hln) rfl (fun s5 S5 => ?_) (.inr hln)
          refine wpAny_mono ((hsu a ob4 cls d (X.pn ++ pins) za4 ⟨_, da4⟩).run [] s5 _ H1 _ S5 (go a na)) (fun f s6 hsp => ?_) (fun _ _ q => False.elim q)
          have tail : ∀ {σ6 : L2.St} {H6 : Hp} {Q : Shared → Prop}, Inv (X.suite a ((a, ob4) :: (X.pn ++ pins))) [] σ6 H6 s6 → (∀ s7, Inv X pins (σ6.set i none) H6 s7 → Q s7) →
              wpAny (model X.prog X.w) X.A (do bindName X.env n .none; unbindBehindTheSuite X.env n pos2) (fun _ s7 => Q s7) X.xe s6 := fun {σ6 H6 Q} S6 hq => gone_ok (S6.unsuite okX) hN hi hln hq
          cases f with
          | ret u =>
            obtain ⟨v6, σ6, H6, S6, r6, q6⟩ := hsp
            exact tail S6 fun s7 J7 => ⟨_, _, _, J7, r6, q6⟩
          | next =>
            obtain ⟨σ6, H6, S6, q6⟩ := hsp
            exact tail S6 fun s7 J7 => ⟨_, _, J7, q6⟩
          | brk =>
            obtain ⟨σ6, H6, S6, q6⟩ := hsp
            exact tail S6 fun s7 J7 => ⟨_, _, J7, q6⟩
          | cont =>
            obtain ⟨σ6, H6, S6, q6⟩ := hsp
            exact tail S6 fun s7 J7 => ⟨_, _, J7, q6⟩
        · exact (PySem.W.exm_one (M := model X.prog X.w) J3.kIn LT no).here (ih go)
    exact each hh wish
  · cases f with
    | ret u =>
      obtain ⟨v, σ', H', JW, r, q⟩ := hsp
      exact ⟨v, σ', H', JW.ofTry okX, r, q⟩
    | next =>
      obtain ⟨σ', H', JW, q⟩ := hsp
      exact wpAny_execs_nil ⟨σ', H', JW.ofTry okX, q⟩
    | brk =>
      obtain ⟨σ', H', JW, q⟩ := hsp
      exact ⟨σ', H', JW.ofTry okX, q⟩
    | cont =>
      obtain ⟨σ', H', JW, q⟩ := hsp
      exact ⟨σ', H', JW.ofTry okX, q⟩
end
section
variable {X : Cx} {CX : CXT} {k : Nat} {f C : Addr} {fd : FuncData} {ps : List Str} {sp : Sp} {E : L2.St → XK} {x : Str} {p pos : Pos} {e : Expr} {es : List Expr} {t : TA}
/-- C(e, ..): a new object, or what __init__ raises, told by the names' state -/
def tMakeS (C : Addr) (sp : Sp) (E : L2.St → XK) (t : TA) : TE := fun σ H Q => t σ H fun vs H1 => ∀ x dx, H1 x = none → H1 dx = none → dx ≠ x → sp (.ref x :: vs) (upd (upd H1 dx (.own x)) x (.ins C dx [])) (fun v H2 => v = .non ∧ Q (.ref x) H2) (E σ)
theorem pe_makeS (M : Mk X.K C f) (F : FnOk X.prog X.w X.K X.mg X.base CX k f fd ps sp) (hr : Room (k + 1) X.A) (hg : Gl X x) (hm : X.mg x = some (.ref C)) (hb : Binds X.K fd ps []) (hx : ∀ σ, PassesAt CX X σ (E σ))
    (ha : PA X (e :: es) t) (hdb : (x == ("__debug__" : Str)) = false := by decide) (he : starEach (e :: es) X.env = (false, eval e X.env) :: starEach es X.env := by rfl) (hpl : (backTo pos (starEach es X.env)).any (·.1) = false := by rfl) :
    PE X (.Call (.Name x p) (e :: es) [] pos) (tMakeS C sp E t) := by
  refine ⟨fun pins s σ H Q I h => ?_⟩
  refine wpAny_Call_Name_kw (ld_glob I hg hm ?_ hdb)
  refine PySem.W.callWith_K (h₀ := X.base) I.ok.mod.kin M.kp (thn (ha.run pos pins s σ H _ I h) fun us s1 ⟨vs, H1, I1, r, q⟩ => ⟨I1.kIn, ?_⟩) he hpl
  have a0 := I1.hok.fresh (Nat.le_refl s1.heap.objs.size)
  have a1 := I1.hok.fresh (Nat.le_succ s1.heap.objs.size)
  have hq := q (s1.heap.objs.size + 1) s1.heap.objs.size a1 a0 (Nat.ne_of_lt (Nat.lt_succ_self _))
  have J := Inv.made (C := C) I1
  have rv : Vals (V.ref (s1.heap.objs.size + 1) :: vs) (Value.ref (s1.heap.objs.size + 1) :: us) := .cons rfl r
  have hl : ((Value.ref (s1.heap.objs.size + 1) :: us) ++ ([] : List Value)).length = ps.length := by
    rw [List.append_nil, ← F.len _ _ _ _ hq]
    exact rv.length.symm
  refine wpAny_call (make_map (f := f) I1.kIn M.makes M.init (beq_iff_eq.mp M.fn) (codeAny_mono (F.run _ X.stack _ _ ⟨Value.ref (s1.heap.objs.size + 1) :: us, []⟩ (Value.ref (s1.heap.objs.size + 1) :: us) _ _ (E σ) (hr.make C us [])
    (J.env0.make C us []) (by have b := hb _ (Value.ref (s1.heap.objs.size + 1) :: us) J.kIn hl; rw [List.append_nil] at b; exact b) rv hq) fun r s' hq' => ?_))
  match r, hq' with
  | .error er, hq' => exact hx σ pins _ _ er s' J hq'
  | .ok (.ret u), hq' =>
    obtain ⟨v, H', I3, r3, ev, q3⟩ := J.after hq'
    subst ev
    exact ⟨r3, ⟨V.ref (s1.heap.objs.size + 1), H', I3, rfl, q3⟩⟩
end
end EK
/-! The law's own def, run where nothing is being shown (no guard stands): repr of lists and tuples there. -/
namespace GA
open PySem PySem.Spec PyProof.Rows L2
/-- the def keeps its promise when the law's caller calls it -/
structure FnAt (P : Program) (w : World) (K : PySem.W.Frag) (mg : Str → Option Value) (base : Heap) (f : Addr) (fd : FuncData) (ps : List Str) (sp : Sp) : Prop where
  run : ∀ (s : Shared) (H : Hp) (args : Args) (us : List Value) (vs : List V) (Q : VK) (E : XK), Env0 P w K mg base callerA [] s H → BindsTo s fd args (ps.zip us) → Vals vs us → sp vs H Q E →
    codeAny (model P w) callerA (.call (.ref f) args) (CR CX0 [] P w H s Q E) s
section
variable {P : Program} {w : World} {K : PySem.W.Frag} {mg : Str → Option Value} {base : Heap} {x qual : Str} {params : Arguments} {body : List Stmt} {scope : Scope} {dvs : List V} {kws : List (Str × V)} {f : Addr} {fd : FuncData}
theorem okAt {N ps : List Str} {k : Nat} {sp : Sp} (F : FunD K x qual params body scope dvs kws f fd) (S : FnScope N ps scope) (hR : Room (k + 1) callerA) (len : ∀ vs H Q E, sp vs H Q E → vs.length = ps.length)
    (bd : ∀ (cdv : Value) (s : Shared) (H : Hp) (vs : List V) (Q : VK) (E : XK), Room k (callerA.deeper (envOfC qual scope s.heap.objs.size f cdv)) → sp vs H Q E →
      ∃ t, PSs (cxOf CX0 P w K mg base N qual scope f cdv callerA [] s H E) body t ∧ t { nx := fun _ H' => Q .non H', rt := Q } (start N vs) H) : FnAt P w K mg base f fd ps sp := by
  obtain ⟨oc, od, dV, kV, doc, pm, an, cdv, ct, osl, rfl, lk, hcd, _, _⟩ := F.ex
  refine ⟨fun s H args us vs Q E e0 hb r hsp => ?_⟩
  have vl := len _ _ _ _ hsp
  have kx : K.In s.heap := e0.mod.kin.keeps fun b o e => (e0.bs b o e).1
  have nl : s.heap.NoLimit := e0.mod.nolimit.keeps fun b o e => (e0.bs b o e).1
  have kinds : ∀ y ∈ ps.zip us, scope.names.lookup y.1 = some .local ∨ (scope.names.lookup y.1 = some .cell ∧ ((cellsFrom (s.heap.objs.size + 1) scope.names []).lookup y.1).isSome = true) := by
    rintro ⟨y1, y2⟩ hy
    rcases S.par y1 (List.of_mem_zip hy).1 with q | q
    · left; exact q
    · right; exact ⟨q, PySem.W.cellsFrom_some _ _ _ (.inl q)⟩
  refine codeAny_call_function hR.depth (kx _ _ lk) rfl S.co S.gen rfl (PySem.W.codeRec_of kx hcd) (hb _ _ _ _ ?_)
  refine wpAny_newFunctionEnv_cells S.kind kinds fun env ee s1 ic => ?_
  subst ee
  refine ⟨nl.keeps ic.toInCall.keep, codeAny_func ?_⟩
  obtain ⟨t, pt, rd⟩ := bd cdv s H vs Q E (hR.deeper _) hsp
  have iv : L2.Inv (cxOf CX0 P w K mg base N qual scope f cdv callerA [] s H E) [] (start N vs) H s1 := inv_start S hR.hd e0 vl r ic
  refine wpAny_mono (pt.run [] s1 (start N vs) H _ iv rd) (fun fl s2 q => ?_) fun e s2 q => q
  have out : ∀ {σ2 : L2.St} {H2 : Hp} {a : V} {u : Value}, L2.Inv (cxOf CX0 P w K mg base N qual scope f cdv callerA [] s H E) [] σ2 H2 s2 → RelV a u → Q a H2 → CE [] P w H s Q u s2 := by
    intro σ2 H2 a u J ra qa
    exact ⟨a, H2, J.os, J.bare, J.base, J.hok, ra, qa⟩
  cases fl with
  | ret u =>
    obtain ⟨a, σ2, H2, J, ra, qa⟩ := q
    exact out J ra qa
  | next =>
    obtain ⟨σ2, H2, J, qa⟩ := q
    exact out (a := V.non) (u := Value.none) J rfl qa
  | brk =>
    obtain ⟨_, _, _, z⟩ := q
    exact z.elim
  | cont =>
    obtain ⟨_, _, _, z⟩ := q
    exact z.elim
end
/-- the law's call -/
theorem lawAt {P : Program} {w : World} {K : PySem.W.Frag} {mg mb : Str → Option Value} {fa a : Addr} {fd : FuncData} {x : Str} {sp : Sp} {s₁ : Shared} {vs : List Value} {ns : List Int}
    (kx : K.In s₁.heap) (hn : s₁.heap.Ns mainGlobals mg) (hb : s₁.heap.Ns builtinsNs mb) (hbb : ∀ y : Str, y ≠ "__name__" → mb y = bootBuiltins y) (lim : s₁.heap.NoLimit) (hg : s₁.gens = #[])
    (ha : s₁.heap.get? a = some { cls := .type "list", data := .seq vs.toArray }) (hi : IntsAre vs ns) (hl : ns.length ≤ sizeLine)
    (F : ∀ base : Heap, K.In base → base.Ns mainGlobals mg → FnAt P w K mg base fa fd [x] sp) (bd : ∀ (s : Shared) (u : Value), BindsTo s fd ⟨[u], []⟩ [(x, u)])
    (hsp : ∀ H : Hp, Only H → SqL K H a (ns.map V.int) → sp [.ref a] H (fun v _ => v = .bl true) fun _ _ _ => False) :
    codeAny (model P w) callerA (.call (.ref fa) ⟨[.ref a], []⟩) (fun r s' => r = .ok (.ret (.bool true)) ∧ OldK s₁.heap s'.heap ∧ s'.os = s₁.os ∧ AllBare s'.gens) s₁ := by
  have rel := vals_ints hi
  have lenV := hi.length
  have main : ∀ H : Hp, Only H → SqL K H a (ns.map V.int) → HOk P w H s₁.heap → (∀ b, H b ≠ none → b = a) → (H a ≠ none → K.lookup a = none) →
      codeAny (model P w) callerA (.call (.ref fa) ⟨[.ref a], []⟩) (fun r s' => r = .ok (.ret (.bool true)) ∧ OldK s₁.heap s'.heap ∧ s'.os = s₁.os ∧ AllBare s'.gens) s₁ := by
    intro H only sq ok onlyA notK
    have low : ∀ {b : Addr} {o : Obj}, s₁.heap.get? b = some o → H b = none → (hidT s₁.heap H).get? b = some o := fun e z => hidT_get e z
    have noD : ∀ {b : Addr} {o : Obj} {es : Array DictEntry} {ep : Nat}, s₁.heap.get? b = some o → o.data = .dict es ep → H b = none := by
      intro b o es ep e d
      cases q : H b with
      | none => rfl
      | some u =>
        have eb := onlyA b (by rw [q]; simp)
        subst eb
        rw [ha] at e
        cases e
        cases (show Data.seq vs.toArray _ = Data.dict es ep from d)
    have nsL : ∀ {b : Addr} {m : Str → Option Value}, s₁.heap.Ns b m → (hidT s₁.heap H).Ns b m := by
      rintro b m ⟨o, es, ep, e, d, r⟩
      exact ⟨o, es, ep, low e (noD e d), d, r⟩
    have kb : K.In (hidT s₁.heap H) := fun b o e => low (kx b o e) (by
      cases q : H b with
      | none => rfl
      | some u =>
        have eb := onlyA b (by rw [q]; simp)
        subst eb
        have z := notK (by rw [q]; simp)
        rw [z] at e
        cases e)
    have hM : Mod K mg (hidT s₁.heap H) := ⟨kb, nsL hn, ⟨mb, nsL hb, hbb⟩, by
      obtain ⟨mc, z1, z2⟩ := lim
      exact ⟨mc, nsL z1, z2⟩⟩
    have e0 : Env0 P w K mg (hidT s₁.heap H) callerA [] s₁ H := ⟨rfl, hM, fun b o e => of_hidT e, Nat.le_of_eq (hidT_size _ _), trivial, fun b q => absurd (show b ∈ ([] : List Addr) from q) (by simp), ok, .of_eq hg⟩
    refine codeAny_mono ((F _ kb (nsL hn)).run s₁ H ⟨[.ref a], []⟩ [.ref a] [.ref a] _ _ e0 (bd s₁ (.ref a)) (.cons rfl .nil) (hsp H only sq)) fun r s2 h => ?_
    cases r with
    | error e => exact (show False from h).elim
    | ok fl =>
      cases fl with
      | next => exact (show False from h).elim
      | brk => exact (show False from h).elim
      | cont => exact (show False from h).elim
      | ret u =>
        obtain ⟨v, H2, os, bare, un, ok2, rv, qv⟩ := h
        obtain rfl : v = .bl true := qv
        obtain rfl : u = Value.bool true := rv
        refine ⟨rfl, OldK.of_keep fun b o e => ?_, os, bare⟩
        cases q : H b with
        | none => exact un.keep b o e q (fun z => absurd (show b ∈ ([] : List Addr) from z) (by simp)) (by simp)
        | some u =>
          rcases only b with z | ⟨ob, xs, z⟩
          · rw [q] at z
            cases z
          · have z2 := un.frzs b ob _ z
            obtain ⟨e1, _⟩ := ok b _ z
            obtain ⟨e2, _⟩ := ok2 b _ z2
            rw [e] at e1
            cases e1
            exact e2
  cases hk : K.lookup a with
  | some o =>
    have e := kx a o hk
    rw [ha] at e
    cases e
    exact main (fun _ => none) (fun _ => .inl rfl) (.inr ⟨_, vs.toArray, _, hk, rfl, rfl, rfl, by rw [List.size_toArray, lenV]; exact hl, by simpa using rel⟩) (fun b u z => by cases (show (none : Option HO) = some u from z)) (fun b z => absurd rfl z) fun z => absurd rfl z
  | none =>
    refine main (fun b => if b = a then some (.frz { cls := .type "list", data := .seq vs.toArray } (.lst (ns.map V.int))) else none) (fun b => ?_) (.inl (.inr ⟨{ cls := .type "list", data := .seq vs.toArray }, if_pos rfl⟩)) (fun b u z => ?_) (fun b z => ?_) fun _ => hk
    · by_cases c : b = a
      · exact .inr ⟨_, _, if_pos c⟩
      · exact .inl (if_neg c)
    · by_cases c : b = a
      · have y := (if_pos c).symm.trans z
        cases y
        subst c
        exact ⟨ha, by rw [List.length_map]; exact hl, vs, _, rel, ha⟩
      · have y := (if_neg c).symm.trans z
        cases y
    · by_cases c : b = a
      · exact c
      · exact absurd (if_neg c) z
/-- the end of a law by such a promise -/
theorem walkAt {l : PySem.W.OpenLaw} {n : Nat} {q : Program} {loose : List Str} {XP : (Str → Option Value) → Heap → Prop} {YP : World → Heap → Prop} {d : DefRec} {x : Str}
    (hn : l.most = some n) (hn2 : n ≤ sizeLine) (hdf : d.params.defaults = [])
    (F : ∀ (w : World) (mg : Str → Option Value) (fa : Addr) (h : Heap), YP w h → h.Ns mainGlobals mg → mg d.name = some (.ref fa) →
      ∃ (K : PySem.W.Frag) (fd : FuncData) (sp : Sp), K.In h ∧ (∀ (s : Shared) (u : Value), BindsTo s fd ⟨[u], []⟩ [(x, u)]) ∧
        (∀ (H : Hp) (a : Addr) (ns : List Int), ns.length ≤ n → Only H → SqL K H a (ns.map V.int) → sp [.ref a] H (fun v _ => v = .bl true) fun _ _ _ => False) ∧
        ∀ base : Heap, K.In base → base.Ns mainGlobals mg → FnAt l.prog w K mg base fa fd [x] sp) :
    PySem.W.WalkO q loose XP YP l.row.toRowW d [] (fun f vs => PySem.call f vs) := by
  refine Att.attach_call hn hdf fun w s₀ s₁ mg mb fa o pm cd doc a vs ns G Y ho hd hcd hmg hobj hints hlen hg => ?_
  obtain ⟨K, fd, sp, kx, hb, hsp, hF⟩ := F w mg fa _ Y G.T.g hmg
  exact lawAt kx G.T.g G.T.b G.T.builtins G.T.nolimit hg hobj hints (Nat.le_trans hlen hn2) hF hb fun H only sq => hsp H a ns hlen only sq
/-! ### repr of what is read as data -/
section
variable {X : Cx}
theorem cr_reprD (hg : X.A.guards = some []) (hu : X.A.units + 66 < cLine) : CallR X (.builtin "repr") (fun xs H Q => ∃ (a : Addr) (d : PyData), xs = [.ref a] ∧ Dp X.K H (.ref a) d ∧ d.showable = true ∧ d.hasDict = false ∧ d.depth ≤ 64 ∧ d.shown.length ≤ sizeLine ∧ Q (.str d.shown) H) := by
  intro pins s σ H xs us Q I r h
  obtain ⟨a, d, rfl, hd, sh, nd, dp, sz, q⟩ := h
  rw [Vals.ref1 r]
  obtain ⟨as, rd⟩ := Dp.reads I d _ _ hd rfl
  refine repr_of_reads' rd sh (fun z => by rw [nd] at z; cases z) hg (by omega) (fun b o e => e) (fun h' u tk kp => ?_) sz
  exact ⟨.str d.shown, H, I.kept (t' := tk) kp, ⟨_, rfl⟩, q⟩
theorem cr_reprN : CallR X (.builtin "repr") (fun xs H Q => xs = [.non] ∧ Q (.str "None") H) := by
  intro pins s σ H xs us Q I r h
  obtain ⟨rfl, q⟩ := h
  obtain ⟨u, rfl, ru⟩ := vals1 r
  cases ru
  exact PySem.P.repr_of_none ⟨.str _, H, I.tok _, ⟨_, rfl⟩, q⟩
end
end GA
/-! repr of a dict from texts to ints -/
namespace GA
open PySem PySem.Spec PyProof.Rows L2
def kvT (l : List (Str × Int)) : List (Key × V) := l.map fun p => (Sum.inr p.1, V.int p.2)
def dkD (l : List (Str × Int)) : PyData := .dict (l.map fun p => (PyData.str p.1, PyData.int p.2))
section
variable {X : Cx}
theorem reads_kv {P : Program} {w : World} {h : Heap} : ∀ {l : List (Str × Int)} {vs : List (Key × Value)} {es : List DictEntry}, KV (kvT l) vs → Pairs (mixKind P w) es vs → ReadsAll h (es.map (·.key)) (l.map fun p => PyData.str p.1) [] ∧ ReadsAll h (es.map (·.val)) (l.map fun p => PyData.int p.2) []
  | [], vs, es, kv, pr => by
    cases kv
    cases pr
    exact ⟨.nil, .nil⟩
  | p :: l, vs, es, kv, pr => by
    cases kv with
    | cons h1 h2 =>
      cases pr with
      | cons a b r =>
        obtain ⟨r1, r2⟩ := reads_kv (h := h) h2 r
        obtain ⟨e1, v1⟩ := h1
        rename_i q qs e es
        obtain ⟨k, v⟩ := q
        dsimp only at e1 v1 a b
        subst e1
        obtain ⟨t, rfl⟩ := v1
        have ks : ∃ u, e.key = .str p.1 u := by
          rcases keyIs_shape (show keyIs (Sum.inr p.1) e.key = true from a) with ⟨i, t, h1, h2⟩ | ⟨x, t, h1, h2⟩
          · cases h1
          · cases h1
            exact ⟨t, h2⟩
        obtain ⟨u, ek⟩ := ks
        refine ⟨?_, ?_⟩
        · rw [List.map_cons, List.map_cons, ek]
          exact ReadsAll.cons (as := []) (bs := []) (.str _ _) r1
        · rw [List.map_cons, List.map_cons, b]
          exact ReadsAll.cons (as := []) (bs := []) (.int _ _) r2
/-- repr of such a dict -/
theorem cr_reprK (hg : X.A.guards = some []) (hu : X.A.units + 66 < cLine) : CallR X (.builtin "repr") (fun xs H Q => ∃ (a : Addr) (l : List (Str × Int)), xs = [.ref a] ∧ H a = some (.dK (kvT l)) ∧ (dkD l).showable = true ∧ (dkD l).depth ≤ 64 ∧ (dkD l).shown.length ≤ sizeLine ∧ Q (.str (dkD l).shown) H) := by
  intro pins s σ H xs us Q I r h
  obtain ⟨a, l, rfl, hd, sh, dp, sz, q⟩ := h
  rw [Vals.ref1 r]
  have hx : ObjOk X.prog X.w H s.heap a (.dK (kvT l)) := I.hok a _ hd
  obtain ⟨_, nsm, vs, kv, o, es, ep, ho, hx, hdat, _, pr, _⟩ := hx
  obtain ⟨r1, r2⟩ := reads_kv (h := s.heap) kv pr
  have rd : Reads s.heap (.ref a) (dkD l) (a :: [] ++ []) := Reads.dict ho hx.1 hdat (by rw [List.map_map]; exact r1) (by rw [List.map_map]; exact r2)
  refine repr_of_reads' rd sh (fun _ m => ?_) hg (by omega) (fun b o e => e) (fun h' u tk kp => ?_) sz
  · rw [List.append_nil, List.mem_singleton] at m
    rw [m] at nsm
    simp at nsm
  exact ⟨.str (dkD l).shown, H, I.kept (t' := tk) kp, ⟨_, rfl⟩, q⟩
end
end GA
namespace DW
open PySem PySem.Spec PyProof.Rows L2
/-! ### a def that stands in the module -/
structure Df (K : PySem.W.Frag) (mg : Str → Option Value) (x : Str) (st : Stmt) (ps : List Str) where
  f : Addr
  fd : FuncData
  F : FunD K x x (defArgs st) (defBody st) (defScope st) [] [] f fd
  g : mg x = some (.ref f)
  b : Binds K fd ps []
/-! ### heaps: all but the tape stays -/
structure Kp (t : Addr) (H H' : Hp) : Prop where
  old : ∃ kvs, H t = some (.dK kvs)
  new : ∃ kvs, H' t = some (.dK kvs)
  oth : ∀ b o, b ≠ t → H b = some o → H' b = some o
theorem Kp.trans {t : Addr} {H H1 H2 : Hp} (a : Kp t H H1) (b : Kp t H1 H2) : Kp t H H2 := ⟨a.old, b.new, fun c o n e => b.oth c o n (a.oth c o n e)⟩
theorem Kp.of {t : Addr} {H H' : Hp} {kvs : List (Key × V)} (e : H t = some (.dK kvs)) (s : Same H H') : Kp t H H' := ⟨⟨_, e⟩, ⟨_, s _ _ e⟩, fun b o _ h => s b o h⟩
theorem Kp.at {t b : Addr} {H H' : Hp} {o : HO} (k : Kp t H H') (h : H b = some o) (n : ∀ kvs, o ≠ .dK kvs) : H' b = some o := by
  obtain ⟨kvs, e⟩ := k.old
  exact k.oth b o (fun z => by
    subst z
    rw [e] at h
    exact n kvs (Option.some.inj h).symm) h
theorem Kp.lst {t b : Addr} {H H' : Hp} {xs : List V} {K : PySem.W.Frag} (k : Kp t H H') (h : SqL K H b xs) : SqL K H' b xs := by
  rcases h with (h | ⟨o, h⟩) | h
  · exact .inl (.inl (k.at h fun _ z => by cases z))
  · exact .inl (.inr ⟨o, k.at h fun _ z => by cases z⟩)
  · exact .inr h
theorem Kp.tup {t b : Addr} {H H' : Hp} {xs : List V} {K : PySem.W.Frag} (k : Kp t H H') (h : SqT K H b xs) : SqT K H' b xs := by
  rcases h with (h | ⟨o, h⟩) | h
  · exact .inl (.inl (k.at h fun _ z => by cases z))
  · exact .inl (.inr ⟨o, k.at h fun _ z => by cases z⟩)
  · exact .inr h
theorem same_upd {H : Hp} {p : Addr} {o : HO} (h : H p = none) : Same H (upd H p o) := fun b x e => by
  rw [upd_ne (ne_of_none e h)]
  exact e
theorem Kp.gone {t b : Addr} {H H' : Hp} (k : Kp t H H') (h : H' b = none) : H b = none := by
  cases q : H b with
  | none => rfl
  | some o =>
    by_cases e : b = t
    · obtain ⟨kvs, z⟩ := k.new
      rw [e, z] at h
      cases h
    · rw [k.oth b o e q] at h
      cases h
/-! ### the tape -/
def tpd (c : Addr) (p l : Int) : List (Key × V) := [(.inr "cells", .ref c), (.inr "place", .int p), (.inr "left", .int l)]
structure Tape (H : Hp) (t c : Addr) (n : Nat) : Prop where
  ex : ∃ (cells : List Int) (p : Nat) (l : Int), H t = some (.dK (tpd c p l)) ∧ H c = some (.lst (cells.map V.int)) ∧ 0 < cells.length ∧ cells.length ≤ 63 ∧ p ≤ n ∧ 0 ≤ l
section
variable {H H' : Hp} {t c : Addr} {n m : Nat}
theorem Tape.dk (T : Tape H t c n) : ∃ kvs, H t = some (.dK kvs) := by
  obtain ⟨cells, p, l, h, _⟩ := T.ex
  exact ⟨_, h⟩
theorem Tape.same (T : Tape H t c n) (s : Same H H') : Tape H' t c n := by
  obtain ⟨cells, p, l, h, hc, r⟩ := T.ex
  exact ⟨cells, p, l, s _ _ h, s _ _ hc, r⟩
theorem Tape.kp (T : Tape H t c n) (s : Same H H') : Kp t H H' := by
  obtain ⟨kvs, h⟩ := T.dk
  exact Kp.of h s
theorem Tape.mono (T : Tape H t c n) (h : n ≤ m) : Tape H t c m := by
  obtain ⟨cells, p, l, h1, h2, h3, h4, h5, h6⟩ := T.ex
  exact ⟨cells, p, l, h1, h2, h3, h4, Nat.le_trans h5 h, h6⟩
theorem Kp.refl (T : Tape H t c n) : Kp t H H := T.kp (Same.refl H)
/-- a store at an object that is not the tape's -/
theorem Tape.upd {D : Addr} {o : HO} (T : Tape H t c n) (h1 : D ≠ t) (h2 : D ≠ c) : Tape (upd H D o) t c n := by
  obtain ⟨cells, p, l, h, hc, r⟩ := T.ex
  exact ⟨cells, p, l, (upd_ne h1.symm).trans h, (upd_ne h2.symm).trans hc, r⟩
theorem Tape.ne1 {D : Addr} (T : Tape H t c n) (h : H D = none) : D ≠ t := fun z => by
  obtain ⟨cells, p, l, e, hc, r⟩ := T.ex
  rw [z, e] at h
  cases h
theorem Tape.ne2 {D : Addr} (T : Tape H t c n) (h : H D = none) : D ≠ c := fun z => by
  obtain ⟨cells, p, l, e, hc, r⟩ := T.ex
  rw [z, hc] at h
  cases h
theorem Kp.put {D : Addr} {o : HO} (k : Kp t H H') (h : H D = Option.none) (h1 : D ≠ t) : Kp t H (L2.upd H' D o) := by
  obtain ⟨kvs, e⟩ := k.new
  refine ⟨k.old, ⟨kvs, (upd_ne h1.symm).trans e⟩, fun b u n q => ?_⟩
  rw [upd_ne (ne_of_none q h)]
  exact k.oth b u n q
end
theorem ks1 : ¬ (("cells" : Str) = "place") := by decide +kernel
theorem ks2 : ¬ (("cells" : Str) = "left") := by decide +kernel
theorem ks3 : ¬ (("place" : Str) = "left") := by decide +kernel
theorem ks1' : ¬ (("place" : Str) = "cells") := by decide +kernel
theorem ks2' : ¬ (("left" : Str) = "cells") := by decide +kernel
theorem ks3' : ¬ (("left" : Str) = "place") := by decide +kernel
theorem tp_cells (c : Addr) (p l : Int) : valV (tpd c p l) (Sum.inr ("cells" : Str)) = some (.ref c) := by simp [tpd, valV]
theorem tp_place (c : Addr) (p l : Int) : valV (tpd c p l) (Sum.inr ("place" : Str)) = some (.int p) := by simp [tpd, valV, ks1]
theorem tp_left (c : Addr) (p l : Int) : valV (tpd c p l) (Sum.inr ("left" : Str)) = some (.int l) := by simp [tpd, valV, ks2, ks3]
theorem tp_put_place (c : Addr) (p q l : Int) : putK (tpd c p l) (Sum.inr ("place" : Str)) (.int q) = tpd c q l := by simp [putK, tpd, ks1, ks3']
theorem tp_put_left (c : Addr) (p l m : Int) : putK (tpd c p l) (Sum.inr ("left" : Str)) (.int m) = tpd c p m := by simp [putK, tpd, ks2, ks3]
theorem tp_merge (c : Addr) (p l : Int) : mergeK [] (tpd c p l) = tpd c p l := by simp [mergeK, putK, tpd, ks1, ks2, ks3]
theorem g_cells {H : Hp} {t c : Addr} {p l : Int} (h : H t = some (.dK (tpd c p l))) : DGet H t (.str "cells") (some (.ref c)) := by
  have q := DGet.k (k := Sum.inr ("cells" : Str)) h
  rw [tp_cells] at q
  exact q
theorem g_place {H : Hp} {t c : Addr} {p l : Int} (h : H t = some (.dK (tpd c p l))) : DGet H t (.str "place") (some (.int p)) := by
  have q := DGet.k (k := Sum.inr ("place" : Str)) h
  rw [tp_place] at q
  exact q
theorem g_left {H : Hp} {t c : Addr} {p l : Int} (h : H t = some (.dK (tpd c p l))) : DGet H t (.str "left") (some (.int l)) := by
  have q := DGet.k (k := Sum.inr ("left" : Str)) h
  rw [tp_left] at q
  exact q
theorem p_place {H : Hp} {t c : Addr} {p l : Int} (q : Int) (h : H t = some (.dK (tpd c p l))) : DPut H t (.str "place") (.int q) (upd H t (.dK (tpd c q l))) := by
  have z := DPut.k (k := Sum.inr ("place" : Str)) (v := V.int q) h (by show 3 < sizeLine; decide)
  rw [tp_put_place] at z
  exact z
theorem p_left {H : Hp} {t c : Addr} {p l : Int} (q : Int) (h : H t = some (.dK (tpd c p l))) : DPut H t (.str "left") (.int q) (upd H t (.dK (tpd c p q))) := by
  have z := DPut.k (k := Sum.inr ("left" : Str)) (v := V.int q) h (by show 3 < sizeLine; decide)
  rw [tp_put_left] at z
  exact z
def spBegin (K : PySem.W.Frag) : Sp := fun vs H Q _ => ∃ (a : Addr) (ns : List Int), vs = [.ref a] ∧ SqL K H a (ns.map V.int) ∧ ∀ H' t c, Same H H' → H t = none → H c = none → Tape H' t c 0 → Q (.ref t) H'
def spDraw : Sp := fun vs H Q _ => ∃ (t c : Addr) (m : Int) (n : Nat), vs = [.ref t, .int m] ∧ Tape H t c n ∧ n < 2 ^ 40 ∧ 0 < m ∧ m < 2 ^ 30 ∧ ∀ H' r, Kp t H H' → Tape H' t c (n + 1) → 0 ≤ r → r < m → Q (.int r) H'
/-- pick: from a list, from a text -/
def spPick (K : PySem.W.Frag) : Sp := fun vs H Q _ => ∃ (t c : Addr) (n : Nat) (x : V), vs = [.ref t, x] ∧ Tape H t c n ∧ n < 2 ^ 40 ∧
  ((∃ a xs, x = .ref a ∧ SqL K H a xs ∧ xs ≠ [] ∧ xs.length < 2 ^ 30 ∧ ∀ H' y, Kp t H H' → Tape H' t c (n + 1) → y ∈ xs → Q y H') ∨
   (∃ z : Str, x = .str z ∧ z.length ≠ 0 ∧ z.length < 2 ^ 20 ∧ ∀ H' d, Kp t H H' → Tape H' t c (n + 1) → d ∈ z.cps.toList → Q (.str ⟨#[d]⟩) H'))
section
variable {P : Program} {w : World} {K : PySem.W.Frag} {mg : Str → Option Value} {base : Heap}
theorem scBegin : FnScope ["_law_script"] ["_law_script"] (defScope sBegin) := ⟨rfl, rfl, rfl, by decide +kernel, rfl, by decide +kernel, by decide +kernel⟩
theorem cut63 (ns : List Int) : ∃ ms : List Int, cutV (ns.map V.int) none (some 63) = ms.map V.int ∧ ms.length ≤ 63 := by
  refine ⟨ns.take 63, ?_, ?_⟩
  · unfold cutV
    rw [HT.sIx_none, show HT.sIx (ns.map V.int).length (ns.map V.int).length (some 63) = min 63 (ns.map V.int).length from HT.sIx_nat _ _ 63, List.map_take]
    show List.take _ (List.drop 0 _) = _
    rw [List.drop_zero, Nat.sub_zero]
    by_cases c : 63 ≤ (ns.map V.int).length
    · rw [Nat.min_eq_left c]
    · rw [Nat.min_eq_right (by omega), List.take_length, List.take_of_length_le (by omega)]
  · rw [List.length_take]
    omega
theorem ok_begin (D : Df K mg "_law_begin" sBegin ["_law_script"]) : FnOk P w K mg base CX0 1 D.f D.fd ["_law_script"] (spBegin K) := by
  refine D.F.ok scBegin (fun vs H Q E h => ?_) (fun cdv A outer s H vs Q E hr h => ?_)
  · obtain ⟨a, ns, rfl, _⟩ := h
    rfl
  · obtain ⟨a, ns, rfl, hS, k⟩ := h
    refine ⟨_, pss_one (ps_ret (pe_disp (pps_cons pe_str (pe_orT (pe_slice sl_list (pv 0) po_none (po_some pe_int)) (pe_one (pe_lst (pa_cons pe_int pa_nil)))) (pps_cons pe_str pe_int (pps_cons pe_str pe_int pps_nil))) (by rfl) (by rfl) (fun z => by cases z) (by decide))), ?_⟩
    intro t ht
    have s1 : Same H (upd H t (.dK [])) := same_upd ht
    obtain ⟨ms, em, hm⟩ := cut63 ns
    refine ⟨_, rfl, 63, rfl, a, ns.map V.int, rfl, s1.seq hS, fun c hc => ?_⟩
    have nct : c ≠ t := fun z => by
      rw [z, upd_same] at hc
      cases hc
    rw [em]
    refine ⟨!(ms.map V.int).isEmpty, .inl ⟨_, SqL.of upd_same, rfl⟩, ite2 (fun e => ?_) (fun e => ?_)⟩
    · refine ⟨Eq.trans (upd_ne nct.symm) upd_same, tpd c 0 0, rfl, by show 3 ≤ 15; decide, ?_⟩
      rw [tp_merge]
      refine k _ t c (fun b o eb => ?_) ht (s1.free hc) ⟨ms, 0, 0, upd_same, Eq.trans (upd_ne nct) upd_same, ?_, hm, Nat.le_refl _, Int.le_refl _⟩
      · have nb : b ≠ t := ne_of_none eb ht
        rw [upd_ne nb]
        exact same_upd hc _ _ (s1 _ _ eb)
      · cases ms with
        | nil => cases e
        | cons x r => exact Nat.succ_pos _
    · refine ⟨by show 1 ≤ sizeLine; decide, fun d hd => ?_⟩
      have ndt : d ≠ t := fun z => by
        rw [z, upd_ne nct.symm, upd_same] at hd
        cases hd
      refine ⟨Eq.trans (upd_ne ndt.symm) (Eq.trans (upd_ne nct.symm) upd_same), tpd d 0 0, rfl, by show 3 ≤ 15; decide, ?_⟩
      rw [tp_merge]
      refine k _ t d (fun b o eb => ?_) ht (s1.free ((same_upd hc).free hd)) ⟨[0], 0, 0, upd_same, Eq.trans (upd_ne ndt) upd_same, Nat.succ_pos _, by decide, Nat.le_refl _, Int.le_refl _⟩
      have nb : b ≠ t := ne_of_none eb ht
      rw [upd_ne nb]
      exact same_upd hd _ _ (same_upd hc _ _ (s1 _ _ eb))
theorem scDraw : FnScope ["_law_tape", "_law_many", "_law_place", "_law_count", "_law_cell", "_law_found"] ["_law_tape", "_law_many"] (defScope sDraw) := ⟨rfl, rfl, rfl, by decide +kernel, rfl, by decide +kernel, by decide +kernel⟩
theorem tape_put {H : Hp} {t c : Addr} {cells : List Int} {n p : Nat} {l : Int} {kvs : List (Key × V)} (e : H t = some (.dK kvs)) (hc : H c = some (.lst (cells.map V.int))) (h1 : 0 < cells.length) (h2 : cells.length ≤ 63) (hp : p ≤ n) (hl : 0 ≤ l) :
    Tape (upd H t (.dK (tpd c p l))) t c n := by
  have nct : c ≠ t := ne_of hc e (by intro z; cases z)
  exact ⟨cells, p, l, upd_same, Eq.trans (upd_ne nct) hc, h1, h2, hp, hl⟩
theorem kp_put {H : Hp} {t : Addr} {kvs kvs' : List (Key × V)} (e : H t = some (.dK kvs)) : Kp t H (upd H t (.dK kvs')) := ⟨⟨_, e⟩, ⟨_, upd_same⟩, fun b o n h => (upd_ne n).trans h⟩
theorem ok_draw (D : Df K mg "_law_draw" sDraw ["_law_tape", "_law_many"]) (ml : mg "len" = none) : FnOk P w K mg base CX0 1 D.f D.fd ["_law_tape", "_law_many"] spDraw := by
  refine D.F.ok scDraw (fun vs H Q E h => ?_) (fun cdv A outer s H vs Q E hr h => ?_)
  · obtain ⟨t, c, m, n, rfl, _⟩ := h
    rfl
  · obtain ⟨t, c, m, n, rfl, T, hn, m0, m1, k⟩ := h
    have hu := hu_of hr
    refine ⟨_, C8.pss_cut (ps_if (pt_cmpR op_lt (pe_dget hu (pv 0) pe_str (fun _ _ => rfl)) (pv 1) (nomark _))
        (pss_cons (ps_par (i := 2) (j := 3) rfl scDraw.nd rfl rfl (by decide) rfl rfl (pa_cons (pe_dget hu (pv 0) pe_str (fun _ _ => rfl)) (pa_cons (pe_callB call_len_seq (by rfl) ml PySem.boot_len (pa_cons (pe_dget hu (pv 0) pe_str (fun _ _ => rfl)) pa_nil)) pa_nil)) (by rfl))
        (pss_cons (ps_asg (pe_tup (pa_cons (pe_ix ix_list (pe_dget hu (pv 0) pe_str (fun _ _ => rfl)) (pe_op op_mod (pv 2) (pv 3)) (fun _ _ => rfl)) (pa_cons (pe_op op_add (pv 2) pe_int) pa_nil)))
            (pg_tup rfl (pgs_cons (pg_name (i := 4) scDraw.nd rfl (.inl rfl)) (pgs_cons (pg_sub (pv 0) pe_str (set_dict hu)) pgs_nil))))
        (pss_cons (ps_dput hu (pv 0) pe_str (pe_op op_mod (pe_op op_pow (pe_op op_add (pe_op op_add (pe_op op_mod (pv 4) pe_int) (pe_op op_mul pe_int (pv 2))) pe_int) pe_int) (pe_op op_add (pe_op op_pow pe_int pe_int) pe_int)) rfl)
        (pss_one (ps_if (pw_and (pt_cmpR op_ge (pv 4) (pe_op op_pow pe_int pe_int) (nomark _)) (pw_and1 (pt_cmpR op_lt (pv 2) (pv 3) (nomark _)))).pt
          (pss_one (ps_dput hu (pv 0) pe_str (pe_op op_sub (pv 4) (pe_op op_pow pe_int pe_int)) rfl)) pss_nil))))) pss_nil)
      (pss_cons (ps_asg (pe_tup (pa_cons (pe_op op_mod (pe_dget hu (pv 0) pe_str (fun _ _ => rfl)) (pv 1)) (pa_cons (pe_op op_fdiv (pe_dget hu (pv 0) pe_str (fun _ _ => rfl)) (pv 1)) pa_nil)))
            (pg_tup rfl (pgs_cons (pg_name (i := 5) scDraw.nd rfl (.inl rfl)) (pgs_cons (pg_sub (pv 0) pe_str (set_dict hu)) pgs_nil))))
      (pss_one (ps_ret (pv 5)))), ?_⟩
    have m1' : m < 1073741824 := m1
    obtain ⟨cells, p, l, ht, hc, c0, c63, hp, l0⟩ := T.ex
    refine ⟨fun σ' H' => ∃ y2 y3 y4, σ' = [some (.ref t), some (.int m), y2, y3, y4, none] ∧ Kp t H H' ∧ Tape H' t c (n + 1), ?_, ?_⟩
    · refine ⟨.ref t, rfl, t, .int l, rfl, g_left ht, .int m, rfl, l, m, rfl, rfl, _, rfl, ite2 (fun e => ?_) (fun e => ?_)⟩
      · refine ⟨.ref t, rfl, t, .int p, rfl, g_place ht, .ref t, rfl, t, .ref c, rfl, g_cells ht, c, _, rfl, .inl (SqL.of hc), _, _, rfl, ?_⟩
        have lp : 0 < (cells.map V.int).length := by
          rw [List.length_map]
          exact c0
        have jl : p % (cells.map V.int).length < cells.length := by
          have := Nat.mod_lt p lp
          rw [List.length_map] at this ⊢
          exact this
        have ga : (cells.map V.int)[p % (cells.map V.int).length]? = some (.int cells[p % (cells.map V.int).length]) := by
          rw [List.getElem?_map, List.getElem?_eq_getElem jl]
          rfl
        generalize cells[p % (cells.map V.int).length] = z at ga
        refine ⟨.ref t, rfl, t, .ref c, rfl, g_cells ht, _, rfl, _, rfl, (p : Int), ((cells.map V.int).length : Int), rfl, rfl, by omega, c, _, _, .int z, rfl, rfl, SqL.of hc, at_of (j := p % (cells.map V.int).length) (by rw [Int.natCast_emod]) ga, .int p, rfl, (p : Int), 1, rfl, rfl, by show 2 ≤ sizeLine; decide, fun q hq => ?_⟩
        have s1 : Same H (upd H q (.tup [.int z, .int ((p : Int) + 1)])) := same_upd hq
        have ht1 := s1 _ _ ht
        have hc1 := s1 _ _ hc
        have nct : c ≠ t := ne_of hc ht (by intro z; cases z)
        refine ⟨q, _, rfl, SqT.of upd_same, rfl, _, _, rfl, _, _, rfl, .ref t, rfl, t, _, rfl, p_place ((p : Int) + 1) ht1, rfl, ?_⟩
        have hn' : n < 1099511627776 := hn
        have zm0 : 0 ≤ z % 2147483647 := Int.emod_nonneg _ (by decide)
        have zm1 : z % 2147483647 < 2147483647 := Int.emod_lt_of_pos _ (by decide)
        have b0 : (z % 2147483647 + 69621 * (p : Int) + 48271).natAbs < 2 ^ 64 := by omega
        refine ⟨.int z, rfl, z, 2147483647, rfl, rfl, (by show (0 : Int) < 2147483647; decide), .int p, rfl, 69621, (p : Int), rfl, rfl, .inl ⟨by decide, by decide⟩, _, _, rfl, rfl, _, 48271, rfl, rfl, _, 17, rfl, rfl, ⟨by decide, by decide, b0⟩, 10, 50, rfl, rfl, ⟨by decide, by decide, by decide⟩, _, 151, rfl, rfl, _, _, rfl, rfl, ?_, ?_⟩
        · exact (by decide +kernel : (0 : Int) < 10 ^ (50 : Int).toNat + 151)
        have ht2 : (upd (upd H q (.tup [.int z, .int ((p : Int) + 1)])) t (.dK (tpd c ((p : Int) + 1) l))) t = some (.dK (tpd c ((p : Int) + 1) l)) := upd_same
        refine ⟨.ref t, rfl, t, _, rfl, p_left ((z % 2147483647 + 69621 * (p : Int) + 48271) ^ (17 : Int).toNat % (10 ^ (50 : Int).toNat + 151)) ht2, ?_⟩
        have x0 : 0 ≤ (z % 2147483647 + 69621 * (p : Int) + 48271) ^ (17 : Int).toNat % (10 ^ (50 : Int).toNat + 151) := Int.emod_nonneg _ (by decide +kernel)
        generalize (z % 2147483647 + 69621 * (p : Int) + 48271) ^ (17 : Int).toNat % (10 ^ (50 : Int).toNat + 151) = x17 at x0 ⊢
        have k3 : Kp t H (upd (upd (upd H q (.tup [.int z, .int ((p : Int) + 1)])) t (.dK (tpd c ((p : Int) + 1) l))) t (.dK (tpd c ((p : Int) + 1) x17))) := ((Kp.of ht s1).trans (kp_put ht1)).trans (kp_put ht2)
        have hc3 := k3.at hc (fun _ z => by cases z)
        refine ⟨.int z, rfl, 10, 18, rfl, rfl, ⟨by decide, by decide, by decide⟩, z, _, rfl, rfl, _, rfl, ite2 (fun e2 => ?_) (fun e2 => ?_)⟩
        · refine ⟨.int p, rfl, _, rfl, _, _, rfl, rfl, _, rfl, ite2 (fun e3 => ?_) (fun e3 => ?_)⟩
          · have hz : (0 : Int) ≤ z - 10 ^ (18 : Int).toNat := by
              have e4 : (10 : Int) ^ (18 : Int).toNat ≤ z := of_decide_eq_true e2
              omega
            refine ⟨.int z, rfl, 10, 18, rfl, rfl, ⟨by decide, by decide, by decide⟩, z, _, rfl, rfl, .ref t, rfl, t, _, rfl, p_left (z - 10 ^ (18 : Int).toNat) upd_same, ?_⟩
            exact ⟨_, _, _, rfl, k3.trans (kp_put upd_same), tape_put (p := p + 1) upd_same hc3 c0 c63 (by omega) hz⟩
          · exact ⟨_, _, _, rfl, k3, ⟨cells, p + 1, x17, upd_same, hc3, c0, c63, by omega, x0⟩⟩
        · exact ⟨_, _, _, rfl, k3, ⟨cells, p + 1, x17, upd_same, hc3, c0, c63, by omega, x0⟩⟩
      · exact ⟨none, none, none, rfl, Kp.refl T, T.mono (Nat.le_succ n)⟩
    · rintro σ' H' ⟨y2, y3, y4, rfl, k1, T1⟩
      obtain ⟨cells, p, l, ht, hc, c0, c63, hp, l0⟩ := T1.ex
      refine ⟨.ref t, rfl, t, .int l, rfl, g_left ht, .int m, rfl, l, m, rfl, rfl, m0, .ref t, rfl, t, .int l, rfl, g_left ht, .int m, rfl, l, m, rfl, rfl, ⟨m0, m1⟩, by show 2 ≤ sizeLine; decide, fun q hq => ?_⟩
      have s1 : Same H' (upd H' q (.tup [.int (l % m), .int (l / m)])) := same_upd hq
      have ht1 := s1 _ _ ht
      refine ⟨q, _, rfl, SqT.of upd_same, rfl, _, _, rfl, _, _, rfl, .ref t, rfl, t, _, rfl, p_left (l / m) ht1, rfl, ?_⟩
      refine ⟨_, rfl, k _ _ ((k1.trans (T1.kp s1)).trans (kp_put ht1)) (tape_put ht1 (s1 _ _ hc) c0 c63 hp (Int.ediv_nonneg l0 (by omega))) (Int.emod_nonneg _ (by omega)) (Int.emod_lt_of_pos _ m0)⟩
theorem at_cp {α : Type} {xs : List α} {z : Int} {j : Nat} {v : α} (e : z = (j : Int)) (h : xs[j]? = some v) : atI xs z = some v := by
  rw [e]
  exact atI_nat h
theorem scPick : FnScope ["_law_tape", "_law_items"] ["_law_tape", "_law_items"] (defScope sPick) := ⟨rfl, rfl, rfl, by decide +kernel, rfl, by decide +kernel, by decide +kernel⟩
theorem ok_pick (D : Df K mg "_law_pick" sPick ["_law_tape", "_law_items"]) (Dd : Df K mg "_law_draw" sDraw ["_law_tape", "_law_many"]) (ml : mg "len" = none) : FnOk P w K mg base CX0 2 D.f D.fd ["_law_tape", "_law_items"] (spPick K) := by
  have Gd : FnOk P w K mg base CX0 1 Dd.f Dd.fd ["_law_tape", "_law_many"] spDraw := ok_draw Dd ml
  refine D.F.ok scPick (fun vs H Q E h => ?_) (fun cdv A outer s H vs Q E hr h => ?_)
  · obtain ⟨t, c, n, x, rfl, _⟩ := h
    rfl
  · obtain ⟨t, c, n, x, rfl, T, hn, h⟩ := h
    rcases h with ⟨a, xs, rfl, hx, ne, hl, k⟩ | ⟨z, rfl, ne, hl, k⟩
    · refine ⟨_, pss_one (ps_ret (pe_ix ix_list (pv 1) (pe_call Gd hr (by rfl) Dd.g Dd.F.kp Dd.b .nil pass0 (pa_cons (pv 0) (pa_cons (pe_callB call_len_seq (by rfl) ml PySem.boot_len (pa_cons (pv 1) pa_nil)) pa_nil))) (fun _ _ => rfl))), ?_⟩
      have l0 : 0 < xs.length := List.length_pos_iff.mpr ne
      refine ⟨.ref a, rfl, .ref t, rfl, .ref a, rfl, a, xs, rfl, .inl hx, t, c, _, n, rfl, T, hn, by omega, by omega, fun H' r k1 T1 r0 r1 => ?_⟩
      have rl : r.toNat < xs.length := by omega
      refine ⟨a, xs, r, xs[r.toNat], rfl, rfl, k1.lst hx, at_of (j := r.toNat) (by omega) (List.getElem?_eq_getElem rl), k H' _ k1 T1 (List.getElem_mem rl)⟩
    · refine ⟨_, pss_one (ps_ret (pe_ix ix_str (pv 1) (pe_call Gd hr (by rfl) Dd.g Dd.F.kp Dd.b .nil pass0 (pa_cons (pv 0) (pa_cons (pe_callB call_len_str (by rfl) ml PySem.boot_len (pa_cons (pv 1) pa_nil)) pa_nil))) (fun _ _ => rfl))), ?_⟩
      have zl : z.cps.toList.length = z.length := Array.length_toList
      refine ⟨.str z, rfl, .ref t, rfl, .str z, rfl, z, rfl, ?_, t, c, _, n, rfl, T, hn, by omega, by omega, fun H' r k1 T1 r0 r1 => ?_⟩
      · rw [sizeLine_eq]; omega
      have rl : r.toNat < z.cps.toList.length := by omega
      refine ⟨z, r, z.cps.toList[r.toNat], rfl, rfl, ?_, at_cp (by omega) (List.getElem?_eq_getElem rl), k H' _ k1 T1 (List.getElem_mem rl)⟩
      rw [sizeLine_eq]
      omega
end
end DW
namespace DW
open PySem PySem.Spec PyProof.Rows L2 TL
set_option autoImplicit false
/-! ### texts as lists of codes -/
def one (c : Nat) : Str := ⟨#[c]⟩
theorem tl_one (c : Nat) : tl (one c) = [c] := rfl
theorem tl_inj {x y : Str} (h : tl x = tl y) : x = y := by
  obtain ⟨⟨a⟩⟩ := x
  obtain ⟨⟨b⟩⟩ := y
  have e : a = b := h
  rw [e]
theorem joinL_nil : ∀ l : List (List Nat), joinL [] l = l.flatten
  | [] => rfl
  | [p] => by simp [joinL]
  | p :: q :: r => by
    show p ++ ([] ++ joinL [] (q :: r)) = (p :: q :: r).flatten
    rw [joinL_nil (q :: r)]
    simp
theorem tl_cat (ys : List Str) : tl (Txt.join "" ys) = (ys.map tl).flatten := by
  have e : tl (Str.join "" ys) = joinL (tl "") (ys.map tl) := tl_join "" ys
  rw [join_eq, e, show tl "" = [] from rfl, joinL_nil]
theorem flat_ones (cs : List Nat) : ((cs.map one).map tl).flatten = cs := by
  induction cs with
  | nil => rfl
  | cons c r ih =>
    show [c] ++ ((r.map one).map tl).flatten = c :: r
    rw [ih]
    rfl
theorem lt_ones (x p : Nat) : ltCps (tl (one x)) (tl (one p)) = decide (x < p) := by
  simp [one, ltCps]
theorem sorted_ones : ∀ ys : List Str, (∀ y ∈ ys, ∃ c, y = one c) → ys.Nodup → sortedS ys = true → ∃ cs : List Nat, ys = cs.map one ∧ cs.Pairwise (· < ·)
  | [], _, _, _ => ⟨[], rfl, List.Pairwise.nil⟩
  | [y], h, _, _ => by
    obtain ⟨c, rfl⟩ := h y List.mem_cons_self
    exact ⟨[c], rfl, List.pairwise_singleton _ _⟩
  | y :: z :: r, h, nd, so => by
    obtain ⟨hy, nd'⟩ := List.nodup_cons.mp nd
    obtain ⟨c, rfl⟩ := h y List.mem_cons_self
    obtain ⟨d, rfl⟩ := h z (List.mem_cons_of_mem _ List.mem_cons_self)
    have so' : (!ltCps (tl (one d)) (tl (one c)) && risingS (one d) r) = true := so
    rw [Bool.and_eq_true] at so'
    obtain ⟨cs, e, pw⟩ := sorted_ones (one d :: r) (fun u hu => h u (List.mem_cons_of_mem _ hu)) nd' so'.2
    have lt : c < d := by
      have q := so'.1
      rw [lt_ones] at q
      have n1 : ¬ d < c := by simpa using q
      have n2 : c ≠ d := fun z => hy (by rw [z]; exact List.mem_cons_self)
      omega
    cases cs with
    | nil => cases e
    | cons d' cs =>
      have e1 : one d = one d' := (List.cons.inj e).1
      have e2 : d = d' := by
        have q := congrArg tl e1
        exact (List.cons.inj q).1
      subst e2
      refine ⟨c :: d :: cs, by rw [List.map_cons, ← e], List.pairwise_cons.mpr ⟨fun u hu => ?_, pw⟩⟩
      rcases List.mem_cons.mp hu with q | q
      · omega
      · have := (List.pairwise_cons.mp pw).1 u q
        omega
theorem sum_ones : ∀ ys : List Str, (∀ y ∈ ys, ∃ c, y = one c) → (ys.map (·.length)).sum = ys.length
  | [], _ => rfl
  | y :: r, h => by
    obtain ⟨c, rfl⟩ := h y List.mem_cons_self
    rw [List.map_cons, List.sum_cons, sum_ones r fun u hu => h u (List.mem_cons_of_mem _ hu), List.length_cons]
    show 1 + r.length = r.length + 1
    omega
theorem yes {σ : L2.St} {H : Hp} {F G : Hp → Prop} (h : F H) : tYes σ H (fun b H3 => if b = true then F H3 else G H3) := by
  show (if true = true then F H else G H)
  rw [if_pos rfl]
  exact h
/-- an alphabet -/
def Alph (z : Str) : Prop := (tl z).Pairwise (· < ·) ∧ 1 ≤ (tl z).length ∧ (tl z).length ≤ 3 ∧ ∀ c ∈ tl z, 97 ≤ c ∧ c ≤ 122
def abc : Str := "abcdefghijklmnopqrstuvwxyz"
theorem abc_low : ∀ c ∈ tl abc, 97 ≤ c ∧ c ≤ 122 := by decide +kernel
theorem abc_len : (tl abc).length = 26 := by decide +kernel
theorem al1 : Alph "ab" := by unfold Alph; decide +kernel
theorem al2 : Alph "abc" := by unfold Alph; decide +kernel
theorem al3 : Alph "a" := by unfold Alph; decide +kernel
theorem al4 : Alph "bx" := by unfold Alph; decide +kernel
theorem al5 : Alph "cmz" := by unfold Alph; decide +kernel
theorem alph_of {ds : List Nat} {ls ys : List Str} (h1 : 1 ≤ ds.length) (h3 : ds.length ≤ 3) (low : ∀ c ∈ ds, 97 ≤ c ∧ c ≤ 122) (nd : ls.Nodup) (mem : ∀ k, k ∈ ls ↔ k ∈ ds.map one) (le : ls.length ≤ (ds.map one).length)
    (pm : ys.Perm ls) (so : sortedS ys = true) : Alph (Txt.join "" ys) := by
  have hm : ∀ y ∈ ys, y ∈ ds.map one := fun y hy => (mem y).mp (pm.mem_iff.mp hy)
  obtain ⟨cs, rfl, pw⟩ := sorted_ones ys (fun y hy => by
    obtain ⟨c, _, e⟩ := List.mem_map.mp (hm y hy)
    exact ⟨c, e.symm⟩) (pm.nodup_iff.mpr nd) so
  have e : tl (Txt.join "" (cs.map one)) = cs := by rw [tl_cat, flat_ones]
  have hl : cs.length = ls.length := by
    have q := pm.length_eq
    rw [List.length_map] at q
    exact q
  rw [List.length_map] at le
  unfold Alph
  rw [e]
  refine ⟨pw, ?_, by omega, fun c hc => ?_⟩
  · cases ds with
    | nil => cases h1
    | cons d r =>
      have q : one d ∈ ls := (mem _).mpr List.mem_cons_self
      have q2 : one d ∈ cs.map one := pm.mem_iff.mpr q
      have := List.length_pos_of_mem q2
      rw [List.length_map] at this
      omega
  · obtain ⟨d, hd, e⟩ := List.mem_map.mp (hm (one c) (List.mem_map.mpr ⟨c, hc, rfl⟩))
    have e2 : d = c := by
      have q := congrArg tl e
      exact (List.cons.inj q).1
    rw [← e2]
    exact low d hd
/-! ### what the module's names hold -/
structure Bl (mg : Str → Option Value) : Prop where
  len : mg "len" = none
  range : mg "range" = none
  sorted : mg "sorted" = none
  set : mg "set" = none
def spAlpha : Sp := fun vs H Q _ => ∃ (t c : Addr) (n : Nat), vs = [.ref t] ∧ Tape H t c n ∧ n + 10 < 2 ^ 40 ∧ ∀ H' z, Kp t H H' → Tape H' t c (n + 10) → Alph z → Q (.str z) H'
abbrev DfDraw (K : PySem.W.Frag) (mg : Str → Option Value) := Df K mg "_law_draw" sDraw ["_law_tape", "_law_many"]
abbrev DfPick (K : PySem.W.Frag) (mg : Str → Option Value) := Df K mg "_law_pick" sPick ["_law_tape", "_law_items"]
end DW
namespace DW
open PySem PySem.Spec PyProof.Rows L2 TL
set_option autoImplicit false
section
variable {P : Program} {w : World} {K : PySem.W.Frag} {mg : Str → Option Value} {base : Heap}
theorem scAlpha : FnScope ["_law_tape", "_law_letters", "_law_drawn", "_law_k"] ["_law_tape"] (defScope sAlpha) := ⟨rfl, rfl, rfl, by decide +kernel, rfl, by decide +kernel, by decide +kernel⟩
theorem ok_alpha (D : Df K mg "_law_alphabet" sAlpha ["_law_tape"]) (Dd : DfDraw K mg) (Dp : DfPick K mg) (B : Bl mg) : FnOk P w K mg base CX0 3 D.f D.fd ["_law_tape"] spAlpha := by
  have Gd : FnOk P w K mg base CX0 1 Dd.f Dd.fd ["_law_tape", "_law_many"] spDraw := ok_draw Dd B.len
  have Gp : FnOk P w K mg base CX0 2 Dp.f Dp.fd ["_law_tape", "_law_items"] (spPick K) := ok_pick Dp Dd B.len
  refine D.F.ok scAlpha (fun vs H Q E h => ?_) (fun cdv A outer s H vs Q E hr h => ?_)
  · obtain ⟨t, c, n, rfl, _⟩ := h
    rfl
  · obtain ⟨t, c, n, rfl, T, hn, k⟩ := h
    have hr1 : Room 1 _ := hr.mono (by decide)
    refine ⟨_, pss_cons (ps_set (i := 1) scAlpha.nd rfl (Or.inr rfl) pe_str)
      (pss_cons (ps_setLc (i := 2) (own := [("_law_k", 3)]) (g := gName 3) (tt := tYes) rfl scAlpha.nd rfl rfl (sw_true rfl rfl rfl (by decide +kernel))
        (pi_range1 rfl B.range (pa_cons (pe_op op_add pe_int (pe_call Gd hr1 (by rfl) Dd.g Dd.F.kp Dd.b .nil pass0 (pa_cons (pv 0) (pa_cons pe_int pa_nil)))) pa_nil))
        (blkOk_by (N := ["_law_tape", "_law_letters", "_law_drawn", "_law_k"]) (sc := defScope sAlpha) (by decide +kernel)) (fun _ _ _ _ _ => pg_name (i := 3) scAlpha.nd rfl (Or.inl rfl)) (fun _ _ _ _ _ => pts_nil)
        (fun _ _ _ _ _ => pe_ix ix_str (pv 1) (pe_call Gd hr1 (by rfl) Dd.g Dd.F.kp Dd.b .nil pass0 (pa_cons (pv 0) (pa_cons pe_int pa_nil))) (fun _ _ => rfl)))
      (pss_one (ps_ret (pe_call Gp hr (by rfl) Dp.g Dp.F.kp Dp.b .nil pass0 (pa_cons (pv 0) (pa_cons
        (pe_op op_cat (pe_lst (pa_cons pe_str (pa_cons pe_str (pa_cons pe_str (pa_cons pe_str (pa_cons pe_str pa_nil))))))
          (pe_op op_rep (pe_lst (pa_cons (pe_join pe_str (pe_callB (TX.cr_sortTx rfl) (by rfl) B.sorted (by decide +kernel) (pa_cons (pe_callTy (TX.cr_setL rfl) (by rfl) B.set (by decide +kernel) (pa_cons (pv 2) pa_nil)) pa_nil))) pa_nil)) pe_int)) pa_nil)))))), ?_⟩
    refine ⟨.ref t, rfl, t, c, 3, n, rfl, T, by omega, by decide, by decide, fun H1 r k1 T1 r0 r1 => ?_⟩
    refine ⟨1, r, rfl, rfl, 1 + r, rfl, by omega, by omega, fun D hD => ?_⟩
    have D1 := T1.ne1 hD
    have D2 := T1.ne2 hD
    have D0 := k1.gone hD
    refine lc_range (lo := 0) (n := (1 + r).toNat) (fun i H' => ∃ ds : List Nat, ds.length = i ∧ (∀ c ∈ ds, 97 ≤ c ∧ c ≤ 122) ∧ H' D = some (.lst ((ds.map one).map V.str)) ∧ Kp t H H' ∧ Tape H' t c (n + 1 + i)) ?_ ?_ ?_
    · exact ⟨[], rfl, fun c hc => (nomatch hc), upd_same, k1.put D0 D1, T1.upd D1 D2⟩
    · rintro i G hi ⟨ds, dl, low, gD, kG, TG⟩
      refine ⟨rfl, yes ?_⟩
      refine ⟨.str abc, rfl, .ref t, rfl, t, c, 26, n + 1 + i, rfl, TG, by omega, by decide, by decide, fun H4 q k4 T4 q0 q1 => ?_⟩
      have ql : q.toNat < (tl abc).length := by
        rw [abc_len]
        omega
      have gD4 := k4.at gD (fun _ z => by cases z)
      refine ⟨abc, q, (tl abc)[q.toNat], rfl, rfl, by decide +kernel, at_cp (j := q.toNat) (by omega) (List.getElem?_eq_getElem ql), _, gD4, ?_, ?_⟩
      · rw [List.length_map, List.length_map, dl, sizeLine_eq]
        omega
      · refine ⟨ds ++ [(tl abc)[q.toNat]], by rw [List.length_append, dl]; rfl, fun c hc => ?_, ?_, ?_, ?_⟩
        · rcases List.mem_append.mp hc with z | z
          · exact low c z
          · rw [List.mem_singleton.mp z]
            exact abc_low _ (List.getElem_mem ql)
        · rw [upd_same, List.map_append, List.map_append]
          rfl
        · exact (kG.trans k4).put D0 D1
        · exact T4.upd D1 D2
    · rintro G ⟨ds, dl, low, gD, kG, TG⟩
      refine ⟨.ref t, rfl, by show 5 ≤ sizeLine; decide, fun l1 e1 => ?_⟩
      have s1 := same_upd (o := .lst [V.str "ab", V.str "abc", V.str "a", V.str "bx", V.str "cmz"]) e1
      refine ⟨⟨_, rfl⟩, .ref D, rfl, D, ds.map one, rfl, SqL.of (s1 _ _ gD), ?_, fun a ls ea nd mem le => ?_⟩
      · rw [List.length_map, dl]
        unfold scanBound
        omega
      have s2 := same_upd (o := TX.SetTx P w a ls) ea
      refine ⟨a, ls, rfl, upd_same, ?_, fun ys p pm so ep => ?_⟩
      · rw [List.length_map] at le
        omega
      have al := alph_of (by omega) (by omega) low nd mem le pm so
      have s3 := same_upd (o := .lst (ys.map V.str)) ep
      refine ⟨"", p, ys, rfl, rfl, .inl (SqL.of upd_same), ?_, by show 1 ≤ sizeLine; decide, fun l2 e2 => ?_⟩
      · rw [sum_ones ys fun y hy => ?_]
        · rw [pm.length_eq]
          rw [List.length_map] at le
          show ls.length + ls.length * 0 ≤ 16777216
          omega
        · obtain ⟨u, _, e⟩ := List.mem_map.mp ((mem y).mp (pm.mem_iff.mp hy))
          exact ⟨u, e.symm⟩
      have s4 := same_upd (o := .lst [V.str (Txt.join "" ys)]) e2
      refine ⟨l2, 5, _, rfl, rfl, upd_same, by decide, by decide, by show 1 * 5 ≤ sizeLine; decide, fun l3 e3 => ?_⟩
      have s5 := same_upd (o := .lst (List.replicate (5 : Int).toNat [V.str (Txt.join "" ys)]).flatten) e3
      refine ⟨l1, l3, _, _, rfl, rfl, s5 _ _ (s4 _ _ (s3 _ _ (s2 _ _ upd_same))), upd_same, by show 5 + 5 ≤ sizeLine; decide, fun l4 e4 => ?_⟩
      have s6 := same_upd (o := .lst ([V.str "ab", V.str "abc", V.str "a", V.str "bx", V.str "cmz"] ++ (List.replicate (5 : Int).toNat [V.str (Txt.join "" ys)]).flatten)) e4
      have sa := ((((s1.trans s2).trans s3).trans s4).trans s5).trans s6
      refine ⟨t, c, n + 1 + (1 + r).toNat, .ref l4, rfl, TG.same sa, by omega, .inl ⟨l4, _, rfl, SqL.of upd_same, by simp, by show 10 < 2 ^ 30; decide, fun H' y k' T' hy => ?_⟩⟩
      have hy' : ∃ z, y = V.str z ∧ Alph z := by
        rcases List.mem_append.mp hy with q | q
        · simp only [List.mem_cons, List.not_mem_nil, or_false] at q
          rcases q with q | q | q | q | q
          · exact ⟨_, q, al1⟩
          · exact ⟨_, q, al2⟩
          · exact ⟨_, q, al3⟩
          · exact ⟨_, q, al4⟩
          · exact ⟨_, q, al5⟩
        · obtain ⟨u, hu, hy⟩ := List.mem_flatten.mp q
          rw [List.eq_of_mem_replicate hu] at hy
          exact ⟨_, List.mem_singleton.mp hy, al⟩
      obtain ⟨z, rfl, az⟩ := hy'
      exact k H' z ((kG.trans (TG.kp sa)).trans k') (T'.mono (by omega)) az
end
end DW
namespace DW
open PySem PySem.Spec PyProof.Rows L2 TL
set_option autoImplicit false
theorem drop_at {α : Type} {l : List α} {i : Nat} {x : α} (h : l[i]? = some x) : l.drop i = x :: l.drop (i + 1) := by
  obtain ⟨hi, e⟩ := List.getElem?_eq_some_iff.mp h
  rw [← e]
  exact List.drop_eq_getElem_cons hi
theorem tl_app (x y : Str) : tl (x ++ y) = tl x ++ tl y := Array.toList_append
def OverW (z : Str) (u : Str) : Prop := ∀ c ∈ tl u, c ∈ tl z
/-! ### letters taken one after the other -/
def spWord : Sp := fun vs H Q _ => ∃ (t c : Addr) (n : Nat) (z : Str) (m : Int), vs = [.ref t, .str z, .int m] ∧ Tape H t c n ∧ n + 200 < 2 ^ 40 ∧ Alph z ∧ 0 ≤ m ∧ m ≤ 100 ∧
  ∀ H' u, Kp t H H' → Tape H' t c (n + 200) → OverW z u → ((tl u).length : Int) ≤ m → Q (.str u) H'
section
variable {P : Program} {w : World} {K : PySem.W.Frag} {mg : Str → Option Value} {base : Heap}
theorem scWord : FnScope ["_law_tape", "_law_alphabet_here", "_law_longest", "_law_k"] ["_law_tape", "_law_alphabet_here", "_law_longest"] (defScope sWord) := ⟨rfl, rfl, rfl, by decide +kernel, rfl, by decide +kernel, by decide +kernel⟩
theorem ok_word (D : Df K mg "_law_word" sWord ["_law_tape", "_law_alphabet_here", "_law_longest"]) (Dd : DfDraw K mg) (Dp : DfPick K mg) (B : Bl mg) : FnOk P w K mg base CX0 3 D.f D.fd ["_law_tape", "_law_alphabet_here", "_law_longest"] spWord := by
  have Gd : FnOk P w K mg base CX0 1 Dd.f Dd.fd ["_law_tape", "_law_many"] spDraw := ok_draw Dd B.len
  have Gp : FnOk P w K mg base CX0 2 Dp.f Dp.fd ["_law_tape", "_law_items"] (spPick K) := ok_pick Dp Dd B.len
  refine D.F.ok scWord (fun vs H Q E h => ?_) (fun cdv A outer s H vs Q E hr h => ?_)
  · obtain ⟨t, c, n, z, m, rfl, _⟩ := h
    rfl
  · obtain ⟨t, c, n, z, m, rfl, T, hn, al, m0, m1, k⟩ := h
    have hr1 : Room 1 _ := hr.mono (by decide)
    have zl : z.length = (tl z).length := (Array.length_toList).symm
    obtain ⟨pw, l1, l3, low⟩ := id al
    refine ⟨_, (pss_one (ps_ret (pe_join pe_str (pe_lc (own := [("_law_k", 3)]) (g := gName 3) rfl scWord.nd (pi_range1 rfl B.range (pa_cons (pe_call Gd hr1 (by rfl) Dd.g Dd.F.kp Dd.b .nil pass0 (pa_cons (pv 0) (pa_cons (pe_op op_add (pv 2) pe_int) pa_nil))) pa_nil)) (blkOk_by (N := ["_law_tape", "_law_alphabet_here", "_law_longest", "_law_k"]) (sc := defScope sWord) (by decide +kernel)) (fun _ _ _ _ _ => pg_name (i := 3) scWord.nd rfl (Or.inl rfl)) (fun _ _ _ _ _ => pts_nil) (fun _ _ _ _ _ => (pe_call Gp hr (by rfl) Dp.g Dp.F.kp Dp.b .nil pass0 (pa_cons (pv 0) (pa_cons (pv 1) pa_nil)))))))), ?_⟩
    refine ⟨⟨_, rfl⟩, .ref t, rfl, .int m, rfl, m, 1, rfl, rfl, t, c, m + 1, n, rfl, T, by omega, by omega, by omega, fun H1 r k1 T1 r0 r1 => ?_⟩
    refine ⟨r, rfl, by omega, by omega, fun D hD => ?_⟩
    have D1 := T1.ne1 hD
    have D2 := T1.ne2 hD
    have D0 := k1.gone hD
    refine lc_range (lo := 0) (n := r.toNat) (fun i H' => ∃ ds : List Nat, ds.length = i ∧ (∀ c ∈ ds, c ∈ tl z) ∧ H' D = some (.lst ((ds.map one).map V.str)) ∧ Kp t H H' ∧ Tape H' t c (n + 1 + i)) ?_ ?_ ?_
    · exact ⟨[], rfl, fun c hc => (nomatch hc), upd_same, k1.put D0 D1, T1.upd D1 D2⟩
    · rintro i G hi ⟨ds, dl, ov, gD, kG, TG⟩
      refine ⟨rfl, yes ?_⟩
      refine ⟨.ref t, rfl, .str z, rfl, t, c, _, .str z, rfl, TG, by omega, .inr ⟨z, rfl, by omega, by omega, fun H4 d k4 T4 hd => ?_⟩⟩
      have gD4 := k4.at gD (fun _ z => by cases z)
      refine ⟨_, gD4, ?_, ds ++ [d], by rw [List.length_append, dl]; rfl, fun c hc => ?_, ?_, (kG.trans k4).put D0 D1, T4.upd D1 D2⟩
      · rw [List.length_map, List.length_map, dl, sizeLine_eq]
        omega
      · rcases List.mem_append.mp hc with q | q
        · exact ov c q
        · rw [List.mem_singleton.mp q]
          exact hd
      · rw [upd_same, List.map_append, List.map_append]
        rfl
    · rintro G ⟨ds, dl, ov, gD, kG, TG⟩
      have ej : tl (Txt.join "" (ds.map one)) = ds := by rw [tl_cat, flat_ones]
      refine ⟨"", D, ds.map one, rfl, rfl, .inl (SqL.of gD), ?_, k _ _ kG (TG.mono (by omega)) (fun c hc => ov c (by rw [ej] at hc; exact hc)) (by rw [ej]; omega)⟩
      rw [sum_ones _ fun y hy => ?_, List.length_map]
      · show ds.length + ds.length * 0 ≤ 16777216
        omega
      · obtain ⟨u, _, e⟩ := List.mem_map.mp hy
        exact ⟨u, e.symm⟩
end
end DW
/-! is_ascending, is_alphabet, is_word -/
namespace DW
open PySem PySem.Spec PyProof.Rows L2 TL
set_option autoImplicit false
def ascB (l : List Nat) : Bool := (l.zip (l.drop 1)).all fun p => decide (p.1 < p.2)
def lowB (c : Nat) : Bool := decide (97 ≤ c) && decide (c ≤ 122)
def alphB (l : List Nat) : Bool := decide (1 ≤ l.length) && decide (l.length ≤ 3) && (l.all lowB && ascB l)
theorem lt1 (c d : Nat) : decide ([c] < [d]) = decide (c < d) := by
  rw [decide_eq_decide]
  constructor
  · intro h
    rcases List.cons_lt_cons_iff.mp h with q | q
    · exact q
    · exact absurd q.2 (List.not_lt_nil _)
  · intro h
    exact List.cons_lt_cons_iff.mpr (.inl h)
theorem low_eq (c : Nat) : (if (!decide (([c] : List Nat) < [97])) = true then !decide (([122] : List Nat) < [c]) else false) = lowB c := by
  rw [lt1, lt1]
  unfold lowB
  by_cases h : c < 97
  · rw [decide_eq_true h]
    simp
    omega
  · rw [decide_eq_false h]
    simp
    by_cases g : 122 < c
    · rw [decide_eq_true g, decide_eq_true (by omega : 97 ≤ c), decide_eq_false (by omega : ¬ c ≤ 122)]
      rfl
    · rw [decide_eq_false g, decide_eq_true (by omega : 97 ≤ c), decide_eq_true (by omega : c ≤ 122)]
      rfl
/-- not a text -/
def NoS (K : PySem.W.Frag) (H : Hp) (v : V) : Prop := ∃ t, TyX K H v t ∧ PySem.W.kitOne K t (.type "str") = some false
theorem isi_kit {K : PySem.W.Frag} : PySem.W.kitOne K (.type "str") (.type "str") = some true := kit_ty (by decide +kernel)
def spAsc : Sp := fun vs H Q _ => ∃ (x : Str), vs = [.str x] ∧ (tl x).length ≤ 100000 ∧ ∀ H', Same H H' → Q (.bl (ascB (tl x))) H'
def spAlp (K : PySem.W.Frag) : Sp := fun vs H Q _ => ∃ v : V, vs = [v] ∧ ((∃ x : Str, v = .str x ∧ (tl x).length ≤ 100000 ∧ ∀ H', Same H H' → Q (.bl (alphB (tl x))) H') ∨ (NoS K H v ∧ ∀ H', Same H H' → Q (.bl false) H'))
def spIw (K : PySem.W.Frag) : Sp := fun vs H Q _ => ∃ (z : Str) (v : V), vs = [.str z, v] ∧ ((∃ x : Str, v = .str x ∧ (tl x).length ≤ 100000 ∧ ∀ H', Same H H' → Q (.bl ((tl x).all fun c => decide (c ∈ tl z))) H') ∨ (NoS K H v ∧ ∀ H', Same H H' → Q (.bl false) H'))
theorem cut1 (x : Str) : tl (cutS x (some 1) none) = (tl x).drop 1 := by
  show (x.cps.toList.drop (HT.sIx x.length 0 (some 1))).take (HT.sIx x.length x.length none - HT.sIx x.length 0 (some 1)) = x.cps.toList.drop 1
  rw [show HT.sIx x.length 0 (some 1) = min 1 x.length from HT.sIx_nat x.length 0 1, HT.sIx_none]
  have e : x.length = x.cps.toList.length := (Array.length_toList).symm
  by_cases h : 1 ≤ x.length
  · rw [show min 1 x.length = 1 by omega]
    exact List.take_of_length_le (by rw [List.length_drop]; omega)
  · have h0 : x.cps.toList = [] := List.length_eq_zero_iff.mp (by omega)
    rw [h0]
    simp
section
variable {P : Program} {w : World} {K : PySem.W.Frag} {mg : Str → Option Value} {base : Heap}
theorem scAsc : FnScope ["letters", "one", "other"] ["letters"] (defScope sIsAscending) := ⟨rfl, rfl, rfl, by decide +kernel, rfl, by decide +kernel, by decide +kernel⟩
theorem ok_asc (D : Df K mg "is_ascending" sIsAscending ["letters"]) (ma : mg "all" = none) (mz : mg "zip" = none) : FnOk P w K mg base CX0 1 D.f D.fd ["letters"] spAsc := by
  refine D.F.ok scAsc (fun vs H Q E h => ?_) (fun cdv A outer s H vs Q E hr h => ?_)
  · obtain ⟨x, rfl, _⟩ := h
    rfl
  · obtain ⟨x, rfl, xl, k⟩ := h
    have sz : ∀ y : Str, y.length = (tl y).length := fun y => (Array.length_toList).symm
    refine ⟨_, (pss_one (ps_ret (pe_callB (cr_all rfl) (by rfl) ma (by decide +kernel) (pa_cons (pe_lc (own := [("one", 1), ("other", 2)]) (g := gTup K 2 (gCons (gName 1) (gCons (gName 2) gNil))) rfl scAsc.nd (ZX.pi_zipX (by rfl) mz (pa_cons (pv 0) (pa_cons (pe_slice sl_str (pv 0) (po_some pe_int) po_none) pa_nil))) (blkOk_by (N := ["letters", "one", "other"]) (sc := defScope sIsAscending) (by decide +kernel)) (fun _ _ _ _ _ => pg_tup rfl (pgs_cons (pg_name (i := 1) scAsc.nd rfl (.inl rfl)) (pgs_cons (pg_name (i := 2) scAsc.nd rfl (.inl rfl)) pgs_nil))) (fun _ _ _ _ _ => pts_nil) (fun _ _ _ _ _ => (pe_cmpR op_lt_str (pv 1) (pv 2) (nomark _)))) pa_nil)))), ?_⟩
    refine ⟨.str x, rfl, .str x, rfl, 1, rfl, ?_⟩
    unfold tNoPart
    refine ⟨x, rfl, by rw [sz, sizeLine_eq]; omega, x, _, rfl, fun L hL => ?_⟩
    have e1 := cut1 x
    generalize hy : cutS x (some 1) none = y at e1 ⊢
    have xs : x.cps.size = (tl x).length := (Array.length_toList).symm
    have ys : y.cps.size = (tl y).length := (Array.length_toList).symm
    have sL := same_upd (o := .lst []) hL
    refine lc_it ZX.walk_zipX (fun i H' => ∃ bs : List Bool, H' L = some (.lst (bs.map V.bl)) ∧ bs = (((tl x).zip (tl y)).take i).map (fun p => decide (p.1 < p.2)) ∧ Same H H') ⟨[], upd_same, rfl, sL⟩ (fun _ _ _ _ => trivial) ?_ ?_
    · rintro i v G G' hi ⟨bs, gL, be, sm⟩ ⟨T, c, d, rfl, hT, rfl, hc, hd⟩
      have sT := same_upd (o := .tup [.str ⟨#[c]⟩, .str ⟨#[d]⟩]) hT
      have hc' : (tl x)[i]? = some c := by rw [Array.getElem?_toList]; exact hc
      have hd' : (tl y)[i]? = some d := by rw [Array.getElem?_toList]; exact hd
      have hz : ((tl x).zip (tl y))[i]? = some (c, d) := List.getElem?_zip_eq_some.mpr ⟨hc', hd'⟩
      refine ⟨T, _, rfl, SqT.of upd_same, rfl, _, _, rfl, _, _, rfl, rfl, rfl, yes ?_⟩
      refine ⟨_, rfl, _, rfl, _, _, rfl, rfl, _, sT _ _ gL, ?_, bs ++ [decide (c < d)], ?_, ?_, fun b o e => (upd_ne (ne_of_none e hL)).trans ((sm.trans sT) _ _ e)⟩
      · rw [List.length_map, be, List.length_map, List.length_take, sizeLine_eq]
        omega
      · rw [upd_same, List.map_append]
        show some (HO.lst (_ ++ [V.bl (decide ([c] < [d]))])) = _
        rw [lt1]
        rfl
      · rw [be, List.take_add_one, hz, List.map_append]
        rfl
    · rintro G ⟨bs, gL, be, sm⟩
      refine ⟨L, bs, rfl, SqL.of gL, ?_⟩
      have e2 : bs.all id = ascB (tl x) := by
        rw [be, xs, ys, List.take_of_length_le (by rw [List.length_zip]; omega), List.all_map, e1]
        rfl
      rw [e2]
      exact k _ sm
theorem scAlp : FnScope ["thing", "letter"] ["thing"] (defScope sIsAlphabet) := ⟨rfl, rfl, rfl, by decide +kernel, rfl, by decide +kernel, by decide +kernel⟩
theorem ok_alp (D : Df K mg "is_alphabet" sIsAlphabet ["thing"]) (Da0 : Df K mg "is_ascending" sIsAscending ["letters"]) (ma : mg "all" = none) (mz : mg "zip" = none) (mi : mg "isinstance" = none) (ms : mg "str" = none) (ml : mg "len" = none) (mm0 : ∃ t, mg "MOST_LETTERS" = some (.int 3 t)) : FnOk P w K mg base CX0 2 D.f D.fd ["thing"] (spAlp K) := by
  have Ga : FnOk P w K mg base CX0 1 Da0.f Da0.fd ["letters"] spAsc := ok_asc Da0 ma mz
  have mm : ∃ u, mg "MOST_LETTERS" = some u ∧ RelV (.int 3) u := by
    obtain ⟨t, e⟩ := mm0
    exact ⟨_, e, t, rfl⟩
  refine D.F.ok scAlp (fun vs H Q E h => ?_) (fun cdv A outer s H vs Q E hr h => ?_)
  · obtain ⟨x, rfl, _⟩ := h
    rfl
  · obtain ⟨v, rfl, h⟩ := h
    have sz : ∀ y : Str, y.length = (tl y).length := fun y => (Array.length_toList).symm
    refine ⟨_, (pss_cons (ps_if (pw_or (pt_not (pt_val (pe_callB call_isi (by rfl) mi (by decide +kernel) (pa_cons (pv 0) (pa_cons (pe_bltn (v := V.ty "str") (by rfl) ms (by decide +kernel : bootBuiltins "str" = some (.type "str")) rfl) pa_nil))))) (pw_or1 (pt_not (pt_chain op_le op_le pe_int (pe_callB call_len_str (by rfl) ml PySem.boot_len (pa_cons (pv 0) pa_nil)) (C8.pe_gc (by rfl) mm))))).pt (pss_one (ps_ret pe_bl)) pss_nil) (pss_one (ps_ret (pe_and (pe_callB (cr_all rfl) (by rfl) ma (by decide +kernel) (pa_cons (pe_lc (own := [("letter", 1)]) (g := gName 1) rfl scAlp.nd (pi_str (pv 0)) (blkOk_by (N := ["thing", "letter"]) (sc := defScope sIsAlphabet) (by decide +kernel)) (fun _ _ _ _ _ => pg_name (i := 1) scAlp.nd rfl (Or.inl rfl)) (fun _ _ _ _ _ => pts_nil) (fun _ _ _ _ _ => (pe_chain op_le_str op_le_str pe_str (pv 1) pe_str))) pa_nil)) (pe_one (pe_call Ga hr (by rfl) Da0.g Da0.F.kp Da0.b .nil pass0 (pa_cons (pv 0) pa_nil))))))), ?_⟩
    rcases h with ⟨x, rfl, xl, k⟩ | ⟨⟨t, ty, kt⟩, k⟩
    · have xs : x.cps.size = (tl x).length := (Array.length_toList).symm
      refine ⟨.str x, rfl, _, _, _, _, true, rfl, .ty "str", .base (.str x), isi_kit, true, rfl, ?_⟩
      refine iteF ?_
      refine ⟨.str x, rfl, x, rfl, by rw [sz, sizeLine_eq]; omega, 1, _, rfl, rfl, _, rfl, ?_⟩
      refine ite2 (fun e1 => ?_) (fun e1 => ?_)
      · have e1' : 1 ≤ (tl x).length := by
          have := of_decide_eq_true e1
          rw [sz] at this
          omega
        refine ⟨_, 3, rfl, rfl, _, rfl, ?_⟩
        refine ite2 (fun e2 => ?_) (fun e2 => ?_)
        · have e2' : ¬ (tl x).length ≤ 3 := by
            rw [sz] at e2
            simp at e2
            omega
          have q := k _ (Same.refl H)
          rw [show alphB (tl x) = false by unfold alphB; rw [decide_eq_false e2']; simp] at q
          exact q
        · have e2' : (tl x).length ≤ 3 := by
            rw [sz] at e2
            simp at e2
            omega
          have ea : alphB (tl x) = ((tl x).all lowB && ascB (tl x)) := by
            unfold alphB
            rw [decide_eq_true e1', decide_eq_true e2']
            rfl
          rw [ea] at k
          refine ⟨.str x, rfl, x, rfl, fun L hL => ?_⟩
          have sL := same_upd (o := .lst []) hL
          refine lc_it walk_str (fun i H' => ∃ bs : List Bool, H' L = some (.lst (bs.map V.bl)) ∧ bs = ((tl x).take i).map lowB ∧ Same H H') ⟨[], upd_same, rfl, sL⟩ (fun _ _ _ _ => trivial) ?_ ?_
          · rintro i v G G' hi ⟨bs, gL, be, sm⟩ ⟨rfl, c, hc, rfl⟩
            have hc' : (tl x)[i]? = some c := by rw [Array.getElem?_toList]; exact hc
            refine ⟨rfl, yes ?_⟩
            have fin : ∀ G2 : Hp, G2 = G' → ∃ acc, G2 L = some (.lst acc) ∧ acc.length < sizeLine ∧ ∃ bs : List Bool, (upd G2 L (.lst (acc ++ [V.bl (lowB c)]))) L = some (.lst (bs.map V.bl)) ∧ bs = ((tl x).take (i + 1)).map lowB ∧ Same H (upd G2 L (.lst (acc ++ [V.bl (lowB c)]))) := by
              rintro G2 rfl
              refine ⟨_, gL, ?_, bs ++ [lowB c], ?_, ?_, fun b o e => (upd_ne (ne_of_none e hL)).trans (sm _ _ e)⟩
              · rw [List.length_map, be, List.length_map, List.length_take, sizeLine_eq]
                omega
              · rw [upd_same, List.map_append]
                rfl
              · rw [be, List.take_add_one, hc', List.map_append]
                rfl
            have le := low_eq c
            refine ⟨_, rfl, _, _, rfl, rfl, _, rfl, ?_⟩
            refine ite2 (fun e3 => ?_) (fun e3 => ?_)
            · rw [show (!decide (([c] : List Nat) < [97])) = true from e3, if_pos rfl] at le
              refine ⟨_, _, rfl, rfl, ?_⟩
              have q := fin _ rfl
              rw [← le] at q
              exact q
            · rw [if_neg (show ¬ (!decide (([c] : List Nat) < [97])) = true from e3)] at le
              have q := fin _ rfl
              rw [← le] at q
              exact q
          · rintro G ⟨bs, gL, be, sm⟩
            refine ⟨L, bs, rfl, SqL.of gL, _, rfl, ?_⟩
            have e2 : bs.all id = (tl x).all lowB := by
              rw [be, xs, List.take_length, List.all_map]
              rfl
            rw [e2]
            refine ite2 (fun e3 => ?_) (fun e3 => ?_)
            · refine ⟨.str x, rfl, x, rfl, xl, fun H' s' => ?_⟩
              have q := k _ (sm.trans s')
              rw [e3] at q
              exact q
            · have q := k _ sm
              have e3' : (tl x).all lowB = false := by simpa using e3
              rw [e3'] at q
              exact q
      · have e1' : ¬ 1 ≤ (tl x).length := by
          intro h
          exact e1 (decide_eq_true (by rw [sz]; omega))
        have q := k _ (Same.refl H)
        rw [show alphB (tl x) = false by unfold alphB; rw [decide_eq_false e1']; rfl] at q
        exact ⟨_, rfl, q⟩
    · refine ⟨v, rfl, _, _, _, _, false, rfl, .ty "str", ty, kt, false, rfl, ?_⟩
      exact k _ (Same.refl H)
end
end DW
/-! is_symbol, symbols_among -/
namespace DW
open PySem PySem.Spec PyProof.Rows L2 TL
set_option autoImplicit false
/-- a capital letter -/
def symB (c : Nat) : Bool := decide (65 ≤ c) && decide (c ≤ 90)
theorem sym_eq (c : Nat) : (if (!decide (([c] : List Nat) < [65])) = true then !decide (([90] : List Nat) < [c]) else false) = symB c := by
  rw [lt1, lt1]
  unfold symB
  by_cases h : c < 65
  · rw [decide_eq_true h]
    simp
    omega
  · rw [decide_eq_false h]
    simp
    by_cases g : 90 < c
    · rw [decide_eq_true g, decide_eq_true (by omega : 65 ≤ c), decide_eq_false (by omega : ¬ c ≤ 90)]
      rfl
    · rw [decide_eq_false g, decide_eq_true (by omega : 65 ≤ c), decide_eq_true (by omega : c ≤ 90)]
      rfl
def spSym : Sp := fun vs H Q _ => ∃ c : Nat, vs = [.str ⟨#[c]⟩] ∧ Q (.bl (symB c)) H
section
variable {P : Program} {w : World} {K : PySem.W.Frag} {mg : Str → Option Value} {base : Heap}
theorem scSym : FnScope ["item"] ["item"] (defScope sIsSymbol) := ⟨rfl, rfl, rfl, by decide +kernel, rfl, by decide +kernel, by decide +kernel⟩
theorem ok_sym (D : Df K mg "is_symbol" sIsSymbol ["item"]) : FnOk P w K mg base CX0 1 D.f D.fd ["item"] spSym := by
  refine D.F.ok scSym (fun vs H Q E h => ?_) (fun cdv A outer s H vs Q E hr h => ?_)
  · obtain ⟨c, rfl, _⟩ := h
    rfl
  · obtain ⟨c, rfl, k⟩ := h
    refine ⟨_, pss_one (ps_ret (pe_chain op_le_str op_le_str pe_str (pv 0) pe_str)), ?_⟩
    have le := sym_eq c
    refine ⟨.str ⟨#[c]⟩, rfl, _, _, rfl, rfl, _, rfl, ?_⟩
    refine ite2 (fun e3 => ?_) (fun e3 => ?_)
    · rw [show (!decide (([c] : List Nat) < [65])) = true from e3, if_pos rfl] at le
      refine ⟨_, _, rfl, rfl, ?_⟩
      rw [← le] at k
      exact k
    · rw [if_neg (show ¬ (!decide (([c] : List Nat) < [65])) = true from e3)] at le
      rw [← le] at k
      exact k
end
end DW
/-! symbols_among -/
namespace DW
open PySem PySem.Spec PyProof.Rows L2 TL
set_option autoImplicit false
theorem fresh_of {H G : Hp} {b : Addr} (s : Same H G) (h : G b = none) : H b = none := by
  cases e : H b with
  | none => rfl
  | some o =>
    rw [s _ _ e] at h
    cases h
def spSa : Sp := fun vs H Q _ => ∃ x : Str, vs = [.str x] ∧ (tl x).length ≤ 100000 ∧ ∀ H' q (ys : List Str), Same H H' → H q = none → H' q = some (.lst (ys.map V.str)) → ys.Nodup → sortedS ys = true → (∀ y, y ∈ ys ↔ ∃ c ∈ tl x, symB c = true ∧ y = ⟨#[c]⟩) → Q (.ref q) H'
theorem u16s {k : Nat} {A : Around} (hr : Room k A) : A.units + 16 < cLine := by
  have := hr.un
  omega
def syms : List Str := (List.range 26).map fun k => ⟨#[65 + k]⟩
theorem syms_all {c : Nat} (h : symB c = true) : (⟨#[c]⟩ : Str) ∈ syms := by
  unfold symB at h
  rw [Bool.and_eq_true] at h
  have h1 := of_decide_eq_true h.1
  have h2 := of_decide_eq_true h.2
  exact List.mem_map.mpr ⟨c - 65, List.mem_range.mpr (by omega), by rw [show 65 + (c - 65) = c by omega]⟩
theorem nodup_lenS {α : Type} [DecidableEq α] : ∀ (l m : List α), l.Nodup → (∀ x ∈ l, x ∈ m) → l.length ≤ m.length
  | [], _, _, _ => Nat.zero_le _
  | a :: l, m, nd, h => by
    obtain ⟨na, nd⟩ := List.nodup_cons.mp nd
    have hm := h a List.mem_cons_self
    have q := nodup_lenS l (m.erase a) nd fun x hx => (List.mem_erase_of_ne (by intro e; subst e; exact na hx)).mpr (h x (List.mem_cons_of_mem _ hx))
    rw [List.length_erase_of_mem hm] at q
    have := List.length_pos_of_mem hm
    rw [List.length_cons]
    omega
section
variable {P : Program} {w : World} {K : PySem.W.Frag} {mg : Str → Option Value} {base : Heap}
theorem scSa : FnScope ["items", "item"] ["items"] (defScope sSymbolsAmong) := ⟨rfl, rfl, rfl, by decide +kernel, rfl, by decide +kernel, by decide +kernel⟩
theorem ok_sa (D : Df K mg "symbols_among" sSymbolsAmong ["items"]) (Ds0 : Df K mg "is_symbol" sIsSymbol ["item"]) (ms : mg "sorted" = none) : FnOk P w K mg base CX0 2 D.f D.fd ["items"] spSa := by
  have Gs : FnOk P w K mg base CX0 1 Ds0.f Ds0.fd ["item"] spSym := ok_sym Ds0
  refine D.F.ok scSa (fun vs H Q E h => ?_) (fun cdv A outer s H vs Q E hr h => ?_)
  · obtain ⟨x, rfl, _⟩ := h
    rfl
  · obtain ⟨x, rfl, xl, k⟩ := h
    have hr1 := hr
    refine ⟨_, (pss_one (ps_ret (pe_callB (TX.cr_sortTx rfl) (by rfl) ms (by decide +kernel) (pa_cons (NSet.pe_sc (own := [("item", 1)]) (g := gName 1) (NSet.adds_Tx _ _ _) (NSet.setTx_fresh _ _) (u16s hr) rfl scSa.nd (pi_str (pv 0)) (blkOk_by (N := ["items", "item"]) (sc := defScope sSymbolsAmong) (by decide +kernel)) (fun _ _ _ _ _ => pg_name (i := 1) scSa.nd rfl (Or.inl rfl)) (fun _ _ _ _ _ => (pts_one (pt_val (pe_call Gs hr1 (by rfl) Ds0.g Ds0.F.kp Ds0.b .nil pass0 (pa_cons (pv 1) pa_nil))))) (fun _ _ _ _ _ => (pv 1))) pa_nil)))), ?_⟩
    refine ⟨.str x, rfl, x, rfl, fun D1 hD1 => ?_⟩
    have xs : x.cps.size = (tl x).length := (Array.length_toList).symm
    refine NSet.sc_it (so := fun D => TX.SetTx P w D []) (put := NSet.putTx P w) walk_str (fun i H' => ∃ l : List Str, H' D1 = some (TX.SetTx P w D1 l) ∧ l.Nodup ∧ (∀ y, y ∈ l ↔ ∃ c ∈ (tl x).take i, symB c = true ∧ y = ⟨#[c]⟩) ∧ Same H H') ⟨[], upd_same, List.nodup_nil, fun y => ⟨fun h => (nomatch h), fun ⟨c, hc, _⟩ => (nomatch hc)⟩, same_upd hD1⟩ (fun _ _ _ _ => trivial) ?_ ?_
    · rintro i v G G' hi ⟨l, gD, nd, mem, sm⟩ ⟨rfl, c, hc, rfl⟩
      have hc' : (tl x)[i]? = some c := by rw [Array.getElem?_toList]; exact hc
      have tk : (tl x).take (i + 1) = (tl x).take i ++ [c] := by rw [List.take_add_one, hc']; rfl
      refine ⟨rfl, .str ⟨#[c]⟩, rfl, c, rfl, _, rfl, ?_⟩
      have small : l.length ≤ 26 := nodup_lenS l syms nd fun y hy => by
        obtain ⟨c', _, h, rfl⟩ := (mem y).mp hy
        exact syms_all h
      cases e : symB c with
      | false =>
        refine iteF ⟨l, gD, nd, fun y => ?_, sm⟩
        rw [mem y, tk]
        constructor
        · rintro ⟨d, hd, h⟩
          exact ⟨d, List.mem_append_left _ hd, h⟩
        · rintro ⟨d, hd, h1, h2⟩
          rcases List.mem_append.mp hd with q | q
          · exact ⟨d, q, h1, h2⟩
          · rw [List.mem_singleton.mp q, e] at h1
            cases h1
      | true =>
        refine iteT ⟨.str ⟨#[c]⟩, rfl, ⟨#[c]⟩, l, rfl, gD, Nat.lt_of_le_of_lt (show l.length + 1 ≤ 27 by omega) (by decide), fun hin => ⟨l, gD, nd, fun y => ?_, sm⟩, fun hout => ⟨⟨#[c]⟩ :: l, upd_same, List.nodup_cons.mpr ⟨hout, nd⟩, fun y => ?_, fun b o h => (upd_ne (fun q => by rw [q, hD1] at h; cases h)).trans (sm b o h)⟩⟩
        · rw [tk]
          constructor
          · intro hy
            obtain ⟨d, hd, h⟩ := (mem y).mp hy
            exact ⟨d, List.mem_append_left _ hd, h⟩
          · rintro ⟨d, hd, h1, h2⟩
            rcases List.mem_append.mp hd with q | q
            · exact (mem y).mpr ⟨d, q, h1, h2⟩
            · rw [h2, List.mem_singleton.mp q]
              exact hin
        · rw [tk]
          constructor
          · intro hy
            rcases List.mem_cons.mp hy with rfl | hy
            · exact ⟨c, List.mem_append_right _ List.mem_cons_self, e, rfl⟩
            · obtain ⟨d, hd, h⟩ := (mem y).mp hy
              exact ⟨d, List.mem_append_left _ hd, h⟩
          · rintro ⟨d, hd, h1, h2⟩
            rcases List.mem_append.mp hd with q | q
            · exact List.mem_cons_of_mem _ ((mem y).mpr ⟨d, q, h1, h2⟩)
            · rw [h2, List.mem_singleton.mp q]
              exact List.mem_cons_self
    · rintro G ⟨l, gD, nd, mem, sm⟩
      have small : l.length ≤ 26 := nodup_lenS l syms nd fun y hy => by
        obtain ⟨c', _, h, rfl⟩ := (mem y).mp hy
        exact syms_all h
      rw [xs, List.take_length] at mem
      refine ⟨D1, l, rfl, gD, by omega, fun ys p pm so hp => ?_⟩
      exact k _ p ys (sm.trans (same_upd hp)) (fresh_of sm hp) upd_same (pm.nodup_iff.mpr nd) so (fun y => (pm.mem_iff).trans (mem y))
end
end DW
/-! is_production of any object -/
namespace DW
open PySem PySem.Spec PyProof.Rows L2 TL
set_option autoImplicit false
theorem sqT_ty {K : PySem.W.Frag} {H : Hp} {a : Addr} {xs : List V} (h : SqT K H a xs) : TyX K H (.ref a) (.type "tuple") := by
  rcases h with (h | ⟨o, h⟩) | ⟨o, its, n, h, c, _⟩
  · exact .base (.tup h)
  · exact .fTuple h
  · exact .kTuple h c
theorem tup_kit {K : PySem.W.Frag} : PySem.W.kitOne K (.type "tuple") (.type "tuple") = some true := kit_ty (by decide +kernel)
/-- not a tuple -/
def NoT (K : PySem.W.Frag) (H : Hp) (v : V) : Prop := ∃ t, TyX K H v t ∧ PySem.W.kitOne K t (.type "tuple") = some false
/-- the right side of a production -/
def rightB (z : Str) (y : Str) : Bool := decide ((tl y).length ≤ 3) && (tl y).all fun c => symB c || decide (c ∈ tl z)
/-- is it a production -/
inductive PdB (K : PySem.W.Frag) (H : Hp) (z : Str) : V → Bool → Prop where
  | no {v : V} (h : NoT K H v) : PdB K H z v false
  | len {a : Addr} {xs : List V} (h : SqT K H a xs) (n : xs.length ≠ 2) : PdB K H z (.ref a) false
  | nos {a : Addr} {s y : V} (h : SqT K H a [s, y]) (n : NoS K H s) : PdB K H z (.ref a) false
  | slen {a : Addr} {s : Str} {y : V} (h : SqT K H a [.str s, y]) (n : (tl s).length ≠ 1) (l : (tl s).length ≤ 100000) : PdB K H z (.ref a) false
  | ssym {a : Addr} {c : Nat} {y : V} (h : SqT K H a [.str ⟨#[c]⟩, y]) (n : symB c = false) : PdB K H z (.ref a) false
  | ino {a : Addr} {c : Nat} {y : V} (h : SqT K H a [.str ⟨#[c]⟩, y]) (s : symB c = true) (n : NoS K H y) : PdB K H z (.ref a) false
  | ok {a : Addr} {c : Nat} {y : Str} (h : SqT K H a [.str ⟨#[c]⟩, .str y]) (s : symB c = true) (l : (tl y).length ≤ 100000) : PdB K H z (.ref a) (rightB z y)
def spPd (K : PySem.W.Frag) : Sp := fun vs H Q _ => ∃ (z : Str) (v : V) (b : Bool), vs = [.str z, v] ∧ (tl z).length ≤ 100000 ∧ PdB K H z v b ∧ ∀ H', Same H H' → Q (.bl b) H'
section
variable {P : Program} {w : World} {K : PySem.W.Frag} {mg : Str → Option Value} {base : Heap}
theorem scPd : FnScope ["alphabet", "thing", "symbol", "items", "item"] ["alphabet", "thing"] (defScope sIsProduction) := ⟨rfl, rfl, rfl, by decide +kernel, rfl, by decide +kernel, by decide +kernel⟩
theorem ok_pd (D : Df K mg "is_production" sIsProduction ["alphabet", "thing"]) (Ds0 : Df K mg "is_symbol" sIsSymbol ["item"]) (ma : mg "all" = none) (mi : mg "isinstance" = none) (mstr : mg "str" = none) (mt : mg "tuple" = none) (ml : mg "len" = none) (m3 : ∃ t, mg "MOST_ITEMS" = some (.int 3 t)) : FnOk P w K mg base CX0 2 D.f D.fd ["alphabet", "thing"] (spPd K) := by
  have Gs : FnOk P w K mg base CX0 1 Ds0.f Ds0.fd ["item"] spSym := ok_sym Ds0
  have mi3 : ∃ u, mg "MOST_ITEMS" = some u ∧ RelV (.int 3) u := by
    obtain ⟨t, e⟩ := m3
    exact ⟨_, e, t, rfl⟩
  refine D.F.ok scPd (fun vs H Q E h => ?_) (fun cdv A outer s H vs Q E hr h => ?_)
  · obtain ⟨z, v, b, rfl, _⟩ := h
    rfl
  · obtain ⟨z, v, b, rfl, zl, pd, k⟩ := h
    have hr1 := hr
    have sz : ∀ y : Str, y.length = (tl y).length := fun y => (Array.length_toList).symm
    refine ⟨_, (pss_cons (ps_if (pw_or (pt_not (pt_val (pe_callB call_isi (by rfl) mi (by decide +kernel) (pa_cons (pv 1) (pa_cons (pe_bltn (v := V.ty "tuple") (by rfl) mt (by decide +kernel : bootBuiltins "tuple" = some (.type "tuple")) rfl) pa_nil))))) (pw_or1 (pt_cmpR op_ne (pe_callB call_len_seq (by rfl) ml PySem.boot_len (pa_cons (pv 1) pa_nil)) pe_int (nomark _)))).pt (pss_one (ps_ret pe_bl)) pss_nil) (pss_cons (ps_asg (pv 1) (pg_tup rfl (pgs_cons (pg_name (i := 2) scPd.nd rfl (.inl rfl)) (pgs_cons (pg_name (i := 3) scPd.nd rfl (.inl rfl)) pgs_nil)))) (pss_cons (ps_if (pw_or (pt_not (pt_val (pe_callB call_isi (by rfl) mi (by decide +kernel) (pa_cons (pv 2) (pa_cons (pe_bltn (v := V.ty "str") (by rfl) mstr (by decide +kernel : bootBuiltins "str" = some (.type "str")) rfl) pa_nil))))) (pw_or (pt_cmpR op_ne (pe_callB call_len_str (by rfl) ml PySem.boot_len (pa_cons (pv 2) pa_nil)) pe_int (nomark _)) (pw_or1 (pt_not (pt_val (pe_call Gs hr1 (by rfl) Ds0.g Ds0.F.kp Ds0.b .nil pass0 (pa_cons (pv 2) pa_nil))))))).pt (pss_one (ps_ret pe_bl)) pss_nil) (pss_cons (ps_if (pw_or (pt_not (pt_val (pe_callB call_isi (by rfl) mi (by decide +kernel) (pa_cons (pv 3) (pa_cons (pe_bltn (v := V.ty "str") (by rfl) mstr (by decide +kernel : bootBuiltins "str" = some (.type "str")) rfl) pa_nil))))) (pw_or1 (pt_cmpR op_gt (pe_callB call_len_str (by rfl) ml PySem.boot_len (pa_cons (pv 3) pa_nil)) (C8.pe_gc (by rfl) mi3) (nomark _)))).pt (pss_one (ps_ret pe_bl)) pss_nil) (pss_one (ps_ret (pe_callB (cr_all rfl) (by rfl) ma (by decide +kernel) (pa_cons (pe_lc (own := [("item", 4)]) (g := gName 4) rfl scPd.nd (pi_str (pv 3)) (blkOk_by (N := ["alphabet", "thing", "symbol", "items", "item"]) (sc := defScope sIsProduction) (by decide +kernel)) (fun _ _ _ _ _ => pg_name (i := 4) scPd.nd rfl (Or.inl rfl)) (fun _ _ _ _ _ => pts_nil) (fun _ _ _ _ _ => (pe_or (pe_call Gs hr1 (by rfl) Ds0.g Ds0.F.kp Ds0.b .nil pass0 (pa_cons (pv 4) pa_nil)) (pe_one (pe_cmpR op_in_sign (pv 4) (pv 0) rfl))))) pa_nil)))))))), ?_⟩
    have two : ∀ {a : Addr} {s y : V}, SqT K H a [s, y] → True := fun _ => trivial
    cases pd with
    | no h =>
      obtain ⟨t, ty, kt⟩ := h
      exact ⟨v, rfl, _, _, _, _, false, rfl, .ty "tuple", ty, kt, false, rfl, iteT (k _ (Same.refl _))⟩
    | @len a xs h n =>
      refine ⟨.ref a, rfl, _, _, _, _, true, rfl, .ty "tuple", sqT_ty h, tup_kit, true, rfl, iteF ?_⟩
      refine ⟨.ref a, rfl, a, _, rfl, .inr h, rfl, _, rfl, ?_⟩
      rw [show (!decide (V.int (xs.length : Int) = V.int 2)) = true by
        rw [decide_eq_false fun e => by
          have := V.int.inj e
          omega]
        rfl]
      exact iteT (k _ (Same.refl _))
    | @nos a s y h n =>
      refine ⟨.ref a, rfl, _, _, _, _, true, rfl, .ty "tuple", sqT_ty h, tup_kit, true, rfl, iteF ?_⟩
      refine ⟨.ref a, rfl, a, _, rfl, .inr h, rfl, _, rfl, iteF ?_⟩
      refine ⟨.ref a, rfl, a, _, rfl, h, rfl, _, _, rfl, _, _, rfl, rfl, ?_⟩
      obtain ⟨t, ty, kt⟩ := n
      exact ⟨s, rfl, _, _, _, _, false, rfl, .ty "str", ty, kt, false, rfl, iteT (k _ (Same.refl _))⟩
    | @slen a s y h n l =>
      refine ⟨.ref a, rfl, _, _, _, _, true, rfl, .ty "tuple", sqT_ty h, tup_kit, true, rfl, iteF ?_⟩
      refine ⟨.ref a, rfl, a, _, rfl, .inr h, rfl, _, rfl, iteF ?_⟩
      refine ⟨.ref a, rfl, a, _, rfl, h, rfl, _, _, rfl, _, _, rfl, rfl, ?_⟩
      refine ⟨.str s, rfl, _, _, _, _, true, rfl, .ty "str", .base (.str s), isi_kit, true, rfl, iteF ?_⟩
      refine ⟨.str s, rfl, s, rfl, by rw [sz, sizeLine_eq]; omega, rfl, _, rfl, ?_⟩
      rw [show (!decide (V.int (s.length : Int) = V.int 1)) = true by
        rw [decide_eq_false fun e => by
          have := V.int.inj e
          rw [sz] at this
          omega]
        rfl]
      exact iteT (k _ (Same.refl _))
    | @ssym a c y h n =>
      refine ⟨.ref a, rfl, _, _, _, _, true, rfl, .ty "tuple", sqT_ty h, tup_kit, true, rfl, iteF ?_⟩
      refine ⟨.ref a, rfl, a, _, rfl, .inr h, rfl, _, rfl, iteF ?_⟩
      refine ⟨.ref a, rfl, a, _, rfl, h, rfl, _, _, rfl, _, _, rfl, rfl, ?_⟩
      refine ⟨.str ⟨#[c]⟩, rfl, _, _, _, _, true, rfl, .ty "str", .base (.str _), isi_kit, true, rfl, iteF ?_⟩
      refine ⟨.str ⟨#[c]⟩, rfl, ⟨#[c]⟩, rfl, by show 1 ≤ sizeLine; decide, rfl, _, rfl, iteF ?_⟩
      refine ⟨.str ⟨#[c]⟩, rfl, c, rfl, _, rfl, ?_⟩
      rw [n]
      exact iteT (k _ (Same.refl _))
    | @ino a c y h s n =>
      refine ⟨.ref a, rfl, _, _, _, _, true, rfl, .ty "tuple", sqT_ty h, tup_kit, true, rfl, iteF ?_⟩
      refine ⟨.ref a, rfl, a, _, rfl, .inr h, rfl, _, rfl, iteF ?_⟩
      refine ⟨.ref a, rfl, a, _, rfl, h, rfl, _, _, rfl, _, _, rfl, rfl, ?_⟩
      refine ⟨.str ⟨#[c]⟩, rfl, _, _, _, _, true, rfl, .ty "str", .base (.str _), isi_kit, true, rfl, iteF ?_⟩
      refine ⟨.str ⟨#[c]⟩, rfl, ⟨#[c]⟩, rfl, by show 1 ≤ sizeLine; decide, rfl, _, rfl, iteF ?_⟩
      refine ⟨.str ⟨#[c]⟩, rfl, c, rfl, _, rfl, ?_⟩
      rw [s]
      refine iteF ?_
      obtain ⟨t, ty, kt⟩ := n
      exact ⟨y, rfl, _, _, _, _, false, rfl, .ty "str", ty, kt, false, rfl, iteT (k _ (Same.refl _))⟩
    | @ok a c y h s l =>
      refine ⟨.ref a, rfl, _, _, _, _, true, rfl, .ty "tuple", sqT_ty h, tup_kit, true, rfl, iteF ?_⟩
      refine ⟨.ref a, rfl, a, _, rfl, .inr h, rfl, _, rfl, iteF ?_⟩
      refine ⟨.ref a, rfl, a, _, rfl, h, rfl, _, _, rfl, _, _, rfl, rfl, ?_⟩
      refine ⟨.str ⟨#[c]⟩, rfl, _, _, _, _, true, rfl, .ty "str", .base (.str _), isi_kit, true, rfl, iteF ?_⟩
      refine ⟨.str ⟨#[c]⟩, rfl, ⟨#[c]⟩, rfl, by show 1 ≤ sizeLine; decide, rfl, _, rfl, iteF ?_⟩
      refine ⟨.str ⟨#[c]⟩, rfl, c, rfl, _, rfl, ?_⟩
      rw [s]
      refine iteF ?_
      refine ⟨.str y, rfl, _, _, _, _, true, rfl, .ty "str", .base (.str y), isi_kit, true, rfl, iteF ?_⟩
      refine ⟨.str y, rfl, y, rfl, by rw [sz, sizeLine_eq]; omega, _, 3, rfl, rfl, _, rfl, ite2 (fun e1 => ?_) (fun e1 => ?_)⟩
      · have e1' : ¬ (tl y).length ≤ 3 := by
          have := of_decide_eq_true e1
          rw [sz] at this
          omega
        have q := k _ (Same.refl H)
        rw [show rightB z y = false by unfold rightB; rw [decide_eq_false e1']; rfl] at q
        exact q
      · have e1' : (tl y).length ≤ 3 := by
          have q : ¬ (3 : Int) < (y.length : Int) := fun h => e1 (decide_eq_true h)
          rw [sz] at q
          omega
        have ea : rightB z y = (tl y).all fun c => symB c || decide (c ∈ tl z) := by
          unfold rightB
          rw [decide_eq_true e1']
          rfl
        rw [ea] at k
        have xs : y.cps.size = (tl y).length := (Array.length_toList).symm
        refine ⟨.str y, rfl, y, rfl, fun L hL => ?_⟩
        have sL := same_upd (o := .lst []) hL
        refine lc_it walk_str (fun i H' => ∃ bs : List Bool, H' L = some (.lst (bs.map V.bl)) ∧ bs = ((tl y).take i).map (fun c => symB c || decide (c ∈ tl z)) ∧ Same H H') ⟨[], upd_same, rfl, sL⟩ (fun _ _ _ _ => trivial) ?_ ?_
        · rintro i v G G' hi ⟨bs, gL, be, sm⟩ ⟨rfl, d, hd, rfl⟩
          have hd' : (tl y)[i]? = some d := by rw [Array.getElem?_toList]; exact hd
          refine ⟨rfl, yes ?_⟩
          have fin : ∀ b : Bool, b = (symB d || decide (d ∈ tl z)) → ∃ acc, G' L = some (.lst acc) ∧ acc.length < sizeLine ∧ ∃ bs : List Bool, (upd G' L (.lst (acc ++ [V.bl b]))) L = some (.lst (bs.map V.bl)) ∧ bs = ((tl y).take (i + 1)).map (fun c => symB c || decide (c ∈ tl z)) ∧ Same H (upd G' L (.lst (acc ++ [V.bl b]))) := by
            rintro b rfl
            refine ⟨_, gL, ?_, bs ++ [symB d || decide (d ∈ tl z)], ?_, ?_, fun b o e => (upd_ne (ne_of_none e hL)).trans (sm _ _ e)⟩
            · rw [List.length_map, be, List.length_map, List.length_take, sizeLine_eq]
              omega
            · rw [upd_same, List.map_append]
              rfl
            · rw [be, List.take_add_one, hd', List.map_append]
              rfl
          refine ⟨.str ⟨#[d]⟩, rfl, d, rfl, _, rfl, ?_⟩
          cases e : symB d with
          | true => exact iteT (fin true (by rw [e]; rfl))
          | false => exact iteF ⟨.str ⟨#[d]⟩, rfl, .str z, rfl, d, z, rfl, rfl, fin _ (by rw [e]; rfl)⟩
        · rintro G ⟨bs, gL, be, sm⟩
          refine ⟨L, bs, rfl, SqL.of gL, ?_⟩
          have e2 : bs.all id = (tl y).all fun c => symB c || decide (c ∈ tl z) := by
            rw [be, xs, List.take_length, List.all_map]
            rfl
          rw [e2]
          exact k _ sm
end
end DW
/-! k62: how many symbols stand in the productions -/
namespace DW
open PySem PySem.Spec PyProof.Rows L2 TL
set_option autoImplicit false
/-- the characters of productions, one behind the other -/
def chs (ps : List (Nat × Str)) : List Nat := ps.flatMap fun p => p.1 :: tl p.2
theorem chs_app (a b : List (Nat × Str)) : chs (a ++ b) = chs a ++ chs b := by
  unfold chs
  rw [List.flatMap_append]
theorem chs_one (c : Nat) (y : Str) : chs [(c, y)] = c :: tl y := by
  unfold chs
  rw [List.flatMap_cons, List.flatMap_nil, List.append_nil]
/-- how many capital letters stand in a list of letters -/
def nsym (l : List Nat) : Nat := ((List.range 26).filter fun k => decide (65 + k ∈ l)).length
theorem one_inj {a b : Nat} (h : (⟨#[a]⟩ : Str) = ⟨#[b]⟩) : a = b := by
  have e := congrArg (fun s : Str => s.cps.toList) h
  exact (List.cons.inj e).1
theorem nodup_one : ∀ {l : List Nat}, l.Nodup → (l.map fun k => (⟨#[65 + k]⟩ : Str)).Nodup
  | [], _ => List.nodup_nil
  | a :: r, h => by
    obtain ⟨n, nd⟩ := List.nodup_cons.mp h
    rw [List.map_cons]
    refine List.nodup_cons.mpr ⟨fun m => ?_, nodup_one nd⟩
    obtain ⟨k, hk, e⟩ := List.mem_map.mp m
    have := one_inj e
    exact n (by rw [show a = k by omega]; exact hk)
theorem nsym_len {x : Str} {ys : List Str} (nd : ys.Nodup) (mem : ∀ y, y ∈ ys ↔ ∃ c ∈ tl x, symB c = true ∧ y = ⟨#[c]⟩) : ys.length = nsym (tl x) := by
  have T := fun y : Str => (List.mem_map (f := fun k : Nat => (⟨#[65 + k]⟩ : Str)) (b := y) (l := (List.range 26).filter fun k => decide (65 + k ∈ tl x)))
  have len : nsym (tl x) = (((List.range 26).filter fun k => decide (65 + k ∈ tl x)).map fun k => (⟨#[65 + k]⟩ : Str)).length := (List.length_map _).symm
  rw [len]
  apply Nat.le_antisymm
  · refine nodup_lenS _ _ nd fun y hy => (T y).mpr ?_
    obtain ⟨c, hc, s, rfl⟩ := (mem y).mp hy
    unfold symB at s
    rw [Bool.and_eq_true] at s
    have h1 := of_decide_eq_true s.1
    have h2 := of_decide_eq_true s.2
    refine ⟨c - 65, List.mem_filter.mpr ⟨List.mem_range.mpr (by omega), decide_eq_true (by rw [show 65 + (c - 65) = c by omega]; exact hc)⟩, by rw [show 65 + (c - 65) = c by omega]⟩
  · refine nodup_lenS _ _ (nodup_one (List.nodup_range.sublist List.filter_sublist)) fun y hy => (mem y).mpr ?_
    obtain ⟨k, hk, rfl⟩ := (T y).mp hy
    obtain ⟨h1, h2⟩ := List.mem_filter.mp hk
    have := List.mem_range.mp h1
    exact ⟨65 + k, of_decide_eq_true h2, by unfold symB; rw [decide_eq_true (by omega : 65 ≤ 65 + k), decide_eq_true (by omega : 65 + k ≤ 90)]; rfl, rfl⟩
theorem nsym_mono {a b : List Nat} (h : ∀ c ∈ a, c ∈ b) : nsym a ≤ nsym b := by
  unfold nsym
  refine nodup_lenS _ _ (List.nodup_range.sublist List.filter_sublist) fun k hk => ?_
  obtain ⟨h1, h2⟩ := List.mem_filter.mp hk
  exact List.mem_filter.mpr ⟨h1, decide_eq_true (h _ (of_decide_eq_true h2))⟩
end DW
/-! class Grammar: made, or refused -/
namespace DW
open PySem PySem.Spec PyProof.Rows L2 TL
set_option autoImplicit false
def clsBody (s : Stmt) : List Stmt := match s with
  | .ClassDef _ _ _ b _ _ _ _ _ _ _ => b
  | _ => []
def clsS (i j : Nat) : Stmt := (clsBody (topS i)).getD j (.Pass ⟨0, 0, 0, 0⟩)
abbrev sGrInit : Stmt := clsS 15 0
/-- a method as the top has made it -/
structure DfM (K : PySem.W.Frag) (C : Addr) (x q : Str) (st : Stmt) (ps : List Str) where
  f : Addr
  fd : FuncData
  F : FunD K x q (defArgs st) (defBody st) (defScope st) [] [] f fd
  b : Binds K fd ps []
/-- the class -/
structure DfG (K : PySem.W.Frag) (mg : Str → Option Value) where
  C : Addr
  g : mg "Grammar" = some (.ref C)
  cl : Cls K C
  nB : NoAttr K C "base"
  nR : NoAttr K C "rules"
  nO : NoAttr K C "occurring"
  i : DfM K C "__init__" "Grammar.__init__" sGrInit ["self", "alphabet", "productions"]
  mkr : Mk K C i.f
structure DfGr (K : PySem.W.Frag) (mg : Str → Option Value) extends DfG K mg where
  al : Df K mg "is_alphabet" sIsAlphabet ["thing"]
  as : Df K mg "is_ascending" sIsAscending ["letters"]
  pd : Df K mg "is_production" sIsProduction ["alphabet", "thing"]
  sy : Df K mg "is_symbol" sIsSymbol ["item"]
  sa : Df K mg "symbols_among" sSymbolsAmong ["items"]
  ma : mg "all" = none
  mz : mg "zip" = none
  mi : mg "isinstance" = none
  ms : mg "str" = none
  mt : mg "tuple" = none
  ml : mg "len" = none
  mli : mg "list" = none
  me : mg "enumerate" = none
  mso : mg "sorted" = none
  mm : ∃ t, mg "MOST_LETTERS" = some (.int 3 t)
  m3 : ∃ t, mg "MOST_ITEMS" = some (.int 3 t)
  m16 : ∃ t, mg "MOST_PRODUCTIONS" = some (.int 16 t)
  m6 : ∃ t, mg "MOST_SYMBOLS" = some (.int 6 t)
theorem ps_noxG {X : Cx} {st : Stmt} {t : TS} (h : PS X.nox st t) : PS X st t := ⟨fun pins s σ H D I hw =>
  wpAny_mono (h.run pins s σ H D (I.wish _) hw) (fun _ _ q => q.unwish) fun _ _ z => False.elim z⟩
/-- a value that is no alphabet -/
inductive BadA (K : PySem.W.Frag) (H : Hp) : V → Prop where
  | str {x : Str} (l : (tl x).length ≤ 100000) (h : alphB (tl x) = false) : BadA K H (.str x)
  | no {v : V} (h : NoS K H v) : BadA K H v
/-- a value that is neither a list nor a tuple -/
def NoLT (K : PySem.W.Frag) (H : Hp) (v : V) : Prop := ∃ t, TyX K H v t ∧ PySem.W.kitAny K t [.type "list", .type "tuple"] = some false
/-- a production -/
def PdAt (K : PySem.W.Frag) (H : Hp) (z : Str) (v : V) (c : Nat) (y : Str) : Prop := ∃ a, v = .ref a ∧ SqT K H a [.str ⟨#[c]⟩, .str y] ∧ symB c = true ∧ (tl y).length ≤ 100 ∧ rightB z y = true
/-- the productions before the first one that is refused -/
def GrPre (K : PySem.W.Frag) (H : Hp) (z : Str) (xs : List V) (ps : List (Nat × Str)) : Prop := ps.length ≤ 16 ∧ (∀ (i : Nat) (v : V), i < ps.length → xs[i]? = some v → ∃ c y, ps[i]? = some (c, y) ∧ PdAt K H z v c y) ∧ nsym (chs ps) ≤ 6
/-- why one is refused behind these -/
def GrBad (K : PySem.W.Frag) (H : Hp) (z : Str) (ps : List (Nat × Str)) (v : V) : Prop := ps.length = 16 ∨ PdB K H z v false ∨ ∃ c y, PdAt K H z v c y ∧ 6 < nsym (chs (ps ++ [(c, y)]))
def flG (z : Str) (r o : Addr) : List (Str × V) := putF "occurring" (.ref o) (putF "rules" (.ref r) (putF "base" (.str z) []))
/-- a Grammar in the heap -/
def GrAtR (C : Addr) (H : Hp) (p : Addr) (z : Str) (xs : List V) (ps : List (Nat × Str)) (r o : Addr) : Prop := ∃ (dx : Addr) (ys : List Str), H p = some (.ins C dx (flG z r o)) ∧ H r = some (.lst xs) ∧ H o = some (.lst (ys.map V.str)) ∧ ys.Nodup ∧ sortedS ys = true ∧ ∀ y, y ∈ ys ↔ ∃ c ∈ chs ps, symB c = true ∧ y = ⟨#[c]⟩
def GrAt (C : Addr) (H : Hp) (p : Addr) (z : Str) (xs : List V) (ps : List (Nat × Str)) : Prop := ∃ r o, GrAtR C H p z xs ps r o
theorem ascB_of {l : List Nat} (h : l.Pairwise (· < ·)) : ascB l = true := by
  induction l with
  | nil => rfl
  | cons a l ih =>
    cases l with
    | nil => rfl
    | cons b r =>
      obtain ⟨h1, h2⟩ := List.pairwise_cons.mp h
      show (decide (a < b) && ascB (b :: r)) = true
      rw [ih h2, decide_eq_true (h1 b List.mem_cons_self)]
      rfl
/-- a factor that was drawn is one -/
theorem alphB_of {z : Str} (h : Alph z) : alphB (tl z) = true := by
  obtain ⟨h1, h2, h3, h4⟩ := h
  unfold alphB
  rw [decide_eq_true h2, decide_eq_true h3, ascB_of h1]
  simp only [Bool.true_and, Bool.and_true]
  refine List.all_eq_true.mpr fun c hc => ?_
  unfold lowB
  rw [decide_eq_true (h4 c hc).1, decide_eq_true (h4 c hc).2]
  rfl
theorem lst_kit {K : PySem.W.Frag} : PySem.W.kitOne K (.type "list") (.type "list") = some true := kit_ty (by decide +kernel)
theorem tyX_sameG {K : PySem.W.Frag} {H H' : Hp} {v : V} {t : Value} (s : Same H H') (h : TyX K H v t) : TyX K H' v t := by
  cases h with
  | base b =>
    refine .base ?_
    cases b with
    | non => exact .non
    | bl y => exact .bl y
    | int i => exact .int i
    | str y => exact .str y
    | flt y => exact .flt y
    | lst e => exact .lst (s _ _ e)
    | frz e => exact .frz (s _ _ e)
    | tup e => exact .tup (s _ _ e)
    | dK e => exact .dK (s _ _ e)
    | dT e => exact .dT (s _ _ e)
    | ins e a b c d f => exact .ins (s _ _ e) a b c d f
  | byt b => exact .byt b
  | set e => exact .set (s _ _ e)
  | kList e c => exact .kList e c
  | kTuple e c => exact .kTuple e c
  | kDict e c => exact .kDict e c
  | fTuple e => exact .fTuple (s _ _ e)
  | fDict e => exact .fDict (s _ _ e)
theorem same_tupG {H H' : Hp} {K : PySem.W.Frag} (s : Same H H') (b : Addr) (xs : List V) (h : SqT K H b xs) : SqT K H' b xs := by
  rcases h with (h | ⟨v, h⟩) | h
  · exact .inl (.inl (s _ _ h))
  · exact .inl (.inr ⟨v, s _ _ h⟩)
  · exact .inr h
theorem PdAt.same {K : PySem.W.Frag} {H H' : Hp} {z : Str} {v : V} {c : Nat} {y : Str} (s : Same H H') (h : PdAt K H z v c y) : PdAt K H' z v c y := by
  obtain ⟨a, e, g, h⟩ := h
  exact ⟨a, e, same_tupG s _ _ g, h⟩
theorem NoS.sameG {K : PySem.W.Frag} {H H' : Hp} {v : V} (s : Same H H') (h : NoS K H v) : NoS K H' v := by
  obtain ⟨t, ty, k⟩ := h
  exact ⟨t, tyX_sameG s ty, k⟩
theorem PdB.same {K : PySem.W.Frag} {H H' : Hp} {z : Str} {v : V} {b : Bool} (s : Same H H') (h : PdB K H z v b) : PdB K H' z v b := by
  cases h with
  | no h =>
    obtain ⟨t, ty, k⟩ := h
    exact .no ⟨t, tyX_sameG s ty, k⟩
  | len h n => exact .len (same_tupG s _ _ h) n
  | nos h n => exact .nos (same_tupG s _ _ h) (n.sameG s)
  | slen h n l => exact .slen (same_tupG s _ _ h) n l
  | ssym h n => exact .ssym (same_tupG s _ _ h) n
  | ino h x n => exact .ino (same_tupG s _ _ h) x (n.sameG s)
  | ok h x l => exact .ok (same_tupG s _ _ h) x l
theorem chs_len {z : Str} : ∀ ps : List (Nat × Str), (∀ p ∈ ps, (tl p.2).length ≤ 100) → (chs ps).length ≤ 101 * ps.length
  | [], _ => Nat.le_refl _
  | p :: ps, h => by
    have := chs_len (z := z) ps fun q hq => h q (List.mem_cons_of_mem _ hq)
    have := h p List.mem_cons_self
    show ((p.1 :: tl p.2) ++ chs ps).length ≤ _
    rw [List.length_append, List.length_cons, List.length_cons]
    omega
theorem tl_appG (x y : Str) : tl (x ++ y) = tl x ++ tl y := Array.toList_append
theorem log_small {i : Nat} (h : i ≤ 16) : ((i : Int)).natAbs.log2 < 1920 := (by decide +kernel : ∀ i : Nat, i < 17 → ((i : Int)).natAbs.log2 < 1920) i (by omega)
def spGr (K : PySem.W.Frag) (CA CP : Addr) : Sp := fun vs H Q E => ∃ (p C dx : Addr) (va vb : V), vs = [.ref p, va, vb] ∧ H p = some (.ins C dx []) ∧ Cls K C ∧ NoAttr K C "base" ∧ NoAttr K C "rules" ∧ NoAttr K C "occurring" ∧
  ((BadA K H va ∧ ∀ H', Same H H' → E (.ref CA) none H') ∨
   ∃ z : Str, va = .str z ∧ Alph z ∧
    ((NoLT K H vb ∧ ∀ H' d, Same H H' → H' d = none → E (.ref CP) (some d) (upd H' d (.xd [(("index" : Str), .non)]))) ∨
     ∃ (a : Addr) (xs : List V) (ps : List (Nat × Str)), vb = .ref a ∧ H a = some (.lst xs) ∧ GrPre K H z xs ps ∧
      ((∃ v, xs[ps.length]? = some v ∧ GrBad K H z ps v ∧ ∀ H' d, Same H H' → H' d = none → E (.ref CP) (some d) (upd H' d (.xd [(("index" : Str), .int (ps.length : Int))]))) ∨
       (xs.length = ps.length ∧ ∀ H', (∀ b o, H b = some o → b ≠ p → H' b = some o) → (∃ r o, H r = none ∧ H o = none ∧ GrAtR C H' p z xs ps r o) → Q .non H'))))
section
variable {P : Program} {w : World} {K : PySem.W.Frag} {mg : Str → Option Value} {base : Heap}
theorem scGi : FnScope ["self", "alphabet", "productions", "characters", "index", "production"] ["self", "alphabet", "productions"] (defScope sGrInit) := ⟨rfl, rfl, rfl, by decide +kernel, rfl, by decide +kernel, by decide +kernel⟩
theorem ok_gr (D : DfGr K mg) (A : EX.DfE0 K mg "InvalidAlphabet") (M : EX.DfE P K mg "InvalidProduction" "index" EX.MsgOk) : FnOk P w K mg base (L2.CX P w) 3 D.i.f D.i.fd ["self", "alphabet", "productions"] (spGr K A.C M.C) := by
  have Ga : FnOk P w K mg base CX0 2 D.al.f D.al.fd ["thing"] (spAlp K) := ok_alp D.al D.as D.ma D.mz D.mi D.ms D.ml D.mm
  have Gp : FnOk P w K mg base CX0 2 D.pd.f D.pd.fd ["alphabet", "thing"] (spPd K) := ok_pd D.pd D.sy D.ma D.mi D.ms D.mt D.ml D.m3
  have Gs : FnOk P w K mg base CX0 2 D.sa.f D.sa.fd ["items"] spSa := ok_sa D.sa D.sy D.mso
  have m16 : ∃ u, mg "MOST_PRODUCTIONS" = some u ∧ RelV (.int 16) u := by
    obtain ⟨t, e⟩ := D.m16
    exact ⟨_, e, t, rfl⟩
  have m6 : ∃ u, mg "MOST_SYMBOLS" = some u ∧ RelV (.int 6) u := by
    obtain ⟨t, e⟩ := D.m6
    exact ⟨_, e, t, rfl⟩
  refine D.i.F.ok scGi (fun vs H Q E h => ?_) (fun cdv A0 outer s H vs Q E hr h => ?_)
  · obtain ⟨p, C, dx, va, vb, rfl, _⟩ := h
    rfl
  · obtain ⟨p, C, dx, va, vb, rfl, hp, hcl, nB, nR, nO, h⟩ := h
    have hr2 : Room 2 _ := hr.mono (by decide)
    refine ⟨_, (pss_cons (ps_if (pt_not (pt_val (pe_call Ga hr2 (by rfl) D.al.g D.al.F.kp D.al.b .nil pass0 (pa_cons (pv 1) pa_nil)))) (pss_one (ps_raise rfl (takes_of rfl rfl rfl rfl) (EX.pmk_err0 A.q A.T (by rfl) A.g))) pss_nil) (pss_cons (ps_if (pt_not (pt_val (pe_callB call_isiT (by rfl) D.mi (by decide +kernel) (pa_cons (pv 2) (pa_cons (pe_tup (pa_cons (pe_bltn (v := V.ty "list") (by rfl) D.mli (by decide +kernel : bootBuiltins "list" = some (.type "list")) rfl) (pa_cons (pe_bltn (v := V.ty "tuple") (by rfl) D.mt (by decide +kernel : bootBuiltins "tuple" = some (.type "tuple")) rfl) pa_nil))) pa_nil))))) (pss_one (ps_raise rfl (takes_of rfl rfl rfl rfl) (EX.pmk_err M.T M.iC M.tI (M.F w base) hr2 M.b (by rfl) M.g pe_non))) pss_nil) (pss_cons (ps_noxG (ps_set (i := 3) scGi.nd rfl (.inl rfl) pe_str)) (pss_cons (ps_for (passes_of rfl) rfl (pi_enum (by rfl) D.me (pa_cons (pv 2) pa_nil)) (pg_tup rfl (pgs_cons (pg_name (i := 4) scGi.nd rfl (.inl rfl)) (pgs_cons (pg_name (i := 5) scGi.nd rfl (.inl rfl)) pgs_nil))) (pss_cons (ps_if (pw_or (pt_cmpR op_ge (pv 4) (C8.pe_gc (by rfl) m16) (nomark _)) (pw_or1 (pt_not (pt_val (pe_call Gp hr2 (by rfl) D.pd.g D.pd.F.kp D.pd.b .nil pass0 (pa_cons (pv 1) (pa_cons (pv 5) pa_nil))))))).pt (pss_one (ps_raise rfl (takes_of rfl rfl rfl rfl) (EX.pmk_err M.T M.iC M.tI (M.F w base) hr2 M.b (by rfl) M.g (pv 4)))) pss_nil) (pss_cons (ps_noxG (ps_aug (i := 3) scGi.nd rfl (.inl rfl) (pe_join pe_str (pv 5)) iop_add_str)) (pss_one (ps_if (pt_cmpR op_gt (pe_callB call_len_seq (by rfl) D.ml PySem.boot_len (pa_cons (pe_call Gs hr2 (by rfl) D.sa.g D.sa.F.kp D.sa.b .nil pass0 (pa_cons (pv 3) pa_nil)) pa_nil)) (C8.pe_gc (by rfl) m6) (nomark _)) (pss_one (ps_raise rfl (takes_of rfl rfl rfl rfl) (EX.pmk_err M.T M.iC M.tI (M.F w base) hr2 M.b (by rfl) M.g (pv 4)))) pss_nil))))) (pss_cons (ps_noxG (ps_fld (pv 0) (pv 1) rfl)) (pss_cons (ps_noxG (ps_fld (pv 0) (pe_callTy call_list_of (by rfl) D.mli (by decide +kernel) (pa_cons (pv 2) pa_nil)) rfl)) (pss_one (ps_noxG (ps_fld (pv 0) (pe_call Gs hr2 (by rfl) D.sa.g D.sa.F.kp D.sa.b .nil pass0 (pa_cons (pv 3) pa_nil)) rfl))))))))), ?_⟩
    rcases h with ⟨ba, k⟩ | ⟨z, rfl, al, h⟩
    · refine ⟨va, rfl, va, rfl, ?_⟩
      cases ba with
      | str l h => exact .inl ⟨_, rfl, l, fun H1 s1 => ⟨_, rfl, by rw [h]; exact iteT (k _ s1)⟩⟩
      | no h => exact .inr ⟨h, fun H1 s1 => ⟨_, rfl, iteT (k _ s1)⟩⟩
    have zl : (tl z).length ≤ 100000 := by
      have := al.2.2.1
      omega
    have az : alphB (tl z) = true := alphB_of al
    refine ⟨.str z, rfl, .str z, rfl, .inl ⟨z, rfl, zl, fun H1 s1 => ⟨_, rfl, ?_⟩⟩⟩
    rw [az]
    refine iteF ?_
    rcases h with ⟨nl, k⟩ | ⟨a, xs, ps, rfl, ha, ⟨p16, pre, six⟩, why⟩
    · refine ⟨vb, rfl, by rw [sizeLine_eq]; decide, fun T0 hT0 => ?_⟩
      have sT := same_upd (o := .tup [V.ty "list", V.ty "tuple"]) hT0
      have sH := s1.trans sT
      obtain ⟨t, ty, kt⟩ := nl
      refine ⟨vb, T0, _, t, [.type "list", .type "tuple"], false, rfl, upd_same, .cons (.ty _) (.cons (.ty _) .nil), tyX_sameG sH ty, kt, false, rfl, iteT ?_⟩
      exact ⟨.inr (.inr rfl), fun d nd => k _ d sH nd⟩
    · have tkl : ∀ i, (chs (ps.take i)).length ≤ 101 * 16 := fun i => by
        have h1 := chs_len (z := z) (ps.take i) fun q hq => by
          obtain ⟨n, hn⟩ := List.mem_iff_getElem?.mp (List.mem_of_mem_take hq)
          have nl := (List.getElem?_eq_some_iff.mp hn).1
          have xl : n < xs.length := by
            have w1 : ps.length ≤ xs.length := by
              rcases why with ⟨y, hy, _⟩ | ⟨l, _⟩
              · exact Nat.le_of_lt (List.getElem?_eq_some_iff.mp hy).1
              · omega
            omega
          obtain ⟨c, y, e, a, _, _, _, l, _⟩ := pre n xs[n] nl (List.getElem?_eq_getElem xl)
          rw [hn] at e
          have e := Option.some.inj e
          rw [e]
          exact l
        have h2 : (ps.take i).length ≤ 16 := by
          rw [List.length_take]
          omega
        omega
      refine ⟨.ref a, rfl, by rw [sizeLine_eq]; decide, fun T0 hT0 => ?_⟩
      have sT := same_upd (o := .tup [V.ty "list", V.ty "tuple"]) hT0
      have sH := s1.trans sT
      refine ⟨.ref a, T0, _, .type "list", [.type "list", .type "tuple"], true, rfl, upd_same, .cons (.ty _) (.cons (.ty _) .nil), .base (.lst (sH _ _ ha)), ?_, true, rfl, iteF ?_⟩
      · unfold PySem.W.kitAny
        rw [lst_kit]
      refine ⟨.ref a, rfl, a, xs, rfl, SqL.of (sH _ _ ha), for_it (walk_enum (xs := xs)) (fun i σ G => ∃ x y4 y5, σ = [some (.ref p), some (.str z), some (.ref a), some (.str x), y4, y5] ∧ tl x = chs (ps.take i) ∧ Same H G ∧ i ≤ ps.length) ⟨"", _, _, rfl, rfl, sH, Nat.zero_le _⟩ (fun _ _ _ _ ⟨_, _, _, _, _, sm, _⟩ => SqL.of (sm _ _ ha)) ?_ ?_⟩
      · rintro i v0 σ G G' hi ⟨x, y4, y5, rfl, ex, sm, ij⟩ ⟨T, c0, y', rfl, hT, rfl, hc, hy'⟩
        have s2 := sm.trans (same_upd (o := .tup [c0, y']) hT)
        have hc : c0 = .int (i : Int) := (Option.some.inj hc).symm
        subst hc
        refine ⟨T, [.int (i : Int), y'], rfl, SqT.of upd_same, rfl, _, _, rfl, _, _, rfl, rfl, ?_⟩
        have i16 : i ≤ 16 := by omega
        have cas : ((i = 16 ∨ PdB K H z y' false) ∧ ∀ H' d, Same H H' → H' d = none → E (.ref M.C) (some d) (upd H' d (.xd [(("index" : Str), .int (i : Int))]))) ∨
            (i < 16 ∧ ∃ c yy, PdAt K H z y' c yy ∧ ((i < ps.length ∧ ps.take (i + 1) = ps.take i ++ [(c, yy)]) ∨ (6 < nsym (chs (ps.take i ++ [(c, yy)])) ∧ ∀ H' d, Same H H' → H' d = none → E (.ref M.C) (some d) (upd H' d (.xd [(("index" : Str), .int (i : Int))]))))) := by
          by_cases lt : i < ps.length
          · obtain ⟨c, yy, hp', pa⟩ := pre i y' lt hy'
            exact .inr ⟨by omega, c, yy, pa, .inl ⟨lt, by rw [List.take_add_one, hp']; rfl⟩⟩
          · have ei : i = ps.length := by omega
            rcases why with ⟨y, hy, bad, k⟩ | ⟨l, k⟩
            · rw [← ei] at hy k
              have e : y = y' := Option.some.inj (hy.symm.trans hy')
              subst e
              by_cases h16 : i = 16
              · exact .inl ⟨.inl h16, k⟩
              · rcases bad with h | h | ⟨c, yy, pa, h6⟩
                · exact absurd (ei.trans h) h16
                · exact .inl ⟨.inr h, k⟩
                · exact .inr ⟨by omega, c, yy, pa, .inr ⟨by rw [ei, List.take_length]; exact h6, k⟩⟩
            · exact absurd (List.getElem?_eq_some_iff.mp hy').1 (by omega)
        rcases cas with ⟨bad, k⟩ | ⟨lt16, c, yy, pa, cas⟩
        · by_cases h16 : i = 16
          · refine ⟨_, rfl, _, 16, rfl, rfl, _, rfl, ite2 (fun e => ?_) (fun e => absurd (decide_eq_true (by omega)) e)⟩
            exact iteT ⟨_, rfl, .inr (.inl ⟨_, rfl, log_small i16⟩), fun d nd => k _ d s2 nd⟩
          · have pb : PdB K H z y' false := bad.resolve_left h16
            refine ⟨_, rfl, _, 16, rfl, rfl, _, rfl, ite2 (fun e => absurd (of_decide_eq_true e) (by omega)) (fun e => ?_)⟩
            refine ⟨.str z, rfl, y', rfl, z, y', false, rfl, zl, pb.same s2, fun H2 s3 => ⟨_, rfl, iteT ?_⟩⟩
            exact ⟨_, rfl, .inr (.inl ⟨_, rfl, log_small i16⟩), fun d nd => k _ d (s2.trans s3) nd⟩
        · have pb : PdB K H z y' true := by
            obtain ⟨ad, rfl, sq, sc, yl, rb⟩ := pa
            rw [← rb]
            exact .ok sq sc (by omega)
          obtain ⟨ad, rfl, sq, sc, yl, rb⟩ := pa
          refine ⟨_, rfl, _, 16, rfl, rfl, _, rfl, ite2 (fun e => absurd (of_decide_eq_true e) (by omega)) (fun e => ?_)⟩
          refine ⟨.str z, rfl, _, rfl, z, _, true, rfl, zl, pb.same s2, fun H2 s3 => ⟨_, rfl, iteF ?_⟩⟩
          refine ⟨.str x, rfl, ⟨_, rfl⟩, .ref ad, rfl, _, ad, [⟨#[c]⟩, yy], rfl, rfl, .inr (same_tupG (s2.trans s3) _ _ sq), ?_, ?_⟩
          · have yz : yy.length = (tl yy).length := (Array.length_toList).symm
            show 1 + (yy.length + 0) + 2 * 0 ≤ 16777216
            omega
          have xyl : (tl x).length ≤ 101 * 16 := by
            rw [ex]
            exact tkl i
          have xz : x.length = (tl x).length := (Array.length_toList).symm
          have tj : tl (Txt.join "" [⟨#[c]⟩, yy]) = c :: tl yy := by
            rw [tl_cat]
            show c :: (tl yy ++ []) = _
            rw [List.append_nil]
          have jz : (Txt.join "" [⟨#[c]⟩, yy]).length = (tl (Txt.join "" [⟨#[c]⟩, yy])).length := (Array.length_toList).symm
          have tx : tl (x ++ Txt.join "" [⟨#[c]⟩, yy]) = chs (ps.take i ++ [(c, yy)]) := by
            rw [tl_appG, tj, ex, chs_app, chs_one]
          refine ⟨_, _, rfl, rfl, ?_, ?_⟩
          · rw [jz, tj, List.length_cons, sizeLine_eq]
            omega
          dsimp only [List.set]
          have nl : (tl (x ++ Txt.join "" [⟨#[c]⟩, yy])).length ≤ 100000 := by
            rw [tl_appG, tj, List.length_append, List.length_cons]
            omega
          refine ⟨.str _, rfl, _, rfl, nl, fun H4 q ys s4 _ hq nd so mem => ?_⟩
          have yn := nsym_len nd mem
          have s5 := (s2.trans s3).trans s4
          rw [tx] at yn
          have up : i < ps.length → ps.take (i + 1) = ps.take i ++ [(c, yy)] → nsym (chs (ps.take i ++ [(c, yy)])) ≤ 6 := fun lt tk => by
            rw [← tk]
            refine Nat.le_trans (nsym_mono fun d hd => ?_) six
            obtain ⟨pr, hpr, hd⟩ := List.mem_flatMap.mp hd
            exact List.mem_flatMap.mpr ⟨pr, List.mem_of_mem_take hpr, hd⟩
          refine ⟨q, _, rfl, .inl (SqL.of hq), _, 6, rfl, rfl, _, rfl, ite2 (fun e => ?_) (fun e => ?_)⟩
          · have e := of_decide_eq_true e
            rw [List.length_map, yn] at e
            rcases cas with ⟨lt, tk⟩ | ⟨_, k⟩
            · have := up lt tk
              omega
            · exact ⟨_, rfl, .inr (.inl ⟨_, rfl, log_small i16⟩), fun d nd => k _ d s5 nd⟩
          · have e : ¬ (6 : Int) < ((ys.map V.str).length : Int) := fun h => e (decide_eq_true h)
            rw [List.length_map, yn] at e
            rcases cas with ⟨lt, tk⟩ | ⟨h6, k⟩
            · exact ⟨_, _, _, rfl, by rw [tx, tk], s5, lt⟩
            · omega
      · rintro σ G ⟨x, y4, y5, rfl, ex, sm, ij⟩
        rcases why with ⟨y, hy, bad, k⟩ | ⟨l, k⟩
        · exact absurd (List.getElem?_eq_some_iff.mp hy).1 (by omega)
        · have hpG := sm _ _ hp
          refine ⟨.str z, rfl, .ref p, rfl, p, C, dx, [], rfl, hpG, hcl, nB, by decide, ?_⟩
          have npa : a ≠ p := ne_of ha hp (by intro z; cases z)
          refine ⟨.ref a, rfl, a, xs, rfl, .inl (SqL.of ((upd_ne npa).trans (sm _ _ ha))), fun r hr0 => ?_⟩
          have npr : p ≠ r := fun e => by
            rw [← e, upd_same] at hr0
            cases hr0
          refine ⟨.ref p, rfl, p, C, dx, _, rfl, (upd_ne npr).trans upd_same, hcl, nR, (by show 1 < 1000; decide), ?_⟩
          have xl : (tl x).length ≤ 100000 := by
            rw [ex]
            have := tkl xs.length
            omega
          refine ⟨.str x, rfl, x, rfl, xl, fun H' q ys s2 nq0 hq nd so mem => ?_⟩
          have hp2 := s2 _ _ (upd_same : (upd _ p _) p = _)
          refine ⟨.ref p, rfl, p, C, dx, _, rfl, hp2, hcl, nO, (by show 2 < 1000; decide), ?_⟩
          rw [ex, l, List.take_length] at mem
          have nqp : q ≠ p := ne_of hq hp2 (by intro z; cases z)
          have nrp : r ≠ p := fun e => npr e.symm
          have fr : ∀ b, b ≠ p → b ≠ r → G b = none → H b = none := fun b _ _ h => fresh_of sm h
          have hrH : H r = none := by
            rw [upd_ne nrp] at hr0
            exact fresh_of sm hr0
          have hqH : H q = none := by
            have nqr : q ≠ r := fun e => by
              rw [e, upd_ne nrp, upd_same] at nq0
              cases nq0
            rw [upd_ne nqp, upd_ne nqr, upd_ne nqp] at nq0
            exact fresh_of sm nq0
          refine k _ (fun b o hb nb => ?_) ⟨r, q, hrH, hqH, dx, ys, upd_same, (upd_ne nrp).trans (s2 _ _ ((upd_ne nrp).trans upd_same)), (upd_ne nqp).trans hq, nd, so, mem⟩
          have hb2 := sm _ _ hb
          have nbr : b ≠ r := fun e => by
            rw [e] at hb2 nb
            rw [upd_ne nb] at hr0
            rw [hb2] at hr0
            cases hr0
          exact (upd_ne nb).trans (s2 _ _ ((upd_ne nb).trans ((upd_ne nbr).trans ((upd_ne nb).trans hb2))))
end
end DW
/-! class Grammar: made of a tuple, or refused -/
namespace DW
open PySem PySem.Spec PyProof.Rows L2 TL
set_option autoImplicit false
def spGrT (K : PySem.W.Frag) (CA CP : Addr) : Sp := fun vs H Q E => ∃ (p C dx : Addr) (va vb : V), vs = [.ref p, va, vb] ∧ H p = some (.ins C dx []) ∧ Cls K C ∧ NoAttr K C "base" ∧ NoAttr K C "rules" ∧ NoAttr K C "occurring" ∧
  ((BadA K H va ∧ ∀ H', Same H H' → E (.ref CA) none H') ∨
   ∃ z : Str, va = .str z ∧ Alph z ∧
    ((NoLT K H vb ∧ ∀ H' d, Same H H' → H' d = none → E (.ref CP) (some d) (upd H' d (.xd [(("index" : Str), .non)]))) ∨
     ∃ (a : Addr) (xs : List V) (ps : List (Nat × Str)), vb = .ref a ∧ H a = some (.tup xs) ∧ GrPre K H z xs ps ∧
      ((∃ v, xs[ps.length]? = some v ∧ GrBad K H z ps v ∧ ∀ H' d, Same H H' → H' d = none → E (.ref CP) (some d) (upd H' d (.xd [(("index" : Str), .int (ps.length : Int))]))) ∨
       (xs.length = ps.length ∧ ∀ H', (∀ b o, H b = some o → b ≠ p → H' b = some o) → (∃ r o, H r = none ∧ H o = none ∧ GrAtR C H' p z xs ps r o) → Q .non H'))))
section
variable {P : Program} {w : World} {K : PySem.W.Frag} {mg : Str → Option Value} {base : Heap}
theorem ok_grT (D : DfGr K mg) (A : EX.DfE0 K mg "InvalidAlphabet") (M : EX.DfE P K mg "InvalidProduction" "index" EX.MsgOk) : FnOk P w K mg base (L2.CX P w) 3 D.i.f D.i.fd ["self", "alphabet", "productions"] (spGrT K A.C M.C) := by
  have Ga : FnOk P w K mg base CX0 2 D.al.f D.al.fd ["thing"] (spAlp K) := ok_alp D.al D.as D.ma D.mz D.mi D.ms D.ml D.mm
  have Gp : FnOk P w K mg base CX0 2 D.pd.f D.pd.fd ["alphabet", "thing"] (spPd K) := ok_pd D.pd D.sy D.ma D.mi D.ms D.mt D.ml D.m3
  have Gs : FnOk P w K mg base CX0 2 D.sa.f D.sa.fd ["items"] spSa := ok_sa D.sa D.sy D.mso
  have m16 : ∃ u, mg "MOST_PRODUCTIONS" = some u ∧ RelV (.int 16) u := by
    obtain ⟨t, e⟩ := D.m16
    exact ⟨_, e, t, rfl⟩
  have m6 : ∃ u, mg "MOST_SYMBOLS" = some u ∧ RelV (.int 6) u := by
    obtain ⟨t, e⟩ := D.m6
    exact ⟨_, e, t, rfl⟩
  refine D.i.F.ok scGi (fun vs H Q E h => ?_) (fun cdv A0 outer s H vs Q E hr h => ?_)
  · obtain ⟨p, C, dx, va, vb, rfl, _⟩ := h
    rfl
  · obtain ⟨p, C, dx, va, vb, rfl, hp, hcl, nB, nR, nO, h⟩ := h
    have hr2 : Room 2 _ := hr.mono (by decide)
    refine ⟨_, (pss_cons (ps_if (pt_not (pt_val (pe_call Ga hr2 (by rfl) D.al.g D.al.F.kp D.al.b .nil pass0 (pa_cons (pv 1) pa_nil)))) (pss_one (ps_raise rfl (takes_of rfl rfl rfl rfl) (EX.pmk_err0 A.q A.T (by rfl) A.g))) pss_nil) (pss_cons (ps_if (pt_not (pt_val (pe_callB call_isiT (by rfl) D.mi (by decide +kernel) (pa_cons (pv 2) (pa_cons (pe_tup (pa_cons (pe_bltn (v := V.ty "list") (by rfl) D.mli (by decide +kernel : bootBuiltins "list" = some (.type "list")) rfl) (pa_cons (pe_bltn (v := V.ty "tuple") (by rfl) D.mt (by decide +kernel : bootBuiltins "tuple" = some (.type "tuple")) rfl) pa_nil))) pa_nil))))) (pss_one (ps_raise rfl (takes_of rfl rfl rfl rfl) (EX.pmk_err M.T M.iC M.tI (M.F w base) hr2 M.b (by rfl) M.g pe_non))) pss_nil) (pss_cons (ps_noxG (ps_set (i := 3) scGi.nd rfl (.inl rfl) pe_str)) (pss_cons (ps_for (passes_of rfl) rfl (EN.pi_enT (by rfl) D.me (pa_cons (pv 2) pa_nil)) (pg_tup rfl (pgs_cons (pg_name (i := 4) scGi.nd rfl (.inl rfl)) (pgs_cons (pg_name (i := 5) scGi.nd rfl (.inl rfl)) pgs_nil))) (pss_cons (ps_if (pw_or (pt_cmpR op_ge (pv 4) (C8.pe_gc (by rfl) m16) (nomark _)) (pw_or1 (pt_not (pt_val (pe_call Gp hr2 (by rfl) D.pd.g D.pd.F.kp D.pd.b .nil pass0 (pa_cons (pv 1) (pa_cons (pv 5) pa_nil))))))).pt (pss_one (ps_raise rfl (takes_of rfl rfl rfl rfl) (EX.pmk_err M.T M.iC M.tI (M.F w base) hr2 M.b (by rfl) M.g (pv 4)))) pss_nil) (pss_cons (ps_noxG (ps_aug (i := 3) scGi.nd rfl (.inl rfl) (pe_join pe_str (pv 5)) iop_add_str)) (pss_one (ps_if (pt_cmpR op_gt (pe_callB call_len_seq (by rfl) D.ml PySem.boot_len (pa_cons (pe_call Gs hr2 (by rfl) D.sa.g D.sa.F.kp D.sa.b .nil pass0 (pa_cons (pv 3) pa_nil)) pa_nil)) (C8.pe_gc (by rfl) m6) (nomark _)) (pss_one (ps_raise rfl (takes_of rfl rfl rfl rfl) (EX.pmk_err M.T M.iC M.tI (M.F w base) hr2 M.b (by rfl) M.g (pv 4)))) pss_nil))))) (pss_cons (ps_noxG (ps_fld (pv 0) (pv 1) rfl)) (pss_cons (ps_noxG (ps_fld (pv 0) (pe_callTy call_list_of (by rfl) D.mli (by decide +kernel) (pa_cons (pv 2) pa_nil)) rfl)) (pss_one (ps_noxG (ps_fld (pv 0) (pe_call Gs hr2 (by rfl) D.sa.g D.sa.F.kp D.sa.b .nil pass0 (pa_cons (pv 3) pa_nil)) rfl))))))))), ?_⟩
    rcases h with ⟨ba, k⟩ | ⟨z, rfl, al, h⟩
    · refine ⟨va, rfl, va, rfl, ?_⟩
      cases ba with
      | str l h => exact .inl ⟨_, rfl, l, fun H1 s1 => ⟨_, rfl, by rw [h]; exact iteT (k _ s1)⟩⟩
      | no h => exact .inr ⟨h, fun H1 s1 => ⟨_, rfl, iteT (k _ s1)⟩⟩
    have zl : (tl z).length ≤ 100000 := by
      have := al.2.2.1
      omega
    have az : alphB (tl z) = true := alphB_of al
    refine ⟨.str z, rfl, .str z, rfl, .inl ⟨z, rfl, zl, fun H1 s1 => ⟨_, rfl, ?_⟩⟩⟩
    rw [az]
    refine iteF ?_
    rcases h with ⟨nl, k⟩ | ⟨a, xs, ps, rfl, ha, ⟨p16, pre, six⟩, why⟩
    · refine ⟨vb, rfl, by rw [sizeLine_eq]; decide, fun T0 hT0 => ?_⟩
      have sT := same_upd (o := .tup [V.ty "list", V.ty "tuple"]) hT0
      have sH := s1.trans sT
      obtain ⟨t, ty, kt⟩ := nl
      refine ⟨vb, T0, _, t, [.type "list", .type "tuple"], false, rfl, upd_same, .cons (.ty _) (.cons (.ty _) .nil), tyX_sameG sH ty, kt, false, rfl, iteT ?_⟩
      exact ⟨.inr (.inr rfl), fun d nd => k _ d sH nd⟩
    · have tkl : ∀ i, (chs (ps.take i)).length ≤ 101 * 16 := fun i => by
        have h1 := chs_len (z := z) (ps.take i) fun q hq => by
          obtain ⟨n, hn⟩ := List.mem_iff_getElem?.mp (List.mem_of_mem_take hq)
          have nl := (List.getElem?_eq_some_iff.mp hn).1
          have xl : n < xs.length := by
            have w1 : ps.length ≤ xs.length := by
              rcases why with ⟨y, hy, _⟩ | ⟨l, _⟩
              · exact Nat.le_of_lt (List.getElem?_eq_some_iff.mp hy).1
              · omega
            omega
          obtain ⟨c, y, e, a, _, _, _, l, _⟩ := pre n xs[n] nl (List.getElem?_eq_getElem xl)
          rw [hn] at e
          have e := Option.some.inj e
          rw [e]
          exact l
        have h2 : (ps.take i).length ≤ 16 := by
          rw [List.length_take]
          omega
        omega
      refine ⟨.ref a, rfl, by rw [sizeLine_eq]; decide, fun T0 hT0 => ?_⟩
      have sT := same_upd (o := .tup [V.ty "list", V.ty "tuple"]) hT0
      have sH := s1.trans sT
      refine ⟨.ref a, T0, _, .type "tuple", [.type "list", .type "tuple"], true, rfl, upd_same, .cons (.ty _) (.cons (.ty _) .nil), .base (.tup (sH _ _ ha)), ?_, true, rfl, iteF ?_⟩
      · have k1 : PySem.W.kitOne K (.type "tuple") (.type "list") = some false := kit_ty (by decide +kernel)
        have k2 : PySem.W.kitOne K (.type "tuple") (.type "tuple") = some true := kit_ty (by decide +kernel)
        show PySem.W.kitAny K (.type "tuple") [.type "list", .type "tuple"] = some true
        simp only [PySem.W.kitAny, k1, k2]
      refine ⟨.ref a, rfl, a, xs, rfl, SqT.of (sH _ _ ha), for_it (EN.walk_T (xs := xs)) (fun i σ G => ∃ x y4 y5, σ = [some (.ref p), some (.str z), some (.ref a), some (.str x), y4, y5] ∧ tl x = chs (ps.take i) ∧ Same H G ∧ i ≤ ps.length) ⟨"", _, _, rfl, rfl, sH, Nat.zero_le _⟩ (fun _ _ _ _ ⟨_, _, _, _, _, sm, _⟩ => SqT.of (sm _ _ ha)) ?_ ?_⟩
      · rintro i v0 σ G G' hi ⟨x, y4, y5, rfl, ex, sm, ij⟩ ⟨T, c0, y', rfl, hT, rfl, hc, hy'⟩
        have s2 := sm.trans (same_upd (o := .tup [c0, y']) hT)
        have hc : c0 = .int (i : Int) := (Option.some.inj hc).symm
        subst hc
        refine ⟨T, [.int (i : Int), y'], rfl, SqT.of upd_same, rfl, _, _, rfl, _, _, rfl, rfl, ?_⟩
        have i16 : i ≤ 16 := by omega
        have cas : ((i = 16 ∨ PdB K H z y' false) ∧ ∀ H' d, Same H H' → H' d = none → E (.ref M.C) (some d) (upd H' d (.xd [(("index" : Str), .int (i : Int))]))) ∨
            (i < 16 ∧ ∃ c yy, PdAt K H z y' c yy ∧ ((i < ps.length ∧ ps.take (i + 1) = ps.take i ++ [(c, yy)]) ∨ (6 < nsym (chs (ps.take i ++ [(c, yy)])) ∧ ∀ H' d, Same H H' → H' d = none → E (.ref M.C) (some d) (upd H' d (.xd [(("index" : Str), .int (i : Int))]))))) := by
          by_cases lt : i < ps.length
          · obtain ⟨c, yy, hp', pa⟩ := pre i y' lt hy'
            exact .inr ⟨by omega, c, yy, pa, .inl ⟨lt, by rw [List.take_add_one, hp']; rfl⟩⟩
          · have ei : i = ps.length := by omega
            rcases why with ⟨y, hy, bad, k⟩ | ⟨l, k⟩
            · rw [← ei] at hy k
              have e : y = y' := Option.some.inj (hy.symm.trans hy')
              subst e
              by_cases h16 : i = 16
              · exact .inl ⟨.inl h16, k⟩
              · rcases bad with h | h | ⟨c, yy, pa, h6⟩
                · exact absurd (ei.trans h) h16
                · exact .inl ⟨.inr h, k⟩
                · exact .inr ⟨by omega, c, yy, pa, .inr ⟨by rw [ei, List.take_length]; exact h6, k⟩⟩
            · exact absurd (List.getElem?_eq_some_iff.mp hy').1 (by omega)
        rcases cas with ⟨bad, k⟩ | ⟨lt16, c, yy, pa, cas⟩
        · by_cases h16 : i = 16
          · refine ⟨_, rfl, _, 16, rfl, rfl, _, rfl, ite2 (fun e => ?_) (fun e => absurd (decide_eq_true (by omega)) e)⟩
            exact iteT ⟨_, rfl, .inr (.inl ⟨_, rfl, log_small i16⟩), fun d nd => k _ d s2 nd⟩
          · have pb : PdB K H z y' false := bad.resolve_left h16
            refine ⟨_, rfl, _, 16, rfl, rfl, _, rfl, ite2 (fun e => absurd (of_decide_eq_true e) (by omega)) (fun e => ?_)⟩
            refine ⟨.str z, rfl, y', rfl, z, y', false, rfl, zl, pb.same s2, fun H2 s3 => ⟨_, rfl, iteT ?_⟩⟩
            exact ⟨_, rfl, .inr (.inl ⟨_, rfl, log_small i16⟩), fun d nd => k _ d (s2.trans s3) nd⟩
        · have pb : PdB K H z y' true := by
            obtain ⟨ad, rfl, sq, sc, yl, rb⟩ := pa
            rw [← rb]
            exact .ok sq sc (by omega)
          obtain ⟨ad, rfl, sq, sc, yl, rb⟩ := pa
          refine ⟨_, rfl, _, 16, rfl, rfl, _, rfl, ite2 (fun e => absurd (of_decide_eq_true e) (by omega)) (fun e => ?_)⟩
          refine ⟨.str z, rfl, _, rfl, z, _, true, rfl, zl, pb.same s2, fun H2 s3 => ⟨_, rfl, iteF ?_⟩⟩
          refine ⟨.str x, rfl, ⟨_, rfl⟩, .ref ad, rfl, _, ad, [⟨#[c]⟩, yy], rfl, rfl, .inr (same_tupG (s2.trans s3) _ _ sq), ?_, ?_⟩
          · have yz : yy.length = (tl yy).length := (Array.length_toList).symm
            show 1 + (yy.length + 0) + 2 * 0 ≤ 16777216
            omega
          have xyl : (tl x).length ≤ 101 * 16 := by
            rw [ex]
            exact tkl i
          have xz : x.length = (tl x).length := (Array.length_toList).symm
          have tj : tl (Txt.join "" [⟨#[c]⟩, yy]) = c :: tl yy := by
            rw [tl_cat]
            show c :: (tl yy ++ []) = _
            rw [List.append_nil]
          have jz : (Txt.join "" [⟨#[c]⟩, yy]).length = (tl (Txt.join "" [⟨#[c]⟩, yy])).length := (Array.length_toList).symm
          have tx : tl (x ++ Txt.join "" [⟨#[c]⟩, yy]) = chs (ps.take i ++ [(c, yy)]) := by
            rw [tl_appG, tj, ex, chs_app, chs_one]
          refine ⟨_, _, rfl, rfl, ?_, ?_⟩
          · rw [jz, tj, List.length_cons, sizeLine_eq]
            omega
          dsimp only [List.set]
          have nl : (tl (x ++ Txt.join "" [⟨#[c]⟩, yy])).length ≤ 100000 := by
            rw [tl_appG, tj, List.length_append, List.length_cons]
            omega
          refine ⟨.str _, rfl, _, rfl, nl, fun H4 q ys s4 _ hq nd so mem => ?_⟩
          have yn := nsym_len nd mem
          have s5 := (s2.trans s3).trans s4
          rw [tx] at yn
          have up : i < ps.length → ps.take (i + 1) = ps.take i ++ [(c, yy)] → nsym (chs (ps.take i ++ [(c, yy)])) ≤ 6 := fun lt tk => by
            rw [← tk]
            refine Nat.le_trans (nsym_mono fun d hd => ?_) six
            obtain ⟨pr, hpr, hd⟩ := List.mem_flatMap.mp hd
            exact List.mem_flatMap.mpr ⟨pr, List.mem_of_mem_take hpr, hd⟩
          refine ⟨q, _, rfl, .inl (SqL.of hq), _, 6, rfl, rfl, _, rfl, ite2 (fun e => ?_) (fun e => ?_)⟩
          · have e := of_decide_eq_true e
            rw [List.length_map, yn] at e
            rcases cas with ⟨lt, tk⟩ | ⟨_, k⟩
            · have := up lt tk
              omega
            · exact ⟨_, rfl, .inr (.inl ⟨_, rfl, log_small i16⟩), fun d nd => k _ d s5 nd⟩
          · have e : ¬ (6 : Int) < ((ys.map V.str).length : Int) := fun h => e (decide_eq_true h)
            rw [List.length_map, yn] at e
            rcases cas with ⟨lt, tk⟩ | ⟨h6, k⟩
            · exact ⟨_, _, _, rfl, by rw [tx, tk], s5, lt⟩
            · omega
      · rintro σ G ⟨x, y4, y5, rfl, ex, sm, ij⟩
        rcases why with ⟨y, hy, bad, k⟩ | ⟨l, k⟩
        · exact absurd (List.getElem?_eq_some_iff.mp hy).1 (by omega)
        · have hpG := sm _ _ hp
          refine ⟨.str z, rfl, .ref p, rfl, p, C, dx, [], rfl, hpG, hcl, nB, by decide, ?_⟩
          have npa : a ≠ p := ne_of ha hp (by intro z; cases z)
          refine ⟨.ref a, rfl, a, xs, rfl, .inr (SqT.of ((upd_ne npa).trans (sm _ _ ha))), fun r hr0 => ?_⟩
          have npr : p ≠ r := fun e => by
            rw [← e, upd_same] at hr0
            cases hr0
          refine ⟨.ref p, rfl, p, C, dx, _, rfl, (upd_ne npr).trans upd_same, hcl, nR, (by show 1 < 1000; decide), ?_⟩
          have xl : (tl x).length ≤ 100000 := by
            rw [ex]
            have := tkl xs.length
            omega
          refine ⟨.str x, rfl, x, rfl, xl, fun H' q ys s2 nq0 hq nd so mem => ?_⟩
          have hp2 := s2 _ _ (upd_same : (upd _ p _) p = _)
          refine ⟨.ref p, rfl, p, C, dx, _, rfl, hp2, hcl, nO, (by show 2 < 1000; decide), ?_⟩
          rw [ex, l, List.take_length] at mem
          have nqp : q ≠ p := ne_of hq hp2 (by intro z; cases z)
          have nrp : r ≠ p := fun e => npr e.symm
          have fr : ∀ b, b ≠ p → b ≠ r → G b = none → H b = none := fun b _ _ h => fresh_of sm h
          have hrH : H r = none := by
            rw [upd_ne nrp] at hr0
            exact fresh_of sm hr0
          have hqH : H q = none := by
            have nqr : q ≠ r := fun e => by
              rw [e, upd_ne nrp, upd_same] at nq0
              cases nq0
            rw [upd_ne nqp, upd_ne nqr, upd_ne nqp] at nq0
            exact fresh_of sm nq0
          refine k _ (fun b o hb nb => ?_) ⟨r, q, hrH, hqH, dx, ys, upd_same, (upd_ne nrp).trans (s2 _ _ ((upd_ne nrp).trans upd_same)), (upd_ne nqp).trans hq, nd, so, mem⟩
          have hb2 := sm _ _ hb
          have nbr : b ≠ r := fun e => by
            rw [e] at hb2 nb
            rw [upd_ne nb] at hr0
            rw [hb2] at hr0
            cases hr0
          exact (upd_ne nb).trans (s2 _ _ ((upd_ne nb).trans ((upd_ne nbr).trans ((upd_ne nb).trans hb2))))
end
end DW
/-! class Grammar: its methods -/
namespace DW
open PySem PySem.Spec PyProof.Rows L2 TL
set_option autoImplicit false
abbrev sGrAlphabet : Stmt := clsS 15 1
abbrev sGrProductions : Stmt := clsS 15 2
abbrev sGrSymbols : Stmt := clsS 15 3
abbrev sGrEq : Stmt := clsS 15 4
structure DfGM (K : PySem.W.Frag) (mg : Str → Option Value) extends DfG K mg where
  a : DfM K C "alphabet" "Grammar.alphabet" sGrAlphabet ["self"]
  mta : Meth K C "alphabet" a.f
  p : DfM K C "productions" "Grammar.productions" sGrProductions ["self"]
  mtp : Meth K C "productions" p.f
  s : DfM K C "symbols" "Grammar.symbols" sGrSymbols ["self"]
  mts : Meth K C "symbols" s.f
  q : DfM K C "__eq__" "Grammar.__eq__" sGrEq ["self", "other"]
  mtq : Meth K C "__eq__" q.f
/-- a production in the heap: where, its symbol, its items -/
abbrev En : Type := Addr × Nat × Str
def vE (e : En) : V := .ref e.1
def pE (e : En) : Nat × Str := e.2
def eD (p : Nat × Str) : PyData := .tuple [.str ⟨#[p.1]⟩, .str p.2]
def RE (K : PySem.W.Frag) (H : Hp) (es : List En) : Prop := ∀ e ∈ es, SqT K H e.1 [.str ⟨#[e.2.1]⟩, .str e.2.2]
def GoodE (z : Str) (e : En) : Prop := symB e.2.1 = true ∧ rightB z e.2.2 = true
theorem RE.same {K : PySem.W.Frag} {H H' : Hp} {es : List En} (h : RE K H es) (s : Same H H') : RE K H' es := fun e he => same_tupG s _ _ (h e he)
theorem RE.kp {K : PySem.W.Frag} {H H' : Hp} {es : List En} {t : Addr} (h : RE K H es) (k : Kp t H H') : RE K H' es := fun e he => k.tup (h e he)
theorem RE.sub {K : PySem.W.Frag} {H : Hp} {es fs : List En} (h : RE K H es) (s : ∀ e ∈ fs, e ∈ es) : RE K H fs := fun e he => h e (s e he)
theorem put_tupG {K : PySem.W.Frag} {H : Hp} {W : Addr} {us : List V} {o : HO} (hW : H W = some (.lst us)) (b : Addr) (xs : List V) (g : SqT K H b xs) : SqT K (upd H W o) b xs := by
  rcases g with (g | ⟨o, g⟩) | g
  · exact .inl (.inl ((upd_ne (ne_of g hW (by intro z; cases z))).trans g))
  · exact .inl (.inr ⟨o, (upd_ne (ne_of g hW (by intro z; cases z))).trans g⟩)
  · exact .inr g
theorem RE.put {K : PySem.W.Frag} {H : Hp} {es : List En} {W : Addr} {us : List V} {o : HO} (h : RE K H es) (hW : H W = some (.lst us)) : RE K (upd H W o) es := fun e he => put_tupG hW _ _ (h e he)
theorem RE.dp {K : PySem.W.Frag} {H : Hp} : ∀ {es : List En}, RE K H es → DpAll K H (es.map vE) ((es.map pE).map eD)
  | [], _ => .nil
  | e :: es, h => .cons (.tup (h e List.mem_cons_self) (.cons (.str _) (.cons (.str _) .nil))) (RE.dp fun f hf => h f (List.mem_cons_of_mem _ hf))
theorem eD_eqv (p q : Nat × Str) : PyData.eqv (eD p) (eD q) = decide (p = q) := by
  obtain ⟨c, y⟩ := p
  obtain ⟨d, z⟩ := q
  unfold eD
  simp only [PyData.eqv, PyData.eqvAll]
  rw [Bool.eq_iff_iff]
  simp
theorem es_eqv : ∀ ps qs : List (Nat × Str), PyData.eqvAll (ps.map eD) (qs.map eD) = decide (ps = qs)
  | [], [] => by simp [PyData.eqvAll]
  | [], g :: gs => by simp [PyData.eqvAll]
  | f :: fs, [] => by simp [PyData.eqvAll]
  | f :: fs, g :: gs => by
    simp only [List.map_cons, PyData.eqvAll, eD_eqv, es_eqv fs gs]
    rw [Bool.eq_iff_iff]
    simp
theorem el_eqv (ps qs : List (Nat × Str)) : PyData.eqv (.list (ps.map eD)) (.list (qs.map eD)) = decide (ps = qs) := by
  unfold PyData.eqv
  exact es_eqv ps qs
/-- what a production's characters are -/
def LowP (p : Nat × Str) : Prop := p.1 < 128 ∧ ∀ c ∈ tl p.2, c < 128
theorem GoodE.low {z : Str} {e : En} (al : Alph z) (h : GoodE z e) : LowP e.2 := by
  obtain ⟨h1, h2⟩ := h
  have sy : ∀ c, symB c = true → c < 128 := fun c hc => by
    unfold symB at hc
    rw [Bool.and_eq_true] at hc
    have := of_decide_eq_true hc.2
    omega
  refine ⟨sy _ h1, fun c hc => ?_⟩
  unfold rightB at h2
  rw [Bool.and_eq_true] at h2
  have q := List.all_eq_true.mp h2.2 c hc
  rw [Bool.or_eq_true] at q
  rcases q with q | q
  · exact sy c q
  · have := al.2.2.2 c (of_decide_eq_true q)
    omega
theorem strOk_lowE {y : Str} (h : ∀ c ∈ tl y, c < 128) : PyData.strOk y = true := by
  unfold PyData.strOk
  rw [← Array.all_toList]
  exact List.all_eq_true.mpr fun c hc => decide_eq_true (by have := h c hc; omega)
theorem lay_es : ∀ ps : List (Nat × Str), (∀ p ∈ ps, LowP p) → PyData.canLayAll0 (ps.map eD) = true ∧ PyData.depthAll (ps.map eD) ≤ 1
  | [], _ => ⟨rfl, by simp [PyData.depthAll]⟩
  | p :: ps, h => by
    obtain ⟨h1, h2⟩ := lay_es ps fun g hg => h g (List.mem_cons_of_mem _ hg)
    obtain ⟨hc, hy⟩ := h p List.mem_cons_self
    have s1 : PyData.strOk (⟨#[p.1]⟩ : Str) = true := strOk_lowE fun c m => by
      rw [List.mem_singleton.mp (show c ∈ [p.1] from m)]
      exact hc
    have s2 := strOk_lowE hy
    rw [List.map_cons]
    refine ⟨by simp only [PyData.canLayAll0, eD, PyData.canLay0, s1, s2, h1, Bool.and_self], ?_⟩
    simp only [PyData.depthAll, eD, PyData.depth] at h2 ⊢
    omega
theorem el_shaped {ps : List (Nat × Str)} (h : ∀ p ∈ ps, LowP p) : SeqAt.shaped (.list (ps.map eD)) = true := by
  obtain ⟨h1, h2⟩ := lay_es ps h
  unfold SeqAt.shaped
  rw [Bool.and_eq_true]
  refine ⟨by simp only [PyData.canLay0, h1], decide_eq_true ?_⟩
  simp only [PyData.depth]
  omega
/-- a Grammar and its productions -/
def GrE (K : PySem.W.Frag) (C : Addr) (H : Hp) (p : Addr) (z : Str) (es : List En) : Prop := GrAt C H p z (es.map vE) (es.map pE) ∧ RE K H es
theorem flG_no {m : Str} (z : Str) (r o : Addr) (h1 : m ≠ "occurring") (h2 : m ≠ "rules") (h3 : m ≠ "base") : (flG z r o).lookup m = none := by
  unfold flG
  rw [lookup_putF, if_neg (fun e => h1 e), lookup_putF, if_neg (fun e => h2 e), lookup_putF, if_neg (fun e => h3 e)]
  rfl
theorem flG_base (z : Str) (r o : Addr) : (flG z r o).lookup ("base" : Str) = some (V.str z) := by
  unfold flG
  rw [lookup_putF, if_neg (by decide), lookup_putF, if_neg (by decide), lookup_putF, if_pos rfl]
theorem flG_rules (z : Str) (r o : Addr) : (flG z r o).lookup ("rules" : Str) = some (V.ref r) := by
  unfold flG
  rw [lookup_putF, if_neg (by decide), lookup_putF, if_pos rfl]
theorem flG_occ (z : Str) (r o : Addr) : (flG z r o).lookup ("occurring" : Str) = some (V.ref o) := by
  unfold flG
  rw [lookup_putF, if_pos rfl]
def spGrA (K : PySem.W.Frag) (C : Addr) : Sp := fun vs H Q _ => ∃ (p : Addr) (z : Str) (es : List En), vs = [.ref p] ∧ GrE K C H p z es ∧ Q (.str z) H
def spGrP (K : PySem.W.Frag) (C : Addr) : Sp := fun vs H Q _ => ∃ (p : Addr) (z : Str) (es : List En), vs = [.ref p] ∧ GrE K C H p z es ∧ ∀ H' l, Same H H' → H l = none → H' l = some (.lst (es.map vE)) → Q (.ref l) H'
def spGrS (K : PySem.W.Frag) (C : Addr) : Sp := fun vs H Q _ => ∃ (p : Addr) (z : Str) (es : List En), vs = [.ref p] ∧ GrE K C H p z es ∧ ∀ H' l (ys : List Str), Same H H' → H l = none → H' l = some (.lst (ys.map V.str)) → ys.Nodup → sortedS ys = true → (∀ y, y ∈ ys ↔ ∃ c ∈ chs (es.map pE), symB c = true ∧ y = ⟨#[c]⟩) → Q (.ref l) H'
def spGrQ (K : PySem.W.Frag) (C : Addr) : Sp := fun vs H Q _ => ∃ (p : Addr) (y : V) (z : Str) (es : List En), vs = [.ref p, y] ∧ GrE K C H p z es ∧ (∀ e ∈ es, LowP e.2) ∧
  ((∃ (p' : Addr) (z' : Str) (es' : List En), y = .ref p' ∧ GrE K C H p' z' es' ∧ (∀ e ∈ es', LowP e.2) ∧ Q (.bl (decide (z = z') && decide (es.map pE = es'.map pE))) H) ∨
   (∃ t, TyX K H y t ∧ PySem.W.kitOne K t (.ref C) = some false ∧ Q (.bl false) H))
section
variable {P : Program} {w : World} {K : PySem.W.Frag} {mg : Str → Option Value} {base : Heap}
theorem scGrA : FnScope ["self"] ["self"] (defScope sGrAlphabet) := ⟨rfl, rfl, rfl, by decide +kernel, rfl, by decide +kernel, by decide +kernel⟩
theorem ok_grA (D : DfGM K mg) : FnOk P w K mg base CX0 1 D.a.f D.a.fd ["self"] (spGrA K D.C) := by
  refine D.a.F.ok scGrA (fun vs H Q E h => ?_) (fun cdv A outer s H vs Q E hr h => ?_)
  · obtain ⟨p, z, zs, rfl, _⟩ := h
    rfl
  · obtain ⟨p, z, es, rfl, ⟨⟨r, o, dx, ys, h1, h2, h3, nd, so, mem⟩, re⟩, k⟩ := h
    refine ⟨_, (pss_one (ps_ret (pe_fld (pv 0) rfl))), ?_⟩
    exact ⟨.ref p, rfl, p, D.C, dx, _, _, rfl, h1, D.cl, D.nB, flG_base _ _ _, k⟩
theorem scGrP : FnScope ["self"] ["self"] (defScope sGrProductions) := ⟨rfl, rfl, rfl, by decide +kernel, rfl, by decide +kernel, by decide +kernel⟩
theorem ok_grP (D : DfGM K mg) (ml : mg "list" = none) : FnOk P w K mg base CX0 1 D.p.f D.p.fd ["self"] (spGrP K D.C) := by
  refine D.p.F.ok scGrP (fun vs H Q E h => ?_) (fun cdv A outer s H vs Q E hr h => ?_)
  · obtain ⟨p, z, zs, rfl, _⟩ := h
    rfl
  · obtain ⟨p, z, es, rfl, ⟨⟨r, o, dx, ys, h1, h2, h3, nd, so, mem⟩, re⟩, k⟩ := h
    refine ⟨_, (pss_one (ps_ret (pe_callTy call_list_of (by rfl) ml (by decide +kernel) (pa_cons (pe_fld (pv 0) rfl) pa_nil)))), ?_⟩
    exact ⟨.ref p, rfl, p, D.C, dx, _, _, rfl, h1, D.cl, D.nR, flG_rules _ _ _, r, _, rfl, .inl (SqL.of h2), fun l hl => k _ l (same_upd hl) hl upd_same⟩
theorem scGrS : FnScope ["self"] ["self"] (defScope sGrSymbols) := ⟨rfl, rfl, rfl, by decide +kernel, rfl, by decide +kernel, by decide +kernel⟩
theorem ok_grS (D : DfGM K mg) (ml : mg "list" = none) : FnOk P w K mg base CX0 1 D.s.f D.s.fd ["self"] (spGrS K D.C) := by
  refine D.s.F.ok scGrS (fun vs H Q E h => ?_) (fun cdv A outer s H vs Q E hr h => ?_)
  · obtain ⟨p, z, zs, rfl, _⟩ := h
    rfl
  · obtain ⟨p, z, es, rfl, ⟨⟨r, o, dx, ys, h1, h2, h3, nd, so, mem⟩, re⟩, k⟩ := h
    refine ⟨_, (pss_one (ps_ret (pe_callTy call_list_of (by rfl) ml (by decide +kernel) (pa_cons (pe_fld (pv 0) rfl) pa_nil)))), ?_⟩
    exact ⟨.ref p, rfl, p, D.C, dx, _, _, rfl, h1, D.cl, D.nO, flG_occ _ _ _, o, _, rfl, .inl (SqL.of h3), fun l hl => k _ l ys (same_upd hl) hl upd_same nd so mem⟩
theorem scGrQ : FnScope ["self", "other"] ["self", "other"] (defScope sGrEq) := ⟨rfl, rfl, rfl, by decide +kernel, rfl, by decide +kernel, by decide +kernel⟩
theorem ok_grQ (D : DfGM K mg) (ow : EX.OwnC K D.C) (mi : mg "isinstance" = none) : FnOk P w K mg base CX0 1 D.q.f D.q.fd ["self", "other"] (spGrQ K D.C) := by
  refine D.q.F.ok scGrQ (fun vs H Q E h => ?_) (fun cdv A outer s H vs Q E hr h => ?_)
  · obtain ⟨p, y, z, zs, rfl, _⟩ := h
    rfl
  · obtain ⟨p, y, z, es, rfl, ⟨⟨r, o, dx, ys, h1, h2, h3, _⟩, re⟩, lo, hy⟩ := h
    refine ⟨_, (pss_one (ps_ret (pe_and (pe_callB call_isi (by rfl) mi (by decide +kernel) (pa_cons (pv 1) (pa_cons (pe_glob (v := V.ref D.C) (by rfl) D.g rfl) pa_nil))) (pe_and (pe_cmpR op_eq (pe_fld (pv 0) rfl) (pe_fld (pv 1) rfl) (nomark _)) (pe_one (pe_cmpR (op_eqD hr.units) (pe_fld (pv 0) rfl) (pe_fld (pv 1) rfl) (nomark _))))))), ?_⟩
    rcases hy with ⟨p', z', es', rfl, ⟨⟨r', o', dx', ys', g1, g2, g3, _⟩, re'⟩, lo', k⟩ | ⟨t, ty, ki, k⟩
    · refine ⟨.ref p', rfl, .ref p', .ref D.C, .ref D.C, .ref D.C, true, rfl, .own _, .base (TyOf.ins g1 D.cl ow.ha ow.hn ow.ht ow.hm), ow.me, true, rfl, iteT ?_⟩
      refine ⟨.ref p, rfl, p, D.C, dx, _, _, rfl, h1, D.cl, D.nB, flG_base _ _ _, .ref p', rfl, p', D.C, dx', _, _, rfl, g1, D.cl, D.nB, flG_base _ _ _, rfl, _, rfl, ?_⟩
      have e1 : decide (V.str z = V.str z') = decide (z = z') := by
        rw [Bool.eq_iff_iff, decide_eq_true_eq, decide_eq_true_eq]
        exact ⟨V.str.inj, congrArg V.str⟩
      rw [e1]
      cases ez : decide (z = z') with
      | false =>
        rw [ez, Bool.false_and] at k
        exact iteF k
      | true =>
        rw [ez, Bool.true_and] at k
        refine iteT ⟨.ref p, rfl, p, D.C, dx, _, _, rfl, h1, D.cl, D.nR, flG_rules _ _ _, .ref p', rfl, p', D.C, dx', _, _, rfl, g1, D.cl, D.nR, flG_rules _ _ _, .list ((es.map pE).map eD), .list ((es'.map pE).map eD), .lst (SqL.of h2) re.dp, .lst (SqL.of g2) re'.dp, el_shaped fun q hq => ?_, el_shaped fun q hq => ?_, ?_⟩
        · obtain ⟨e, he, rfl⟩ := List.mem_map.mp hq
          exact lo e he
        · obtain ⟨e, he, rfl⟩ := List.mem_map.mp hq
          exact lo' e he
        rw [el_eqv]
        exact k
    · exact ⟨y, rfl, y, .ref D.C, t, .ref D.C, false, rfl, .own _, ty, ki, false, rfl, iteF k⟩
end
end DW
set_option maxHeartbeats 0
namespace DW
open PySem PySem.Spec PyProof.Rows L2
def mkD (x : Str) (st : Stmt) : He.DefD := ⟨(x, none), x, x, defArgs st, defBody st, defScope st, [], []⟩
def fn : List He.DefD := [mkD "law" sLaw, mkD "is_ascending" sIsAscending, mkD "is_alphabet" sIsAlphabet, mkD "is_symbol" sIsSymbol, mkD "symbols_among" sSymbolsAmong, mkD "is_production" sIsProduction, mkD "symbols_of_next_rank" sSymbolsOfNextRank, mkD "ranks" sRanks, mkD "_law_begin" sBegin, mkD "_law_draw" sDraw, mkD "_law_pick" sPick, mkD "_law_alphabet" sAlpha, mkD "_law_word" sWord, mkD "_law_symbols" sLSymbols, mkD "_law_rules" sLRules, mkD "_law_made" sLMade, mkD "_law_names_of" sLNamesOf, mkD "_law_heights" sLHeights, mkD "_law_chain" sLChain, ⟨("Grammar", some "__init__"), "__init__", "Grammar.__init__", defArgs sGrInit, defBody sGrInit, defScope sGrInit, [], []⟩, ⟨("Grammar", some "alphabet"), "alphabet", "Grammar.alphabet", defArgs sGrAlphabet, defBody sGrAlphabet, defScope sGrAlphabet, [], []⟩, ⟨("Grammar", some "productions"), "productions", "Grammar.productions", defArgs sGrProductions, defBody sGrProductions, defScope sGrProductions, [], []⟩, ⟨("Grammar", some "symbols"), "symbols", "Grammar.symbols", defArgs sGrSymbols, defBody sGrSymbols, defScope sGrSymbols, [], []⟩, ⟨("Grammar", some "__eq__"), "__eq__", "Grammar.__eq__", defArgs sGrEq, defBody sGrEq, defScope sGrEq, [], []⟩]
def fa : List He.Fa := [.glo "law", .glo "is_ascending", .glo "is_alphabet", .glo "is_symbol", .glo "symbols_among", .glo "is_production", .glo "symbols_of_next_rank", .glo "ranks", .glo "_law_begin", .glo "_law_draw", .glo "_law_pick", .glo "_law_alphabet", .glo "_law_word", .glo "_law_symbols", .glo "_law_rules", .glo "_law_made", .glo "_law_names_of", .glo "_law_heights", .glo "_law_chain", .free "all", .free "zip", .free "isinstance", .free "str", .free "len", .free "sorted", .free "tuple", .free "range", .free "set", .free "int", .free "dict", .free "list", .free "repr", .free "enumerate", .int "MOST_LETTERS" 3, .int "MOST_ITEMS" 3, .int "MOST_PRODUCTIONS" 16, .int "MOST_SYMBOLS" 6, .glo "Grammar", .cls "Grammar", .noat "Grammar" "base", .noat "Grammar" "rules", .noat "Grammar" "occurring", .mkr "Grammar", .meth "Grammar" "alphabet", .meth "Grammar" "productions", .meth "Grammar" "symbols", .meth "Grammar" "__eq__", .free "super"]
abbrev R : PySem.W.OpenRow := PySem.W.OpenLaw.row PySem.Challenge.rw_downwords_k69_ranks_of_symbols
def xs : EX.Xs := { ini := [⟨"InvalidProduction", "InvalidProduction.__init__", "index", defArgs (clsS 3 0), defBody (clsS 3 0), defScope (clsS 3 0)⟩], ex := ["InvalidAlphabet"], kit := [], exm := [], own := [], kty := [], ktn := [], nfc := [] }
abbrev hk : PySem.W.Hook := EX.hookX R.prog 4 fa fn xs
def ob (s : PySem.W.SharedT) : EX.AlX := EX.obsXG R.prog 4 fa fn xs (HandSHeadRun.getT s)
theorem ob_eq (s : PySem.W.SharedT) : ob s = hk.obs s.abs := EX.obsXG_eq (HandSHeadRun.getT_eq s)
abbrev names : List Str := ["__name__", "DownwordsError", "InvalidAlphabet", "InvalidProduction", "Grammar", "MOST_LETTERS", "MOST_ITEMS", "MOST_PRODUCTIONS", "MOST_SYMBOLS", "is_ascending", "is_alphabet", "is_symbol", "symbols_among", "is_production", "symbols_of_next_rank", "ranks", "_law_begin", "_law_draw", "_law_pick", "_law_alphabet", "_law_word", "_law_symbols", "_law_rules", "_law_made", "_law_names_of", "_law_heights", "_law_chain"]
theorem run (w : World) : HandSHeadRun.RunEq R (PySem.W.view R.prog [31]) hk ob 4000 names w := by
  intro os
  kernel_rfl
end DW
set_option maxHeartbeats 4000000
/-! k69: the symbols that derive a word, height by height -/
namespace DW
open PySem PySem.Spec PyProof.Rows L2 TL
set_option autoImplicit false
abbrev Fd : Type := List (Nat × Nat)
def keysF (fd : Fd) : List Nat := fd.map (·.1)
def kvL (fd : Fd) : List (Str × Int) := fd.map fun p => (one p.1, (p.2 : Int))
def kvR (fd : Fd) : List (Key × V) := GA.kvT (kvL fd)
theorem kvR_eq (fd : Fd) : kvR fd = fd.map fun p => (Sum.inr (one p.1), V.int (p.2 : Int)) := by
  unfold kvR GA.kvT kvL
  rw [List.map_map]
  rfl
theorem kvR_len (fd : Fd) : (kvR fd).length = fd.length := by
  rw [kvR_eq, List.length_map]
def addK (k : Nat) (fd : Fd) (c : Nat) : Fd := if c ∈ keysF fd then fd else fd ++ [(c, k)]
def stp (k : Nat) (fd : Fd) (cs : List Nat) : Fd := cs.foldl (addK k) fd
def okR (fd : Fd) (y : Str) : Bool := (tl y).all fun c => !symB c || decide (c ∈ keysF fd)
def nxt (ps : List (Nat × Str)) (fd : Fd) : List Nat := (ps.filter fun p => !decide (p.1 ∈ keysF fd) && okR fd p.2).map (·.1)
def FF (ps : List (Nat × Str)) : Nat → Fd
  | 0 => []
  | n + 1 => stp (n + 1) (FF ps n) (nxt ps (FF ps n))
theorem stp_app (k : Nat) (fd : Fd) (a b : List Nat) : stp k fd (a ++ b) = stp k (stp k fd a) b := List.foldl_append
theorem stp_one (k : Nat) (fd : Fd) (c : Nat) : stp k fd [c] = addK k fd c := rfl
theorem addK_keys {k : Nat} {fd : Fd} {c d : Nat} : d ∈ keysF (addK k fd c) ↔ d ∈ keysF fd ∨ d = c := by
  unfold addK
  by_cases h : c ∈ keysF fd
  · rw [if_pos h]
    constructor
    · exact .inl
    · rintro (q | rfl)
      · exact q
      · exact h
  · rw [if_neg h]
    unfold keysF
    rw [List.map_append, List.mem_append]
    constructor
    · rintro (q | q)
      · exact .inl q
      · exact .inr (List.mem_singleton.mp q)
    · rintro (q | rfl)
      · exact .inl q
      · exact .inr List.mem_cons_self
theorem stp_keys {k : Nat} : ∀ {cs : List Nat} {fd : Fd} {d : Nat}, d ∈ keysF (stp k fd cs) ↔ d ∈ keysF fd ∨ d ∈ cs
  | [], fd, d => ⟨.inl, fun h => h.elim id fun q => nomatch q⟩
  | c :: cs, fd, d => by
    show d ∈ keysF (stp k (addK k fd c) cs) ↔ _
    rw [stp_keys, addK_keys, List.mem_cons]
    constructor
    · rintro ((h | h) | h)
      · exact .inl h
      · exact .inr (.inl h)
      · exact .inr (.inr h)
    · rintro (h | h | h)
      · exact .inl (.inl h)
      · exact .inl (.inr h)
      · exact .inr h
theorem addK_nd {k : Nat} {fd : Fd} {c : Nat} (h : (keysF fd).Nodup) : (keysF (addK k fd c)).Nodup := by
  unfold addK
  by_cases q : c ∈ keysF fd
  · rw [if_pos q]
    exact h
  · rw [if_neg q]
    unfold keysF at q ⊢
    rw [List.map_append]
    refine List.nodup_append.mpr ⟨h, List.nodup_cons.mpr ⟨fun h => (nomatch h), List.nodup_nil⟩, fun x hx y hy e => ?_⟩
    rw [e, List.mem_singleton.mp hy] at hx
    exact q hx
theorem stp_nd {k : Nat} : ∀ {cs : List Nat} {fd : Fd}, (keysF fd).Nodup → (keysF (stp k fd cs)).Nodup
  | [], _, h => h
  | c :: cs, fd, h => stp_nd (cs := cs) (addK_nd h)
theorem FF_nd (ps : List (Nat × Str)) : ∀ n, (keysF (FF ps n)).Nodup
  | 0 => List.nodup_nil
  | n + 1 => stp_nd (FF_nd ps n)
theorem nxt_mem {ps : List (Nat × Str)} {fd : Fd} {c : Nat} (h : c ∈ nxt ps fd) : c ∉ keysF fd ∧ ∃ p ∈ ps, p.1 = c := by
  obtain ⟨p, hp, rfl⟩ := List.mem_map.mp h
  obtain ⟨h1, h2⟩ := List.mem_filter.mp hp
  rw [Bool.and_eq_true] at h2
  refine ⟨fun q => ?_, p, h1, rfl⟩
  rw [decide_eq_true q] at h2
  exact absurd h2.1 (by decide)
theorem FF_sub {ps : List (Nat × Str)} {c : Nat} : ∀ {n : Nat}, c ∈ keysF (FF ps n) → ∃ p ∈ ps, p.1 = c
  | 0, h => nomatch h
  | n + 1, h => by
    rcases stp_keys.mp h with q | q
    · exact FF_sub q
    · exact (nxt_mem q).2
theorem stp_len {k : Nat} : ∀ {cs : List Nat} {fd : Fd}, fd.length ≤ (stp k fd cs).length
  | [], _ => Nat.le_refl _
  | c :: cs, fd => by
    refine Nat.le_trans ?_ (stp_len (k := k) (cs := cs) (fd := addK k fd c))
    unfold addK
    split
    · exact Nat.le_refl _
    · rw [List.length_append]
      omega
theorem FF_grow {ps : List (Nat × Str)} {n : Nat} (h : nxt ps (FF ps n) ≠ []) : (FF ps n).length + 1 ≤ (FF ps (n + 1)).length := by
  cases e : nxt ps (FF ps n) with
  | nil => exact absurd e h
  | cons c cs =>
    have hc := (nxt_mem (ps := ps) (fd := FF ps n) (c := c) (by rw [e]; exact List.mem_cons_self)).1
    show _ ≤ (stp (n + 1) (FF ps n) (nxt ps (FF ps n))).length
    rw [e]
    refine Nat.le_trans ?_ (stp_len (k := n + 1) (cs := cs) (fd := addK (n + 1) (FF ps n) c))
    unfold addK
    rw [if_neg hc, List.length_append]
    exact Nat.le_refl _
theorem FF_stop {ps : List (Nat × Str)} {n : Nat} (h : nxt ps (FF ps n) = []) : ∀ m, FF ps (n + m) = FF ps n
  | 0 => rfl
  | m + 1 => by
    show stp (n + m + 1) (FF ps (n + m)) (nxt ps (FF ps (n + m))) = _
    rw [FF_stop h m, h]
    rfl
theorem FF_six {ps : List (Nat × Str)} (six : nsym (chs ps) ≤ 6) (sy : ∀ p ∈ ps, symB p.1 = true) (n : Nat) : (FF ps n).length ≤ 6 := by
  have e : (FF ps n).length = (keysF (FF ps n)).length := (List.length_map _).symm
  rw [e]
  refine Nat.le_trans ?_ six
  refine Nat.le_trans (nodup_lenS _ (((List.range 26).filter fun k => decide (65 + k ∈ chs ps)).map fun k => 65 + k) (FF_nd ps n) fun c hc => ?_) (by rw [List.length_map]; exact Nat.le_refl _)
  obtain ⟨p, hp, rfl⟩ := FF_sub hc
  have s := sy p hp
  unfold symB at s
  rw [Bool.and_eq_true] at s
  have h1 := of_decide_eq_true s.1
  have h2 := of_decide_eq_true s.2
  refine List.mem_map.mpr ⟨p.1 - 65, List.mem_filter.mpr ⟨List.mem_range.mpr (by omega), decide_eq_true ?_⟩, by omega⟩
  rw [show 65 + (p.1 - 65) = p.1 by omega]
  exact List.mem_flatMap.mpr ⟨p, hp, List.mem_cons_self⟩
theorem FF_le {ps : List (Nat × Str)} : ∀ {n : Nat}, (∀ j, j < n → nxt ps (FF ps j) ≠ []) → n ≤ (FF ps n).length
  | 0, _ => Nat.zero_le _
  | n + 1, h => by
    have h1 := FF_le (ps := ps) (n := n) fun j hj => h j (by omega)
    have h2 := FF_grow (h n (by omega))
    omega
/-- where the growing ends -/
theorem FF_end {ps : List (Nat × Str)} (six : nsym (chs ps) ≤ 6) (sy : ∀ p ∈ ps, symB p.1 = true) {n : Nat} (h : ∀ j, j < n → nxt ps (FF ps j) ≠ []) (e : nxt ps (FF ps n) = []) : FF ps n = FF ps 7 := by
  have h1 := FF_le h
  have h2 := FF_six six sy n
  have q := FF_stop e (7 - n)
  rw [show n + (7 - n) = 7 by omega] at q
  exact q.symm
theorem stp_val {k : Nat} {c r : Nat} : ∀ {cs : List Nat} {fd : Fd}, (c, r) ∈ stp k fd cs → (c, r) ∈ fd ∨ r = k
  | [], _, h => .inl h
  | d :: cs, fd, h => by
    rcases stp_val (cs := cs) (fd := addK k fd d) h with q | q
    · unfold addK at q
      split at q
      · exact .inl q
      · rcases List.mem_append.mp q with p | p
        · exact .inl p
        · have := List.mem_singleton.mp p
          exact .inr (Prod.mk.inj this).2
    · exact .inr q
theorem inr_one {a b : Nat} : (Sum.inr (one a) : Key) = Sum.inr (one b) ↔ a = b := ⟨fun h => one_inj (Sum.inr.inj h), fun h => by rw [h]⟩
theorem any_key {fd : Fd} {c : Nat} : ((kvR fd).any fun kv => decide (kv.1 = (Sum.inr (one c) : Key))) = decide (c ∈ keysF fd) := by
  rw [kvR_eq, Bool.eq_iff_iff, List.any_eq_true, decide_eq_true_eq]
  constructor
  · rintro ⟨kv, hkv, e⟩
    obtain ⟨p, hp, rfl⟩ := List.mem_map.mp hkv
    have e := inr_one.mp (of_decide_eq_true e)
    exact List.mem_map.mpr ⟨p, hp, e⟩
  · intro h
    obtain ⟨p, hp, e⟩ := List.mem_map.mp h
    exact ⟨_, List.mem_map.mpr ⟨p, hp, rfl⟩, decide_eq_true (inr_one.mpr e)⟩
theorem put_add {k : Nat} {fd : Fd} {c : Nat} (h : ∀ r, (c, r) ∈ fd → r = k) : putK (kvR fd) (Sum.inr (one c)) (.int (k : Int)) = kvR (addK k fd c) := by
  unfold putK addK
  rw [any_key]
  by_cases q : c ∈ keysF fd
  · rw [if_pos (decide_eq_true q), if_pos q]
    rw [kvR_eq, List.map_map]
    refine List.map_congr_left fun p hp => ?_
    by_cases e : p.1 = c
    · have : p.2 = k := h p.2 (by rw [← e]; exact hp)
      show (if (Sum.inr (one p.1) : Key) = Sum.inr (one c) then ((Sum.inr (one p.1) : Key), V.int (k : Int)) else _) = _
      rw [if_pos (inr_one.mpr e), this]
    · show (if (Sum.inr (one p.1) : Key) = Sum.inr (one c) then ((Sum.inr (one p.1) : Key), V.int (k : Int)) else _) = _
      rw [if_neg (fun z => e (inr_one.mp z))]
  · rw [if_neg (by rw [decide_eq_false q]; decide), if_neg q, kvR_eq, kvR_eq, List.map_append]
    rfl
theorem val_key {fd : Fd} {c : Nat} : (valV (kvR fd) (Sum.inr (one c))).isSome = decide (c ∈ keysF fd) := by
  unfold valV
  rw [Option.isSome_map, ← any_key (fd := fd) (c := c)]
  rw [Bool.eq_iff_iff]
  simp
/-- the rank of a symbol -/
def rkF (fd : Fd) (c : Nat) : Nat := ((fd.find? fun p => decide (p.1 = c)).map (·.2)).getD 0
theorem val_rk {fd : Fd} {c : Nat} (h : c ∈ keysF fd) : valV (kvR fd) (Sum.inr (one c)) = some (.int (rkF fd c : Int)) := by
  induction fd with
  | nil => exact nomatch h
  | cons p fd ih =>
    rw [kvR_eq, List.map_cons]
    by_cases e : p.1 = c
    · rw [valV_pos (inr_one.mpr e)]
      unfold rkF
      rw [List.find?_cons, decide_eq_true e]
      rfl
    · rw [valV_neg (fun z => e (inr_one.mp z))]
      rcases List.mem_cons.mp h with q | q
      · exact absurd q.symm e
      · have := ih q
        rw [kvR_eq] at this
        rw [this]
        unfold rkF
        rw [List.find?_cons, decide_eq_false e]
theorem stp_split {k : Nat} {fd : Fd} : ∀ {cs : List Nat} {g : Fd}, (∀ c ∈ cs, c ∉ keysF fd) → stp k (fd ++ g) cs = fd ++ stp k g cs
  | [], _, _ => rfl
  | c :: cs, g, h => by
    show stp k (addK k (fd ++ g) c) cs = fd ++ stp k (addK k g c) cs
    have e : addK k (fd ++ g) c = fd ++ addK k g c := by
      unfold addK keysF
      by_cases q : c ∈ g.map (·.1)
      · rw [if_pos q, if_pos (by rw [List.map_append]; exact List.mem_append_right _ q)]
      · rw [if_neg q, if_neg (by
          rw [List.map_append, List.mem_append]
          rintro (p | p)
          · exact h c List.mem_cons_self p
          · exact q p), List.append_assoc]
    rw [e]
    exact stp_split fun d hd => h d (List.mem_cons_of_mem _ hd)
theorem merge_nd : ∀ {g fd : Fd}, (keysF (fd ++ g)).Nodup → mergeK (kvR fd) (kvR g) = kvR (fd ++ g)
  | [], fd, _ => by rw [List.append_nil]; rfl
  | p :: g, fd, h => by
    have e1 : kvR (p :: g) = (Sum.inr (one p.1), V.int (p.2 : Int)) :: kvR g := rfl
    have np : p.1 ∉ keysF fd := fun q => by
      unfold keysF at h q
      rw [List.map_append, List.map_cons] at h
      exact (List.nodup_append.mp h).2.2 _ q _ List.mem_cons_self rfl
    have e2 : putK (kvR fd) (Sum.inr (one p.1)) (.int (p.2 : Int)) = kvR (fd ++ [p]) := by
      rw [put_add fun r hr => absurd (List.mem_map.mpr ⟨_, hr, rfl⟩) np]
      unfold addK
      rw [if_neg np]
    rw [e1]
    show mergeK (putK (kvR fd) (Sum.inr (one p.1)) (.int (p.2 : Int))) (kvR g) = _
    rw [e2, merge_nd (by rw [List.append_assoc]; exact h), List.append_assoc]
    rfl
end DW
/-! Grammars made, nothing refused -/
namespace DW
open PySem PySem.Spec PyProof.Rows L2 TL
set_option autoImplicit false
theorem nodup_map_add : ∀ {l : List Nat}, l.Nodup → (l.map fun k => 65 + k).Nodup
  | [], _ => List.nodup_nil
  | a :: r, h => by
    obtain ⟨n, nd⟩ := List.nodup_cons.mp h
    rw [List.map_cons]
    refine List.nodup_cons.mpr ⟨fun m => ?_, nodup_map_add nd⟩
    obtain ⟨k, hk, e⟩ := List.mem_map.mp m
    exact n (by rw [show a = k by omega]; exact hk)
theorem nsym_in {l m : List Nat} (h : ∀ k, k < 26 → 65 + k ∈ l → 65 + k ∈ m) : nsym l ≤ m.length := by
  unfold nsym
  rw [← List.length_map (f := fun k => 65 + k)]
  refine nodup_lenS _ m ?_ fun c hc => ?_
  · exact nodup_map_add (List.nodup_range.sublist List.filter_sublist)
  · obtain ⟨k, hk, rfl⟩ := List.mem_map.mp hc
    obtain ⟨h1, h2⟩ := List.mem_filter.mp hk
    exact h k (List.mem_range.mp h1) (of_decide_eq_true h2)
/-- a list or a tuple -/
def LTG (H : Hp) (a : Addr) (xs : List V) : Prop := H a = some (.lst xs) ∨ H a = some (.tup xs)
/-- the constructor, nothing refused -/
def spGrO (K : PySem.W.Frag) : Sp := fun vs H Q _ => ∃ (p C dx : Addr) (z : Str) (a : Addr) (xs : List V) (ps : List (Nat × Str)), vs = [.ref p, .str z, .ref a] ∧ H p = some (.ins C dx []) ∧ Cls K C ∧ NoAttr K C "base" ∧ NoAttr K C "rules" ∧ NoAttr K C "occurring" ∧ Alph z ∧ LTG H a xs ∧ GrPre K H z xs ps ∧ xs.length = ps.length ∧
  ∀ H', (∀ b o, H b = some o → b ≠ p → H' b = some o) → (∃ r o, H r = none ∧ H o = none ∧ GrAtR C H' p z xs ps r o) → Q .non H'
theorem GrPre.same {K : PySem.W.Frag} {H H' : Hp} {z : Str} {xs : List V} {ps : List (Nat × Str)} (s : Same H H') (h : GrPre K H z xs ps) : GrPre K H' z xs ps := by
  obtain ⟨h1, h2, h3⟩ := h
  refine ⟨h1, fun i v hi hv => ?_, h3⟩
  obtain ⟨c, y, e, p⟩ := h2 i v hi hv
  exact ⟨c, y, e, p.same s⟩
abbrev sE (t : Addr) (c : Nat) (y : Str) : En := (t, c, y)
theorem GrAtR.same {C : Addr} {H H' : Hp} {p : Addr} {z : Str} {xs : List V} {ps : List (Nat × Str)} {r o : Addr} (h : GrAtR C H p z xs ps r o) (s : Same H H') : GrAtR C H' p z xs ps r o := by
  obtain ⟨dx, ys, h1, h2, h3, h⟩ := h
  exact ⟨dx, ys, s _ _ h1, s _ _ h2, s _ _ h3, h⟩
theorem GrAtR.put {C : Addr} {H : Hp} {p : Addr} {z : Str} {xs : List V} {ps : List (Nat × Str)} {r o l : Addr} {ob : HO} (h : GrAtR C H p z xs ps r o) (n1 : p ≠ l) (n2 : r ≠ l) (n3 : o ≠ l) : GrAtR C (upd H l ob) p z xs ps r o := by
  obtain ⟨dx, ys, h1, h2, h3, h⟩ := h
  exact ⟨dx, ys, (upd_ne n1).trans h1, (upd_ne n2).trans h2, (upd_ne n3).trans h3, h⟩
theorem fnOk_orX {P : Program} {w : World} {K : PySem.W.Frag} {mg : Str → Option Value} {base : Heap} {CX : CXT} {k : Nat} {f : Addr} {fd : FuncData} {ps : List Str} {sp sq : Sp} (F : FnOk P w K mg base CX k f fd ps sp) (G : FnOk P w K mg base CX k f fd ps sq) :
    FnOk P w K mg base CX k f fd ps (fun vs H Q E => sp vs H Q E ∨ sq vs H Q E) :=
  ⟨fun vs H Q E h => h.elim (F.len vs H Q E) (G.len vs H Q E), fun A outer s H as us vs Q E hr e0 hb r h => by
    rcases h with h | h
    · exact F.run A outer s H as us vs Q E hr e0 hb r h
    · exact G.run A outer s H as us vs Q E hr e0 hb r h⟩
/-- one promise less: no error is promised -/
theorem fnOk_noE {P : Program} {w : World} {K : PySem.W.Frag} {mg : Str → Option Value} {base : Heap} {k : Nat} {f : Addr} {fd : FuncData} {ps : List Str} {sp sp' : Sp} (F : FnOk P w K mg base (L2.CX P w) k f fd ps sp) (h : ∀ vs H Q E, sp' vs H Q E → sp vs H Q (fun _ _ _ => False)) : FnOk P w K mg base CX0 k f fd ps sp' :=
  ⟨fun vs H Q E q => F.len vs H Q _ (h _ _ _ _ q), fun A outer s H as us vs Q E hr e0 hb r q => codeAny_mono (F.run A outer s H as us vs Q (fun _ _ _ => False) hr e0 hb r (h _ _ _ _ q)) fun r s' hq => by
    cases r with
    | error e =>
      obtain ⟨_, _, _, _, _, _, _, _, _, _, _, _, x⟩ := hq
      exact False.elim x
    | ok fl => cases fl <;> exact hq⟩
section
variable {P : Program} {w : World} {K : PySem.W.Frag} {mg : Str → Option Value} {base : Heap}
theorem ok_grO (L : DfGr K mg) (A : EX.DfE0 K mg "InvalidAlphabet") (M : EX.DfE P K mg "InvalidProduction" "index" EX.MsgOk) : FnOk P w K mg base CX0 3 L.i.f L.i.fd ["self", "alphabet", "productions"] (spGrO K) := by
  refine fnOk_noE (fnOk_orX (ok_gr L A M) (ok_grT L A M)) fun vs H Q E h => ?_
  obtain ⟨p, C, dx, z, a, xs, ps, rfl, hp, h1, h2, h3, h4, al, ha, pre, l, k⟩ := h
  rcases ha with ha | ha
  · exact .inl ⟨p, C, dx, .str z, .ref a, rfl, hp, h1, h2, h3, h4, .inr ⟨z, rfl, al, .inr ⟨a, xs, ps, rfl, ha, pre, .inr ⟨l, k⟩⟩⟩⟩
  · exact .inr ⟨p, C, dx, .str z, .ref a, rfl, hp, h1, h2, h3, h4, .inr ⟨z, rfl, al, .inr ⟨a, xs, ps, rfl, ha, pre, .inr ⟨l, k⟩⟩⟩⟩
end
end DW
/-! ranks -/
namespace DW
open PySem PySem.Spec PyProof.Rows L2 TL
set_option autoImplicit false
theorem u1r {k : Nat} {A : Around} (hr : Room k A) : A.units + 1 < cLine := by
  have := hr.un
  omega
structure DfRk (K : PySem.W.Frag) (mg : Str → Option Value) where
  gr : DfGM K mg
  nr : Df K mg "symbols_of_next_rank" sSymbolsOfNextRank ["grammar", "found"]
  rk : Df K mg "ranks" sRanks ["grammar"]
  sa : Df K mg "symbols_among" sSymbolsAmong ["items"]
  sy : Df K mg "is_symbol" sIsSymbol ["item"]
  ma : mg "all" = none
  mli : mg "list" = none
  mso : mg "sorted" = none
def spNx (K : PySem.W.Frag) (C : Addr) : Sp := fun vs H Q _ => ∃ (g d : Addr) (z : Str) (es : List En) (fd : Fd), vs = [.ref g, .ref d] ∧ GrE K C H g z es ∧ H d = some (.dK (kvR fd)) ∧ es.length ≤ 1000 ∧ (∀ e ∈ es, (tl e.2.2).length ≤ 100) ∧
  ∀ H' l, Same H H' → H' l = some (.lst (((nxt (es.map pE) fd).map one).map V.str)) → Q (.ref l) H'
def spRk (K : PySem.W.Frag) (C : Addr) : Sp := fun vs H Q _ => ∃ (g : Addr) (z : Str) (es : List En), vs = [.ref g] ∧ GrE K C H g z es ∧ es.length ≤ 16 ∧ (∀ e ∈ es, (tl e.2.2).length ≤ 100 ∧ symB e.2.1 = true) ∧ nsym (chs (es.map pE)) ≤ 6 ∧
  ∀ H' r (cs : List Nat), Same H H' → H r = none → H' r = some (.dK (kvR (cs.map fun c => (c, rkF (FF (es.map pE) 7) c)))) → cs.Pairwise (· < ·) → (∀ c, c ∈ cs ↔ c ∈ keysF (FF (es.map pE) 7)) → Q (.ref r) H'
theorem GrE.same {K : PySem.W.Frag} {C : Addr} {H H' : Hp} {p : Addr} {z : Str} {es : List En} (h : GrE K C H p z es) (s : Same H H') : GrE K C H' p z es := by
  obtain ⟨⟨r, o, dx, ys, h1, h2, h3, h4⟩, re⟩ := h
  exact ⟨⟨r, o, dx, ys, s _ _ h1, s _ _ h2, s _ _ h3, h4⟩, re.same s⟩
section
variable {P : Program} {w : World} {K : PySem.W.Frag} {mg : Str → Option Value} {base : Heap}
theorem scNx : FnScope ["grammar", "found", "following", "symbol", "items", "used"] ["grammar", "found"] (defScope sSymbolsOfNextRank) := ⟨rfl, rfl, rfl, by decide +kernel, rfl, by decide +kernel, by decide +kernel⟩
theorem ok_nx (D : DfRk K mg) : FnOk P w K mg base CX0 3 D.nr.f D.nr.fd ["grammar", "found"] (spNx K D.gr.C) := by
  have Gs : FnOk P w K mg base CX0 2 D.sa.f D.sa.fd ["items"] spSa := ok_sa D.sa D.sy D.mso
  have GP : FnOk P w K mg base CX0 1 D.gr.p.f D.gr.p.fd ["self"] (spGrP K D.gr.C) := ok_grP D.gr D.mli
  refine D.nr.F.ok scNx (fun vs H Q E h => ?_) (fun cdv A outer s H vs Q E hr h => ?_)
  · obtain ⟨g, d, z, es, fd, rfl, _⟩ := h
    rfl
  · obtain ⟨g, d, z, es, fd, rfl, gr, gd, el, yl, k⟩ := h
    have hr1 : Room 1 _ := hr.mono (by decide)
    have hr2 : Room 2 _ := hr
    refine ⟨_, PSs.nox (pss_cons (ps_set (i := 2) scNx.nd rfl (.inl rfl) (pe_lst pa_nil)) (pss_cons (ps_for PassesOwn.never rfl (pi_list (pe_meth0 (pv 0) D.gr.cl D.gr.mtp GP hr1 D.gr.p.b .nil pass0)) (pg_tup rfl (pgs_cons (pg_name (i := 3) scNx.nd rfl (.inl rfl)) (pgs_cons (pg_name (i := 4) scNx.nd rfl (.inl rfl)) pgs_nil))) (pss_one (ps_if (pw_and (pt_cmp (pc_dnotin (u1r hr) (pv 3) (pv 1))) (pw_and1 (pt_val (pe_callB (cr_all rfl) (by rfl) D.ma (by decide +kernel) (pa_cons (pe_lc (own := [("used", 5)]) (g := gName 5) rfl scNx.nd (pi_list (pe_call Gs hr2 (by rfl) D.sa.g D.sa.F.kp D.sa.b .nil pass0 (pa_cons (pv 4) pa_nil))) (blkOk_by (N := ["grammar", "found", "following", "symbol", "items", "used"]) (sc := defScope sSymbolsOfNextRank) (by decide +kernel)) (fun _ _ _ _ _ => pg_name (i := 5) scNx.nd rfl (Or.inl rfl)) (fun _ _ _ _ _ => pts_nil) (fun _ _ _ _ _ => (pe_cmp (pc_din (u1r hr) (pv 5) (pv 1))))) pa_nil))))).pt (pss_one (ps_expr (pe_bm PySem.F.plainAttrs_list PySem.F.slot_list_append PySem.F.type_list_append mt_append (pv 2) (pa_cons (pv 3) pa_nil)))) pss_nil))) (pss_one (ps_ret (pv 2))))), ?_⟩
    refine ⟨by show 0 ≤ sizeLine; decide, fun W hW => ?_⟩
    dsimp only [gName, List.set]
    have sW := same_upd (o := .lst []) hW
    have gW : (upd H W (.lst [])) W = some (.lst []) := upd_same
    generalize upd H W (.lst []) = H1 at sW gW ⊢
    obtain ⟨⟨r, o, dx, ys, hx, _⟩, _⟩ := id (gr.same sW)
    refine ⟨.ref g, rfl, g, dx, _, rfl, hx, flG_no _ _ _ (by decide) (by decide) (by decide), g, z, es, rfl, gr.same sW, fun H2 l s2 nl gl => ?_⟩
    have nWl : l ≠ W := (ne_of_none gW nl).symm
    have gW2 := s2 _ _ gW
    have re := gr.2
    refine ⟨l, rfl, ⟨_, SqL.of gl⟩, for_it (walk_list (xs := es.map vE)) (fun i σ G => ∃ (y3 y4 y5 : Option V), σ = [some (.ref g), some (.ref d), some (.ref W), y3, y4, y5] ∧ G W = some (.lst (((nxt ((es.take i).map pE) fd).map one).map V.str)) ∧ G l = some (.lst (es.map vE)) ∧ Same H G) ⟨_, _, _, rfl, gW2, gl, sW.trans s2⟩ (fun _ _ _ _ ⟨_, _, _, _, _, g, _⟩ => SqL.of g) ?_ ?_⟩
    · rintro i x σ G1 G2 hi ⟨y3, y4, y5, rfl, gW3, gl3, sm⟩ ⟨rfl, hx0⟩
      rw [List.length_map] at hi
      rw [List.getElem?_map, List.getElem?_eq_getElem hi] at hx0
      have hx0 : V.ref es[i].1 = x := Option.some.inj hx0
      subst hx0
      have me : es[i] ∈ es := List.getElem_mem hi
      have yb := yl _ me
      refine ⟨es[i].1, _, rfl, same_tupG sm _ _ (re _ me), rfl, _, _, rfl, _, _, rfl, rfl, ?_⟩
      dsimp only [gName, List.set]
      have gd3 := sm _ _ gd
      have tk : es.take (i + 1) = es.take i ++ [es[i]] := by rw [List.take_add_one, List.getElem?_eq_getElem hi]; rfl
      have nx1 : nxt ((es.take (i + 1)).map pE) fd = nxt ((es.take i).map pE) fd ++ nxt [pE es[i]] fd := by
        unfold nxt
        rw [tk, List.map_append, List.filter_append, List.map_append]
        rfl
      have nx2 : nxt [pE es[i]] fd = if (!decide (es[i].2.1 ∈ keysF fd) && okR fd es[i].2.2) = true then [es[i].2.1] else [] := by
        unfold nxt
        rw [List.filter_cons]
        by_cases q : (!decide (es[i].2.1 ∈ keysF fd) && okR fd es[i].2.2) = true
        · rw [if_pos q, if_pos (show (!decide ((pE es[i]).1 ∈ keysF fd) && okR fd (pE es[i]).2) = true from q)]
          rfl
        · rw [if_neg q, if_neg (show ¬ (!decide ((pE es[i]).1 ∈ keysF fd) && okR fd (pE es[i]).2) = true from q)]
          rfl
      have nlen : (nxt ((es.take i).map pE) fd).length ≤ 1000 := by
        unfold nxt
        rw [List.length_map]
        refine Nat.le_trans (List.length_filter_le _ _) ?_
        rw [List.length_map, List.length_take]
        omega
      refine ⟨_, rfl, _, rfl, d, _, rfl, DGet.k (k := Sum.inr (one es[i].2.1)) gd3, ?_⟩
      rw [val_key]
      refine ⟨_, rfl, ?_⟩
      cases c1 : decide (es[i].2.1 ∈ keysF fd) with
      | true =>
        rw [c1] at nx2
        refine iteF ⟨_, _, _, rfl, ?_, gl3, sm⟩
        rw [nx1, nx2, if_neg (by simp), List.append_nil]
        exact gW3
      | false =>
        rw [c1] at nx2
        refine iteT ?_
        refine ⟨.str es[i].2.2, rfl, es[i].2.2, rfl, by omega, fun G3 q ys s3 nq hq nd so mem => ?_⟩
        obtain ⟨cs, rfl, _⟩ := sorted_ones ys (fun y hy => by
          obtain ⟨c, _, _, e⟩ := (mem y).mp hy
          exact ⟨c, e⟩) nd so
        have gd4 := s3 _ _ gd3
        have cl : cs.length ≤ 26 := by
          have := nodup_lenS (cs.map one) syms nd fun y hy => by
            obtain ⟨c, _, h2, e⟩ := (mem y).mp hy
            rw [e]
            exact syms_all h2
          rw [List.length_map] at this
          exact this
        refine ⟨q, rfl, ⟨_, SqL.of hq⟩, fun B hB => ?_⟩
        have nBq : q ≠ B := ne_of_none hq hB
        refine lc_it (walk_list (xs := (cs.map one).map V.str)) (fun j G => G B = some (.lst (((cs.take j).map fun c => decide (c ∈ keysF fd)).map V.bl)) ∧ Same G3 G) ⟨upd_same, same_upd hB⟩ (fun _ _ _ ⟨_, sm⟩ => SqL.of (sm _ _ hq)) ?_ ?_
        · rintro j x F1 F2 hj ⟨gB, sB⟩ ⟨rfl, hxx⟩
          rw [List.length_map, List.length_map] at hj
          rw [List.getElem?_map, List.getElem?_map, List.getElem?_eq_getElem hj] at hxx
          have hxx : V.str (one cs[j]) = x := Option.some.inj hxx
          subst hxx
          have tkc : cs.take (j + 1) = cs.take j ++ [cs[j]] := by rw [List.take_add_one, List.getElem?_eq_getElem hj]; rfl
          refine ⟨rfl, yes ⟨_, rfl, _, rfl, d, _, rfl, DGet.k (k := Sum.inr (one cs[j])) (sB _ _ gd4), _, gB, ?_, ?_, fun b o e => (upd_ne (ne_of_none e hB)).trans (sB _ _ e)⟩⟩
          · rw [List.length_map, List.length_map, List.length_take, sizeLine_eq]
            omega
          · rw [upd_same, tkc, List.map_append, List.map_append, val_key]
            rfl
        rintro F1 ⟨gB, sB⟩
        rw [List.length_map, List.length_map, List.take_length] at gB
        refine ⟨B, cs.map fun c => decide (c ∈ keysF fd), rfl, SqL.of gB, ?_⟩
        have eb : (cs.map fun c => decide (c ∈ keysF fd)).all id = okR fd es[i].2.2 := by
          unfold okR
          rw [Bool.eq_iff_iff, List.all_eq_true, List.all_eq_true]
          constructor
          · intro h c hc
            cases sc : symB c with
            | false => rfl
            | true =>
              have m1 := (mem (one c)).mpr ⟨c, hc, sc, rfl⟩
              obtain ⟨c', hc', e⟩ := List.mem_map.mp m1
              rw [← one_inj e]
              exact h _ (List.mem_map.mpr ⟨c', hc', rfl⟩)
          · intro h b hb
            obtain ⟨c, hc, rfl⟩ := List.mem_map.mp hb
            obtain ⟨c', h1, h2, e⟩ := (mem (one c)).mp (List.mem_map.mpr ⟨c, hc, rfl⟩)
            have q := h c' h1
            rw [h2] at q
            rw [one_inj e]
            exact q
        rw [eb]
        refine ⟨_, rfl, ?_⟩
        have sm4 := (sm.trans s3).trans sB
        have gW4 := sB _ _ (s3 _ _ gW3)
        have gl4 := sB _ _ (s3 _ _ gl3)
        cases c2 : okR fd es[i].2.2 with
        | false =>
          rw [c2] at nx2
          refine iteF ⟨_, _, _, rfl, ?_, gl4, sm4⟩
          rw [nx1, nx2, if_neg (by decide), List.append_nil]
          exact gW4
        | true =>
          rw [c2] at nx2
          refine iteT ⟨.ref W, rfl, .inl ⟨rfl, _, SqL.of gW4⟩, _, rfl, W, _, _, rfl, rfl, gW4, by rw [List.length_map, List.length_map, sizeLine_eq]; omega, _, _, _, rfl, ?_, (upd_ne nWl).trans gl4, fun b o h => (upd_ne (ne_of_none h hW)).trans (sm4 b o h)⟩
          rw [upd_same, nx1, nx2, if_pos (by decide), List.map_append, List.map_append]
          rfl
    · rintro σ G ⟨y3, y4, y5, rfl, gW3, gl3, sm⟩
      rw [List.length_map, List.take_length] at gW3
      exact ⟨.ref W, rfl, k _ W sm gW3⟩
end
end DW
/-! ranks -/
namespace DW
open PySem PySem.Spec PyProof.Rows L2 TL
set_option autoImplicit false
theorem dc_it {J : It} {n : Nat} {G : Hp → Prop} {Y : Nat → Hp → V → Hp → Prop} (w : Walk J n G Y) {g : TG} {tt : TT} {tk tv : TE} {vs : List Nat} {σ : L2.St} {H1 : Hp} {D : Addr} {Qd : Hp → Prop} (Pv : Nat → Hp → Prop) (h0 : Pv 0 (upd H1 D (.dK []))) (hG : ∀ i H, i ≤ n → Pv i H → G H)
    (hs : ∀ i x H H', i < n → Pv i H → Y i H x H' → g x (wipe σ vs) H' fun σ2 H2 => wipe σ2 vs = wipe σ vs ∧ tt σ2 H2 fun b H3 =>
      if b = true then tk σ2 H3 fun y H4 => tv σ2 H4 fun z H5 => ∃ kvs k, y = kV k ∧ H5 D = some (.dK kvs) ∧ kvs.length < sizeLine ∧ Pv (i + 1) (upd H5 D (.dK (putK kvs k z))) else Pv (i + 1) H3) (hd : ∀ H, Pv n H → Qd H) :
    ∃ W : Nat → Nat → Hp → Prop, (∃ m, W 0 m (upd H1 D (.dK []))) ∧ ∀ i m H, W i m H →
      (J.stop i H ∧ Qd H) ∨ (J.go i H ∧ ∃ Nx : Hp → Prop, (∀ H', Nx H' → ∃ m', m' < m ∧ W (i + 1) m' H') ∧ ∀ x H', J.yld i H x H' → g x (wipe σ vs) H' fun σ2 H2 => wipe σ2 vs = wipe σ vs ∧ tt σ2 H2 fun b H3 =>
        if b = true then tk σ2 H3 fun y H4 => tv σ2 H4 fun z H5 => ∃ kvs k, y = kV k ∧ H5 D = some (.dK kvs) ∧ kvs.length < sizeLine ∧ Nx (upd H5 D (.dK (putK kvs k z))) else Nx H3) := by
  refine ⟨fun i m H => m = n - i ∧ i ≤ n ∧ Pv i H, ⟨n, by simp, Nat.zero_le _, h0⟩, ?_⟩
  rintro i m H ⟨rfl, hi, p⟩
  have q := hG i H hi p
  by_cases hlt : i < n
  · refine .inr ⟨w.goes i H hlt q, Pv (i + 1), fun H' p' => ⟨n - (i + 1), by omega, rfl, hlt, p'⟩, fun x H' y => hs i x H H' hlt p (w.yields i H x H' hlt q y)⟩
  · have e : i = n := by omega
    subst e
    exact .inl ⟨w.stops H q, hd H p⟩
theorem nodup_onesR : ∀ {l : List Nat}, l.Nodup → (l.map one).Nodup
  | [], _ => List.nodup_nil
  | a :: r, h => by
    obtain ⟨n, nd⟩ := List.nodup_cons.mp h
    rw [List.map_cons]
    refine List.nodup_cons.mpr ⟨fun m => ?_, nodup_onesR nd⟩
    obtain ⟨k, hk, e⟩ := List.mem_map.mp m
    exact n (by rw [← one_inj e]; exact hk)
theorem mem_onesR {l : List Nat} {c : Nat} : one c ∈ l.map one ↔ c ∈ l := by
  constructor
  · intro h
    obtain ⟨d, hd, e⟩ := List.mem_map.mp h
    rw [← one_inj e]
    exact hd
  · exact fun h => List.mem_map.mpr ⟨c, h, rfl⟩
section
variable {P : Program} {w : World} {K : PySem.W.Frag} {mg : Str → Option Value} {base : Heap}
theorem scRk : FnScope ["grammar", "found", "rank", "following", "symbol"] ["grammar"] (defScope sRanks) := ⟨rfl, rfl, rfl, by decide +kernel, rfl, by decide +kernel, by decide +kernel⟩
theorem ok_rk (D : DfRk K mg) : FnOk P w K mg base CX0 4 D.rk.f D.rk.fd ["grammar"] (spRk K D.gr.C) := by
  have Gn : FnOk P w K mg base CX0 3 D.nr.f D.nr.fd ["grammar", "found"] (spNx K D.gr.C) := ok_nx D
  refine D.rk.F.ok scRk (fun vs H Q E h => ?_) (fun cdv A outer s H vs Q E hr h => ?_)
  · obtain ⟨g, z, es, rfl, _⟩ := h
    rfl
  · obtain ⟨g, z, es, rfl, gr, el, yl, six, k⟩ := h
    have hr3 : Room 3 _ := hr
    refine ⟨_, PSs.nox (pss_cons (ps_set (i := 1) scRk.nd rfl (.inr rfl) pe_dnewK) (pss_cons (ps_set (i := 2) scRk.nd rfl (.inl rfl) pe_int) (pss_cons (ps_set (i := 3) scRk.nd rfl (.inl rfl) (pe_call Gn hr3 (by rfl) D.nr.g D.nr.F.kp D.nr.b .nil pass0 (pa_cons (pv 0) (pa_cons (pv 1) pa_nil)))) (pss_cons (ps_while PassesOwn.never (pt_truth (pv 3) (by intro _; rfl)) (pss_cons (ps_for PassesOwn.never rfl (pi_list (pv 3)) (pg_name (i := 4) scRk.nd rfl (.inl rfl)) (pss_one (ps_dput (u1r hr) (pv 1) (pv 4) (pv 2) rfl))) (pss_cons (ps_aug (i := 2) scRk.nd rfl (.inl rfl) pe_int ip_add) (pss_one (ps_set (i := 3) scRk.nd rfl (.inl rfl) (pe_call Gn hr3 (by rfl) D.nr.g D.nr.F.kp D.nr.b .nil pass0 (pa_cons (pv 0) (pa_cons (pv 1) pa_nil)))))))) (pss_one (ps_ret (pe_dc (own := [("symbol", 4)]) (g := gName 4) rfl scRk.nd (pi_list (pe_callB (call_sortedD rfl) (by rfl) D.mso (by decide +kernel) (pa_cons (pv 1) pa_nil))) (blkOk_by (N := ["grammar", "found", "rank", "following", "symbol"]) (sc := defScope sRanks) (by decide +kernel)) (fun _ _ _ _ _ => pg_name (i := 4) scRk.nd rfl (Or.inl rfl)) (fun _ _ _ _ _ => pts_nil) (fun _ _ _ _ _ => (pv 4)) (fun _ _ _ _ _ => (pe_dget (u1r hr) (pv 1) (pv 4) (fun _ _ => rfl)))))))))), ?_⟩
    refine fun W hW => ?_
    dsimp only [List.set]
    have sW := same_upd (o := .dK []) hW
    have gW : (upd H W (.dK [])) W = some (.dK (kvR [])) := upd_same
    generalize upd H W (.dK []) = H1 at sW gW ⊢
    have sy : ∀ p ∈ es.map pE, symB p.1 = true := fun p hp => by
      obtain ⟨e, he, rfl⟩ := List.mem_map.mp hp
      exact (yl e he).2
    refine ⟨.ref g, rfl, .ref W, rfl, g, W, z, es, [], rfl, gr.same sW, gW, by omega, fun e he => (yl e he).1, fun H2 l s2 gl => ?_⟩
    have gW2 := s2 _ _ gW
    refine ⟨fun m σ G => ∃ (n : Nat) (fl : Addr) (y4 : Option V), m + n = 7 ∧ (∀ j, j < n → nxt (es.map pE) (FF (es.map pE) j) ≠ []) ∧ σ = [some (.ref g), some (.ref W), some (.int ((n : Int) + 1)), some (.ref fl), y4] ∧ G W = some (.dK (kvR (FF (es.map pE) n))) ∧ G fl = some (.lst (((nxt (es.map pE) (FF (es.map pE) n)).map one).map V.str)) ∧ Same H G, ⟨7, 0, l, _, rfl, fun j hj => absurd hj (Nat.not_lt_zero _), rfl, gW2, gl, sW.trans s2⟩, ?_⟩
    rintro m σ G ⟨n, fl, y4, mn, ne, rfl, gW, gfl, sm⟩
    have n6 : (FF (es.map pE) n).length ≤ 6 := FF_six six sy n
    have nn := FF_le ne
    refine ⟨.ref fl, rfl, _, .inl ⟨_, SqL.of gfl, rfl⟩, ?_⟩
    cases en : nxt (es.map pE) (FF (es.map pE) n) with
    | nil =>
      refine iteF ?_
      have e7 := FF_end six sy ne en
      have kl : (keysF (FF (es.map pE) n)).length ≤ 6 := by
        unfold keysF
        rw [List.length_map]
        exact n6
      have knd := FF_nd (es.map pE) n
      rw [e7] at gW kl knd
      generalize FF (es.map pE) 7 = fd at gW kl knd k
      refine ⟨.ref W, rfl, W, _, (keysF fd).map one, rfl, .inl gW, ?_, by rw [List.length_map]; omega, fun ys p pm so hp => ?_⟩
      · rw [kvR_eq, List.map_map, List.map_map]
        unfold keysF
        rw [List.map_map]
        rfl
      obtain ⟨cs, rfl, pw⟩ := sorted_ones ys (fun y hy => by
        obtain ⟨c, _, e⟩ := List.mem_map.mp (pm.mem_iff.mp hy)
        exact ⟨c, e.symm⟩) (pm.nodup_iff.mpr (nodup_onesR knd)) so
      have csm : ∀ c, c ∈ cs ↔ c ∈ keysF fd := fun c => by
        rw [← mem_onesR (l := cs), ← mem_onesR (l := keysF fd), pm.mem_iff]
      have sp := same_upd (o := .lst ((cs.map one).map V.str)) hp
      have smp := sm.trans sp
      have gWp := sp _ _ gW
      have gp : (upd G p (.lst ((cs.map one).map V.str))) p = some (.lst ((cs.map one).map V.str)) := upd_same
      generalize upd G p (.lst ((cs.map one).map V.str)) = G1 at smp gWp gp ⊢
      refine ⟨p, rfl, ⟨_, SqL.of gp⟩, fun Dd hDd => ?_⟩
      have csl : cs.length ≤ 6 := by
        have := pm.length_eq
        rw [List.length_map, List.length_map] at this
        omega
      refine dc_it (walk_list (xs := (cs.map one).map V.str)) (fun j F => F Dd = some (.dK (kvR ((cs.take j).map fun c => (c, rkF fd c)))) ∧ Same G1 F) ⟨upd_same, same_upd hDd⟩ (fun _ _ _ ⟨_, sm⟩ => SqL.of (sm _ _ gp)) ?_ ?_
      · rintro j x F1 F2 hj ⟨gD, sD⟩ ⟨rfl, hx⟩
        rw [List.length_map, List.length_map] at hj
        rw [List.getElem?_map, List.getElem?_map, List.getElem?_eq_getElem hj] at hx
        have hx : V.str (one cs[j]) = x := Option.some.inj hx
        subst hx
        have mk : cs[j] ∈ keysF fd := (csm _).mp (List.getElem_mem hj)
        have tk : cs.take (j + 1) = cs.take j ++ [cs[j]] := by rw [List.take_add_one, List.getElem?_eq_getElem hj]; rfl
        have ni : cs[j] ∉ cs.take j := fun h => by
          obtain ⟨i, hi⟩ := List.mem_iff_getElem?.mp h
          rw [List.getElem?_take] at hi
          split at hi
          · rename_i lt
            obtain ⟨hi1, hi2⟩ := List.getElem?_eq_some_iff.mp hi
            have := List.pairwise_iff_getElem.mp pw i j hi1 hj lt
            omega
          · cases hi
        refine ⟨rfl, yes ⟨_, rfl, _, rfl, _, rfl, W, .int (rkF fd cs[j] : Int), rfl, ?_, _, Sum.inr (one cs[j]), rfl, gD, ?_, ?_, fun b o e => (upd_ne (ne_of_none e hDd)).trans (sD _ _ e)⟩⟩
        · have q := DGet.k (k := Sum.inr (one cs[j])) (sD _ _ gWp)
          rw [val_rk mk] at q
          exact q
        · rw [kvR_len, List.length_map, List.length_take, sizeLine_eq]
          omega
        · rw [upd_same, put_add (k := rkF fd cs[j]), addK, if_neg, tk, List.map_append]
          · rfl
          · unfold keysF
            rw [List.map_map]
            intro h
            obtain ⟨c, hc, e⟩ := List.mem_map.mp h
            exact ni (by rw [← show c = cs[j] from e]; exact hc)
          · intro r hr
            obtain ⟨c, hc, e⟩ := List.mem_map.mp hr
            obtain ⟨rfl, rfl⟩ := Prod.mk.inj e
            rfl
      rintro F ⟨gD, sD⟩
      rw [List.length_map, List.length_map, List.take_length] at gD
      exact k F Dd cs (smp.trans sD) (fresh_of smp hDd) gD pw csm
    | cons c0 r0 =>
      have ne' : nxt (es.map pE) (FF (es.map pE) n) ≠ [] := by rw [en]; exact List.cons_ne_nil _ _
      have g1 := FF_grow ne'
      have g2 := FF_six six sy (n + 1)
      refine iteT ?_
      clear en
      have nxn : ∀ c ∈ nxt (es.map pE) (FF (es.map pE) n), c ∉ keysF (FF (es.map pE) n) := fun c hc => (nxt_mem hc).1
      have ffs : FF (es.map pE) (n + 1) = stp (n + 1) (FF (es.map pE) n) (nxt (es.map pE) (FF (es.map pE) n)) := rfl
      have nx16 : (nxt (es.map pE) (FF (es.map pE) n)).length ≤ 16 := by
        unfold nxt
        rw [List.length_map]
        refine Nat.le_trans (List.length_filter_le _ _) ?_
        rw [List.length_map]
        exact el
      refine ⟨fun σ G => ∃ (fl : Addr) (y4 : Option V), σ = [some (.ref g), some (.ref W), some (.int (((n + 1 : Nat) : Int) + 1)), some (.ref fl), y4] ∧ G W = some (.dK (kvR (FF (es.map pE) (n + 1)))) ∧ G fl = some (.lst (((nxt (es.map pE) (FF (es.map pE) (n + 1))).map one).map V.str)) ∧ Same H G, ?_, ?_⟩
      · rintro σ' H' ⟨fl', y4', h1, h2, h3, h4⟩
        refine ⟨7 - (n + 1), by omega, n + 1, fl', y4', by omega, fun j hj => ?_, h1, h2, h3, h4⟩
        by_cases e : j = n
        · rw [e]
          exact ne'
        · exact ne j (by omega)
      generalize hfd : FF (es.map pE) n = fd at gW gfl nxn ffs nx16 ⊢
      generalize hcs : nxt (es.map pE) fd = cs at gfl nxn ffs nx16 ⊢
      refine ⟨.ref fl, rfl, fl, rfl, ⟨_, SqL.of gfl⟩, for_it (walk_list (xs := (cs.map one).map V.str)) (fun j σ F => ∃ y4, σ = [some (.ref g), some (.ref W), some (.int ((n : Int) + 1)), some (.ref fl), y4] ∧ F W = some (.dK (kvR (stp (n + 1) fd (cs.take j)))) ∧ F fl = some (.lst ((cs.map one).map V.str)) ∧ Same H F) ⟨_, rfl, gW, gfl, sm⟩ (fun _ _ _ _ ⟨_, _, _, g, _⟩ => SqL.of g) ?_ ?_⟩
      · rintro j x σ F1 F2 hj ⟨y4, rfl, gW, gfl, sm⟩ ⟨rfl, hx⟩
        rw [List.length_map, List.length_map] at hj
        rw [List.getElem?_map, List.getElem?_map, List.getElem?_eq_getElem hj] at hx
        have hx : V.str (one cs[j]) = x := Option.some.inj hx
        subst hx
        have tk : cs.take (j + 1) = cs.take j ++ [cs[j]] := by rw [List.take_add_one, List.getElem?_eq_getElem hj]; rfl
        dsimp only [gName, List.set]
        have nWf : fl ≠ W := ne_of gfl gW (by intro z; cases z)
        refine ⟨_, rfl, _, rfl, _, rfl, W, _, rfl, DPut.k (k := Sum.inr (one cs[j])) gW ?_, ?_⟩
        · rw [kvR_len, sizeLine_eq]
          have q : (stp (n + 1) fd (cs.take j)).length ≤ (stp (n + 1) fd (cs.take j ++ cs.drop j)).length := by
            rw [stp_app]
            exact stp_len
          rw [List.take_append_drop, ← ffs] at q
          omega
        refine ⟨_, rfl, ?_, (upd_ne nWf).trans gfl, fun b o h => (upd_ne (ne_of_none h hW)).trans (sm b o h)⟩
        rw [upd_same, tk, stp_app, stp_one]
        rw [show ((n : Int) + 1) = ((n + 1 : Nat) : Int) from rfl, put_add fun r hr => ?_]
        rcases stp_val hr with q | q
        · exact absurd (List.mem_map.mpr ⟨_, q, rfl⟩) (nxn _ (List.getElem_mem hj))
        · exact q
      rintro σ F ⟨y4, rfl, gW, gfl, sm⟩
      rw [List.length_map, List.length_map, List.take_length, ← ffs] at gW
      refine ⟨_, rfl, (n : Int) + 1, 1, rfl, rfl, ?_⟩
      refine ⟨.ref g, rfl, .ref W, rfl, g, W, z, es, _, rfl, gr.same sm, gW, by omega, fun e he => (yl e he).1, fun F3 l3 s3 gl3 => ?_⟩
      exact ⟨l3, _, rfl, s3 _ _ gW, gl3, sm.trans s3⟩
end
end DW
/-! k69: heights -/
namespace DW
open PySem PySem.Spec PyProof.Rows L2 TL
set_option autoImplicit false
def AZ : Str := "ABCDEFGHIJKLMNOPQRSTUVWXYZ"
theorem AZ_tl : tl AZ = (List.range 26).map (· + 65) := by decide +kernel
theorem AZ_sym {c : Nat} : (c ∈ AZ.cps.toList) ↔ symB c = true := by
  have e : AZ.cps.toList = (List.range 26).map (· + 65) := AZ_tl
  rw [e]
  unfold symB
  rw [Bool.and_eq_true, decide_eq_true_eq, decide_eq_true_eq]
  constructor
  · intro h
    obtain ⟨k, hk, rfl⟩ := List.mem_map.mp h
    have := List.mem_range.mp hk
    omega
  · intro h
    exact List.mem_map.mpr ⟨c - 65, List.mem_range.mpr (by omega), by omega⟩
theorem stp_le {k : Nat} : ∀ {cs : List Nat} {fd : Fd}, (stp k fd cs).length ≤ fd.length + cs.length
  | [], _ => Nat.le_refl _
  | c :: cs, fd => by
    have q := stp_le (k := k) (cs := cs) (fd := addK k fd c)
    have q2 : (addK k fd c).length ≤ fd.length + 1 := by
      unfold addK
      split
      · omega
      · rw [List.length_append]
        exact Nat.le_refl _
    show (stp k (addK k fd c) cs).length ≤ _
    rw [List.length_cons]
    omega
theorem paired_app {α β : Type} {F : α → β → Prop} : ∀ {a : List α} {c : List β} {b : List α} {d : List β}, Paired F a c → Paired F b d → Paired F (a ++ b) (c ++ d)
  | _, _, _, _, .nil, h => h
  | _, _, _, _, .cons x r, h => .cons x (paired_app r h)
theorem paired_imp {α β : Type} {F G : α → β → Prop} (i : ∀ x y, F x y → G x y) : ∀ {a : List α} {c : List β}, Paired F a c → Paired G a c
  | _, _, .nil => .nil
  | _, _, .cons x r => .cons (i _ _ x) (paired_imp i r)
theorem paired_lenR {α β : Type} {F : α → β → Prop} : ∀ {a : List α} {c : List β}, Paired F a c → a.length = c.length
  | _, _, .nil => rfl
  | _, _, .cons _ r => by rw [List.length_cons, List.length_cons, paired_lenR r]
theorem eqv_nilR (ds : List PyData) : PyData.eqv (.list ds) (.list []) = ds.isEmpty := by
  cases ds <;> simp [PyData.eqv, PyData.eqvAll]
theorem strs_dpR {K : PySem.W.Frag} {H : Hp} : ∀ ys : List Str, DpAll K H (ys.map V.str) (ys.map PyData.str)
  | [] => .nil
  | y :: ys => .cons (.str y) (strs_dpR ys)
theorem ones_lay : ∀ cs : List Nat, (∀ c ∈ cs, c < 128) → PyData.canLayAll0 ((cs.map one).map PyData.str) = true ∧ PyData.depthAll ((cs.map one).map PyData.str) = 0
  | [], _ => ⟨rfl, rfl⟩
  | c :: cs, h => by
    obtain ⟨h1, h2⟩ := ones_lay cs fun d hd => h d (List.mem_cons_of_mem _ hd)
    have so : PyData.strOk (one c) = true := strOk_lowE fun d m => by
      rw [List.mem_singleton.mp (show d ∈ [c] from m)]
      exact h c List.mem_cons_self
    rw [List.map_cons, List.map_cons]
    exact ⟨by simp only [PyData.canLayAll0, PyData.canLay0, so, h1, Bool.and_self], by simp only [PyData.depthAll, PyData.depth, h2]; rfl⟩
theorem ones_shaped {cs : List Nat} (h : ∀ c ∈ cs, c < 128) : SeqAt.shaped (.list ((cs.map one).map PyData.str)) = true := by
  obtain ⟨h1, h2⟩ := ones_lay cs h
  unfold SeqAt.shaped
  rw [Bool.and_eq_true]
  exact ⟨by simp only [PyData.canLay0, h1], decide_eq_true (by simp only [PyData.depth, h2]; omega)⟩
theorem sym_low {c : Nat} (h : symB c = true) : c < 128 := by
  unfold symB at h
  rw [Bool.and_eq_true] at h
  have := of_decide_eq_true h.2
  omega
theorem okR_iff {fd : Fd} {y : Str} : (((((tl y).filter symB).filter fun c => !decide (c ∈ keysF fd)).map one).map PyData.str).isEmpty = okR fd y := by
  rw [Bool.eq_iff_iff]
  unfold okR
  rw [List.isEmpty_iff, List.map_eq_nil_iff, List.map_eq_nil_iff, List.all_eq_true]
  constructor
  · intro h c hc
    cases s : symB c with
    | false => rfl
    | true =>
      by_cases q : c ∈ keysF fd
      · rw [decide_eq_true q]
        rfl
      · have m : c ∈ (((tl y).filter symB).filter fun c => !decide (c ∈ keysF fd)) := List.mem_filter.mpr ⟨List.mem_filter.mpr ⟨hc, s⟩, by rw [decide_eq_false q]; rfl⟩
        rw [h] at m
        cases m
  · intro h
    refine List.filter_eq_nil_iff.mpr fun c hc => ?_
    obtain ⟨h1, h2⟩ := List.mem_filter.mp hc
    have q := h c h1
    rw [h2] at q
    simp at q ⊢
    exact q
def spNms : Sp := fun vs H Q _ => ∃ x : Str, vs = [.str x] ∧ (tl x).length ≤ 100 ∧ ∀ H' l, Same H H' → H' l = some (.lst ((((tl x).filter symB).map one).map V.str)) → Q (.ref l) H'
def spHts (K : PySem.W.Frag) : Sp := fun vs H Q _ => ∃ (a : Addr) (es : List En), vs = [.ref a] ∧ H a = some (.lst (es.map vE)) ∧ RE K H es ∧ es.length ≤ 16 ∧ (∀ e ∈ es, (tl e.2.2).length ≤ 100 ∧ symB e.2.1 = true) ∧ nsym (chs (es.map pE)) ≤ 6 ∧
  ∀ H' r, Same H H' → H r = none → H' r = some (.dK (kvR (FF (es.map pE) 7))) → Q (.ref r) H'
section
variable {P : Program} {w : World} {K : PySem.W.Frag} {mg : Str → Option Value} {base : Heap}
theorem scNms : FnScope ["_law_text", "_law_sign"] ["_law_text"] (defScope sLNamesOf) := ⟨rfl, rfl, rfl, by decide +kernel, rfl, by decide +kernel, by decide +kernel⟩
theorem ok_nms (D : Df K mg "_law_names_of" sLNamesOf ["_law_text"]) : FnOk P w K mg base CX0 1 D.f D.fd ["_law_text"] spNms := by
  refine D.F.ok scNms (fun vs H Q E h => ?_) (fun cdv A0 outer s H vs Q E hr h => ?_)
  · obtain ⟨x, rfl, _⟩ := h
    rfl
  · obtain ⟨X, rfl, xl, k⟩ := h
    refine ⟨_, PSs.nox (pss_one (ps_ret (pe_lc (own := [("_law_sign", 1)]) (g := gName 1) rfl scNms.nd (pi_str (pv 0)) (blkOk_by (N := ["_law_text", "_law_sign"]) (sc := defScope sLNamesOf) (by decide +kernel)) (fun _ _ _ _ _ => pg_name (i := 1) scNms.nd rfl (Or.inl rfl)) (fun _ _ _ _ _ => (pts_one (pt_cmpR op_in_sign (pv 1) pe_str rfl))) (fun _ _ _ _ _ => (pv 1))))), ?_⟩
    have Xs : X.cps.size = (tl X).length := (Array.length_toList).symm
    refine ⟨.str X, rfl, X, rfl, fun L2 hL2 => ?_⟩
    refine lc_it (walk_str (z := X)) (fun j G => G L2 = some (.lst (((((tl X).take j).filter symB).map one).map V.str)) ∧ Same H G) ⟨upd_same, same_upd hL2⟩ (fun _ _ _ _ => trivial) ?_ ?_
    · rintro j v F1 F2 hj ⟨gL, sm⟩ ⟨rfl, d, hd, rfl⟩
      have hd' : (tl X)[j]? = some d := by rw [Array.getElem?_toList]; exact hd
      have tk : (tl X).take (j + 1) = (tl X).take j ++ [d] := by rw [List.take_add_one, hd']; rfl
      refine ⟨rfl, .str ⟨#[d]⟩, rfl, d, AZ, rfl, rfl, ?_⟩
      refine ⟨_, rfl, ite2 (fun e => ⟨_, rfl, _, gL, ?_, ?_, fun b o h => (upd_ne (ne_of_none h hL2)).trans (sm b o h)⟩) (fun e => ⟨?_, sm⟩)⟩
      · rw [List.length_map, List.length_map]
        refine Nat.lt_of_le_of_lt (List.length_filter_le _ _) ?_
        rw [List.length_take, sizeLine_eq]
        omega
      · have e := AZ_sym.mp (of_decide_eq_true e)
        rw [upd_same, tk, List.filter_append, List.map_append, List.map_append, List.filter_cons, if_pos e]
        rfl
      · have e : ¬ symB d = true := fun q => e (decide_eq_true (AZ_sym.mpr q))
        rw [gL, tk, List.filter_append, List.filter_cons, if_neg e, List.filter_nil, List.append_nil]
    rintro G2 ⟨gL, sm⟩
    rw [Xs, List.take_length] at gL
    exact k _ L2 sm gL
theorem scHts : FnScope ["_law_rules_here", "_law_found", "_law_height", "_law_fresh", "_law_symbol", "_law_items", "_law_name"] ["_law_rules_here"] (defScope sLHeights) := ⟨rfl, rfl, rfl, by decide +kernel, rfl, by decide +kernel, by decide +kernel⟩
theorem ok_hts (D : Df K mg "_law_heights" sLHeights ["_law_rules_here"]) (Dn : Df K mg "_law_names_of" sLNamesOf ["_law_text"]) (md : mg "dict" = none) (ml : mg "list" = none) : FnOk P w K mg base CX0 2 D.f D.fd ["_law_rules_here"] (spHts K) := by
  have Gn : FnOk P w K mg base CX0 1 Dn.f Dn.fd ["_law_text"] spNms := ok_nms Dn
  refine D.F.ok scHts (fun vs H Q E h => ?_) (fun cdv A0 outer s H vs Q E hr h => ?_)
  · obtain ⟨a, es, rfl, _⟩ := h
    rfl
  · obtain ⟨a, es, rfl, ha, re, el, yl, six, k⟩ := h
    refine ⟨_, PSs.nox (pss_cons (ps_asg (pe_tup (pa_cons pe_dnewK (pa_cons pe_int pa_nil))) (pg_tup rfl (pgs_cons (pg_name (i := 1) scHts.nd rfl (.inr rfl)) (pgs_cons (pg_name (i := 2) scHts.nd rfl (.inl rfl)) pgs_nil)))) (pss_cons (ps_while PassesOwn.never (pt_cmpR op_le (pv 2) pe_int (nomark _)) (pss_cons (ps_set (i := 3) scHts.nd rfl (.inl rfl) pe_dnewK) (pss_cons (ps_for PassesOwn.never rfl (pi_list (pv 0)) (pg_tup rfl (pgs_cons (pg_name (i := 4) scHts.nd rfl (.inl rfl)) (pgs_cons (pg_name (i := 5) scHts.nd rfl (.inl rfl)) pgs_nil))) (pss_one (ps_if (pw_and (pt_cmp (pc_dnotin (u1r hr) (pv 4) (pv 1))) (pw_and1 (pt_cmpR (op_eqD hr.units) (pe_lc (own := [("_law_name", 6)]) (g := gName 6) rfl scHts.nd (pi_list (pe_call Gn hr (by rfl) Dn.g Dn.F.kp Dn.b .nil pass0 (pa_cons (pv 5) pa_nil))) (blkOk_by (N := ["_law_rules_here", "_law_found", "_law_height", "_law_fresh", "_law_symbol", "_law_items", "_law_name"]) (sc := defScope sLHeights) (by decide +kernel)) (fun _ _ _ _ _ => pg_name (i := 6) scHts.nd rfl (Or.inl rfl)) (fun _ _ _ _ _ => (pts_one (pt_cmp (pc_dnotin (u1r hr) (pv 6) (pv 1))))) (fun _ _ _ _ _ => (pv 6))) (pe_lst pa_nil) (nomark _)))).pt (pss_one (ps_dput (u1r hr) (pv 3) (pv 4) (pv 2) rfl)) pss_nil))) (pss_one (ps_asg (pe_tup (pa_cons (pe_callTy (call_dictP rfl) (by rfl) md (by decide +kernel) (pa_cons (pe_op op_cat (LiI.pe_listItems rfl (pv 1) (by rfl) ml (by decide +kernel)) (LiI.pe_listItems rfl (pv 3) (by rfl) ml (by decide +kernel))) pa_nil)) (pa_cons (pe_op op_add (pv 2) pe_int) pa_nil))) (pg_tup rfl (pgs_cons (pg_name (i := 1) scHts.nd rfl (.inr rfl)) (pgs_cons (pg_name (i := 2) scHts.nd rfl (.inl rfl)) pgs_nil)))))))) (pss_one (ps_ret (pv 1))))), ?_⟩
    refine fun d0 h_d0 => ⟨by show 2 ≤ sizeLine; decide, fun tp h_tp => ?_⟩
    have sm0 := (same_upd (o := .dK []) h_d0).trans (same_upd (o := .tup [V.ref d0, V.int 1]) h_tp)
    have gd0 : (upd (upd H d0 (.dK [])) tp (.tup [V.ref d0, V.int 1])) d0 = some (.dK (kvR [])) := (upd_ne (ne_of_none upd_same h_tp)).trans upd_same
    refine ⟨tp, _, rfl, SqT.of upd_same, rfl, _, _, rfl, _, _, rfl, rfl, ?_⟩
    dsimp only [gName, List.set]
    have sy : ∀ p ∈ es.map pE, symB p.1 = true := fun p hp => by
      obtain ⟨e, he, rfl⟩ := List.mem_map.mp hp
      exact (yl e he).2
    refine ⟨fun m σ G => ∃ (n : Nat) (d : Addr) (y3 y4 y5 y6 : Option V), m + n = 7 ∧ σ = [some (.ref a), some (.ref d), some (.int ((n : Int) + 1)), y3, y4, y5, y6] ∧ H d = none ∧ G d = some (.dK (kvR (FF (es.map pE) n))) ∧ Same H G, ⟨7, 0, d0, _, _, _, _, rfl, rfl, h_d0, gd0, sm0⟩, ?_⟩
    rintro m σ G ⟨n, d, y3, y4, y5, y6, mn, rfl, hd0, gd, sm⟩
    refine ⟨_, rfl, _, 7, rfl, rfl, _, rfl, ?_⟩
    by_cases n7 : n = 7
    · refine ite2 (fun e => absurd (of_decide_eq_true e) (by omega)) (fun _ => ?_)
      rw [n7] at gd
      exact ⟨.ref d, rfl, k _ d sm hd0 gd⟩
    · refine ite2 (fun _ => ?_) (fun e => absurd (decide_eq_true (by omega)) e)
      have nxn : ∀ c ∈ nxt (es.map pE) (FF (es.map pE) n), c ∉ keysF (FF (es.map pE) n) := fun c hc => (nxt_mem hc).1
      have ffs : FF (es.map pE) (n + 1) = stp (n + 1) (FF (es.map pE) n) (nxt (es.map pE) (FF (es.map pE) n)) := rfl
      have fl6 := FF_six six sy n
      have fl7 := FF_six six sy (n + 1)
      have fnd := FF_nd (es.map pE) (n + 1)
      refine ⟨fun σ G => ∃ (d : Addr) (y3 y4 y5 y6 : Option V), σ = [some (.ref a), some (.ref d), some (.int (((n + 1 : Nat) : Int) + 1)), y3, y4, y5, y6] ∧ H d = none ∧ G d = some (.dK (kvR (FF (es.map pE) (n + 1)))) ∧ Same H G, ?_, ?_⟩
      · rintro σ' H' ⟨d', y3', y4', y5', y6', h1, h2, h3, h4⟩
        exact ⟨7 - (n + 1), by omega, n + 1, d', y3', y4', y5', y6', by omega, h1, h2, h3, h4⟩
      generalize hfd : FF (es.map pE) n = fd at gd nxn ffs fl6 ⊢
      refine fun f h_f => ?_
      have nfd : f ≠ d := (ne_of_none gd h_f).symm
      have h_f0 := fresh_of sm h_f
      have sf := sm.trans (same_upd (o := .dK []) h_f)
      have gd1 := (upd_ne (o := .dK []) nfd.symm).trans gd
      dsimp only [List.set]
      refine ⟨.ref a, rfl, a, rfl, ⟨_, SqL.of (sf _ _ ha)⟩, for_it (walk_list (xs := es.map vE)) (fun i σ G => ∃ (y4 y5 y6 : Option V), σ = [some (.ref a), some (.ref d), some (.int ((n : Int) + 1)), some (.ref f), y4, y5, y6] ∧ G f = some (.dK (kvR (stp (n + 1) [] (nxt ((es.take i).map pE) fd)))) ∧ G d = some (.dK (kvR fd)) ∧ Same H G) ⟨_, _, _, rfl, upd_same, gd1, sf⟩ (fun _ _ _ _ ⟨_, _, _, _, _, _, s⟩ => SqL.of (s _ _ ha)) ?_ ?_⟩
      · rintro i x σ G1 G2 hi ⟨y4, y5, y6, rfl, gf, gd, sm⟩ ⟨rfl, hx0⟩
        rw [List.length_map] at hi
        rw [List.getElem?_map, List.getElem?_eq_getElem hi] at hx0
        have hx0 : V.ref es[i].1 = x := Option.some.inj hx0
        subst hx0
        have me : es[i] ∈ es := List.getElem_mem hi
        have yb := (yl _ me).1
        have tk : es.take (i + 1) = es.take i ++ [es[i]] := by rw [List.take_add_one, List.getElem?_eq_getElem hi]; rfl
        have nx1 : nxt ((es.take (i + 1)).map pE) fd = nxt ((es.take i).map pE) fd ++ nxt [pE es[i]] fd := by
          unfold nxt
          rw [tk, List.map_append, List.filter_append, List.map_append]
          rfl
        have nx2 : nxt [pE es[i]] fd = if (!decide (es[i].2.1 ∈ keysF fd) && okR fd es[i].2.2) = true then [es[i].2.1] else [] := by
          unfold nxt
          rw [List.filter_cons]
          by_cases q : (!decide (es[i].2.1 ∈ keysF fd) && okR fd es[i].2.2) = true
          · rw [if_pos q, if_pos (show (!decide ((pE es[i]).1 ∈ keysF fd) && okR fd (pE es[i]).2) = true from q)]
            rfl
          · rw [if_neg q, if_neg (show ¬ (!decide ((pE es[i]).1 ∈ keysF fd) && okR fd (pE es[i]).2) = true from q)]
            rfl
        refine ⟨es[i].1, _, rfl, same_tupG sm _ _ (re _ me), rfl, _, _, rfl, _, _, rfl, rfl, ?_⟩
        dsimp only [gName, List.set]
        refine ⟨_, rfl, _, rfl, d, _, rfl, DGet.k (k := Sum.inr (one es[i].2.1)) gd, ?_⟩
        rw [val_key]
        refine ⟨_, rfl, ?_⟩
        cases c1 : decide (es[i].2.1 ∈ keysF fd) with
        | true =>
          rw [c1] at nx2
          refine iteF ⟨_, _, _, rfl, ?_, gd, sm⟩
          rw [nx1, nx2, if_neg (by simp), List.append_nil]
          exact gf
        | false =>
          rw [c1] at nx2
          refine iteT ?_
          refine ⟨.str es[i].2.2, rfl, es[i].2.2, rfl, yb, fun G3 q s3 hq => ?_⟩
          have gd4 := s3 _ _ gd
          refine ⟨q, rfl, ⟨_, SqL.of hq⟩, fun B hB => ?_⟩
          have smc : ∀ c ∈ (tl es[i].2.2).filter symB, c < 128 := fun c hc => sym_low (List.mem_filter.mp hc).2
          have cl : ((tl es[i].2.2).filter symB).length ≤ 100 := Nat.le_trans (List.length_filter_le _ _) yb
          have okr := okR_iff (fd := fd) (y := es[i].2.2)
          generalize (tl es[i].2.2).filter symB = cs at hq smc cl okr ⊢
          refine lc_it (walk_list (xs := (cs.map one).map V.str)) (fun j G => G B = some (.lst ((((cs.take j).filter fun c => !decide (c ∈ keysF fd)).map one).map V.str)) ∧ Same G3 G) ⟨upd_same, same_upd hB⟩ (fun _ _ _ ⟨_, sm⟩ => SqL.of (sm _ _ hq)) ?_ ?_
          · rintro j x F1 F2 hj ⟨gB, sB⟩ ⟨rfl, hxx⟩
            rw [List.length_map, List.length_map] at hj
            rw [List.getElem?_map, List.getElem?_map, List.getElem?_eq_getElem hj] at hxx
            have hxx : V.str (one cs[j]) = x := Option.some.inj hxx
            subst hxx
            have tkc : cs.take (j + 1) = cs.take j ++ [cs[j]] := by rw [List.take_add_one, List.getElem?_eq_getElem hj]; rfl
            refine ⟨rfl, _, rfl, _, rfl, d, _, rfl, DGet.k (k := Sum.inr (one cs[j])) (sB _ _ gd4), ?_⟩
            rw [val_key]
            refine ⟨_, rfl, ite2 (fun e => ⟨_, rfl, _, gB, ?_, ?_, fun b o h => (upd_ne (ne_of_none h hB)).trans (sB b o h)⟩) (fun e => ⟨?_, sB⟩)⟩
            · rw [List.length_map, List.length_map]
              refine Nat.lt_of_le_of_lt (List.length_filter_le _ _) ?_
              rw [List.length_take, sizeLine_eq]
              omega
            · have e : (!decide (cs[j] ∈ keysF fd)) = true := e
              rw [upd_same, tkc, List.filter_append, List.map_append, List.map_append, List.filter_cons, if_pos e]
              rfl
            · have e : ¬ (!decide (cs[j] ∈ keysF fd)) = true := e
              rw [gB, tkc, List.filter_append, List.filter_cons, if_neg e, List.filter_nil, List.append_nil]
          rintro F1 ⟨gB, sB⟩
          rw [List.length_map, List.length_map, List.take_length] at gB
          refine ⟨by show 0 ≤ sizeLine; decide, fun n1 h_n1 => ?_⟩
          have sn := same_upd (o := .lst []) h_n1
          refine ⟨.list (((cs.filter fun c => !decide (c ∈ keysF fd)).map one).map PyData.str), .list [], .lst (SqL.of (sn _ _ gB)) (strs_dpR _), .lst (SqL.of upd_same) .nil, ones_shaped (fun c hc => smc c (List.mem_filter.mp hc).1), by decide +kernel, ?_⟩
          rw [eqv_nilR, okr]
          refine ⟨_, rfl, ?_⟩
          have s4 := (s3.trans sB).trans sn
          have gf4 := s4 _ _ gf
          have gd5 := s4 _ _ gd
          have sm4 := sm.trans s4
          cases c2 : okR fd es[i].2.2 with
          | false =>
            rw [c2] at nx2
            refine iteF ⟨_, _, _, rfl, ?_, gd5, sm4⟩
            rw [nx1, nx2, if_neg (by decide), List.append_nil]
            exact gf4
          | true =>
            rw [c2] at nx2
            refine iteT ⟨_, rfl, _, rfl, _, rfl, f, _, rfl, DPut.k (k := Sum.inr (one es[i].2.1)) gf4 ?_, _, _, _, rfl, ?_, (upd_ne nfd.symm).trans gd5, fun b o h => (upd_ne (ne_of_none h h_f0)).trans (sm4 b o h)⟩
            · rw [kvR_len, sizeLine_eq]
              have q := stp_le (k := n + 1) (fd := []) (cs := nxt ((es.take i).map pE) fd)
              have q2 : (nxt ((es.take i).map pE) fd).length ≤ 16 := by
                unfold nxt
                rw [List.length_map]
                refine Nat.le_trans (List.length_filter_le _ _) ?_
                rw [List.length_map, List.length_take]
                omega
              have q3 : ([] : Fd).length = 0 := rfl
              omega
            · rw [upd_same, nx1, nx2, if_pos (by decide), stp_app, stp_one]
              rw [show ((n : Int) + 1) = ((n + 1 : Nat) : Int) from rfl, put_add fun r hr => ?_]
              exact (stp_val hr).elim (fun h => nomatch h) id
      · rintro σ G ⟨y4, y5, y6, rfl, gf, gd, sm⟩
        rw [List.length_map, List.take_length] at gf
        have spl : stp (n + 1) fd (nxt (es.map pE) fd) = fd ++ stp (n + 1) [] (nxt (es.map pE) fd) := by
          have q := stp_split (k := n + 1) (fd := fd) (g := []) nxn
          rw [List.append_nil] at q
          exact q
        rw [spl] at ffs
        generalize stp (n + 1) [] (nxt (es.map pE) fd) = gg at gf ffs spl
        refine ⟨_, rfl, d, _, rfl, gd, fun G3 p1 ts1 s3 np1 nt1 pn1 gp1 pr1 => ?_⟩
        refine ⟨_, rfl, f, _, rfl, s3 _ _ gf, fun G4 p2 ts2 s4 np2 nt2 pn2 gp2 pr2 => ?_⟩
        have l1 := paired_lenR pr1
        have l2 := paired_lenR pr2
        rw [kvR_len] at l1 l2
        have l3 : fd.length + gg.length ≤ 6 := by
          have q := fl7
          rw [ffs, List.length_append] at q
          exact q
        refine ⟨p1, p2, _, _, rfl, rfl, s4 _ _ gp1, gp2, by rw [List.length_map, List.length_map, sizeLine_eq]; omega, fun q hq => ?_⟩
        have sq := same_upd (o := .lst (ts1.map V.ref ++ ts2.map V.ref)) hq
        have prs := paired_app (paired_imp (G := fun (t : Addr) (kv : Key × V) => SqT K (upd G4 q (.lst (ts1.map V.ref ++ ts2.map V.ref))) t [kV kv.1, kv.2]) (fun t kv h => SqT.of (sq _ _ (s4 _ _ h))) pr1) (paired_imp (G := fun (t : Addr) (kv : Key × V) => SqT K (upd G4 q (.lst (ts1.map V.ref ++ ts2.map V.ref))) t [kV kv.1, kv.2]) (fun t kv h => SqT.of (sq _ _ h)) pr2)
        refine ⟨q, ts1 ++ ts2, kvR fd ++ kvR gg, rfl, by rw [List.map_append]; exact SqL.of upd_same, prs, fun d5 hd5 => ?_⟩
        have mg5 : mergeK [] (kvR fd ++ kvR gg) = kvR (fd ++ gg) := by
          rw [show kvR fd ++ kvR gg = kvR (fd ++ gg) by rw [kvR_eq, kvR_eq, kvR_eq, List.map_append]]
          have q := merge_nd (g := fd ++ gg) (fd := []) (by rw [← ffs]; exact fnd)
          exact q
        rw [mg5, ← ffs]
        have smq := ((sm.trans s3).trans s4).trans sq
        refine ⟨_, rfl, _, 1, rfl, rfl, by show 2 ≤ sizeLine; decide, fun t5 ht5 => ?_⟩
        refine ⟨t5, _, rfl, SqT.of upd_same, rfl, _, _, rfl, _, _, rfl, rfl, ?_⟩
        exact ⟨d5, _, _, _, _, rfl, fresh_of smq hd5, (upd_ne (ne_of_none upd_same ht5)).trans upd_same, (smq.trans (same_upd hd5)).trans (same_upd ht5)⟩
end
end DW
/-! k69: symbols and productions drawn -/
namespace DW
open PySem PySem.Spec PyProof.Rows L2 TL
set_option autoImplicit false
theorem foldl_app : ∀ (l : List (Array Nat)) (acc : Array Nat), (l.foldl (· ++ ·) acc).toList = acc.toList ++ (l.map Array.toList).flatten
  | [], acc => by simp
  | a :: r, acc => by
    rw [List.foldl_cons, foldl_app r, Array.toList_append, List.map_cons, List.flatten_cons, List.append_assoc]
theorem tl_mul (z : Str) (k : Int) : tl (Txt.mul z k) = (List.replicate k.toNat (tl z)).flatten := by
  unfold Txt.mul
  by_cases h : k < 1
  · rw [if_pos h, show k.toNat = 0 by omega]
    rfl
  · rw [if_neg h]
    by_cases h2 : (k == 1 || z.length == 0) = true
    · rw [if_pos h2]
      rw [Bool.or_eq_true] at h2
      rcases h2 with e | e
      · rw [eq_of_beq e]
        simp
      · have e0 : tl z = [] := List.length_eq_zero_iff.mp (by rw [Array.length_toList]; exact eq_of_beq e)
        rw [e0]
        simp
    · rw [if_neg h2]
      show ((List.replicate k.toNat z.cps).foldl (· ++ ·) #[]).toList = _
      rw [foldl_app, List.map_replicate]
      simp
section
variable {X : Cx}
def rRepS : R2 := fun x y H Q => ∃ (z : Str) (k : Int), x = .str z ∧ y = .int k ∧ 0 ≤ k ∧ k ≤ 1000 ∧ z.length ≤ 1000 ∧ ∀ r : Str, tl r = (List.replicate k.toNat (tl z)).flatten → Q (.str r) H
theorem op_repS : OpR X (binaryOp .Mult) rRepS := by
  intro pins s σ H x y v u Q I rx ry h
  obtain ⟨z, k, rfl, rfl, k0, k1, zl, q⟩ := h
  obtain ⟨t, rfl⟩ := rx
  obtain ⟨t2, rfl⟩ := ry
  have pr : z.length * k.toNat ≤ 1000 * 1000 := Nat.mul_le_mul zl (by omega)
  refine SB.mul ⟨?_, fun h1 _ h3 => ?_, fun _ _ => ?_⟩ fun t' tk => ⟨.str (Txt.mul z k), H, I.tok _, ⟨_, rfl⟩, q _ (tl_mul z k)⟩
  · have a : ¬ k < -(2 ^ 63) := by omega
    have b : ¬ k ≥ 2 ^ 63 := by omega
    simp [a, b]
    omega
  · have e : (z.length : Int) ≤ (2 ^ 63 - 1) / k := by
      rw [Int.le_ediv_iff_mul_le (by omega)]
      have : ((z.length * k.toNat : Nat) : Int) ≤ 1000 * 1000 := by exact_mod_cast pr
      rw [Int.natCast_mul, Int.toNat_of_nonneg k0] at this
      omega
    omega
  · unfold Builtin.Str.tooLong
    rw [sizeLine_eq]
    simp
    omega
end
def CapsU (y : Str) : Prop := 1 ≤ (tl y).length ∧ (tl y).length ≤ 6 ∧ ∀ c ∈ tl y, 65 ≤ c ∧ c ≤ 90
theorem cap_symU {c : Nat} (h : 65 ≤ c ∧ c ≤ 90) : symB c = true := by
  unfold symB
  rw [decide_eq_true h.1, decide_eq_true h.2]
  rfl
/-- a drawn production -/
def DrU (z nm : Str) (e : En) : Prop := e.2.1 ∈ tl nm ∧ (tl e.2.2).length ≤ 3 ∧ ∀ d ∈ tl e.2.2, d ∈ tl z ∨ d ∈ tl nm
def spSyU : Sp := fun vs H Q _ => ∃ (t c : Addr) (n : Nat), vs = [.ref t] ∧ Tape H t c n ∧ n + 10 < 2 ^ 40 ∧ ∀ H' y, Kp t H H' → Tape H' t c (n + 10) → CapsU y → Q (.str y) H'
def spRlU (K : PySem.W.Frag) : Sp := fun vs H Q _ => ∃ (t c : Addr) (n : Nat) (z : Str) (many : Int), vs = [.ref t, .str z, .int many] ∧ Tape H t c n ∧ n + 500 < 2 ^ 40 ∧ Alph z ∧ 0 ≤ many ∧ many ≤ 12 ∧
  ∀ H' l nm es, Kp t H H' → Tape H' t c (n + 500) → H l = none → H' l = some (.lst (es.map vE)) → CapsU nm → es.length ≤ 30 → RE K H' es → (∀ e ∈ es, DrU z nm e) → Q (.ref l) H'
section
variable {P : Program} {w : World} {K : PySem.W.Frag} {mg : Str → Option Value} {base : Heap}
theorem scSyU : FnScope ["_law_tape", "_law_found", "_law_k", "_law_symbol"] ["_law_tape"] (defScope sLSymbols) := ⟨rfl, rfl, rfl, by decide +kernel, rfl, by decide +kernel, by decide +kernel⟩
theorem ok_syU (D : Df K mg "_law_symbols" sLSymbols ["_law_tape"]) (Dd : DfDraw K mg) (Dp : DfPick K mg) (mi : mg "int" = none) (B : Bl mg) : FnOk P w K mg base CX0 3 D.f D.fd ["_law_tape"] spSyU := by
  have Gp : FnOk P w K mg base CX0 2 Dp.f Dp.fd ["_law_tape", "_law_items"] (spPick K) := ok_pick Dp Dd B.len
  refine D.F.ok scSyU (fun vs H Q E h => ?_) (fun cdv A0 outer s H vs Q E hr h => ?_)
  · obtain ⟨t, c, n, rfl, _⟩ := h
    rfl
  · obtain ⟨t, c, n, rfl, T, hn, k⟩ := h
    have hr2 : Room 2 _ := hr
    refine ⟨_, PSs.nox (pss_cons (ps_set (i := 1) scSyU.nd rfl (.inl rfl) (pe_call Gp hr2 (by rfl) Dp.g Dp.F.kp Dp.b .nil pass0 (pa_cons (pv 0) (pa_cons (pe_lst (pa_cons pe_str (pa_cons pe_str (pa_cons pe_str (pa_cons pe_str (pa_cons pe_str (pa_cons pe_str (pa_cons pe_str (pa_cons pe_str pa_nil))))))))) pa_nil)))) (pss_cons (ps_for PassesOwn.never rfl (pi_range1 rfl B.range (pa_cons (pe_op op_mul pe_int (pe_callTy call_int1 (by rfl) mi (by decide +kernel) (pa_cons (pe_cmpR op_eq (pv 1) pe_str (nomark _)) pa_nil))) pa_nil)) (pg_name (i := 2) scSyU.nd rfl (.inl rfl)) (pss_cons (ps_set (i := 3) scSyU.nd rfl (.inl rfl) (pe_call Gp hr2 (by rfl) Dp.g Dp.F.kp Dp.b .nil pass0 (pa_cons (pv 0) (pa_cons pe_str pa_nil)))) (pss_one (ps_set (i := 1) scSyU.nd rfl (.inl rfl) (pe_op op_add_str (pv 1) (pe_op op_repS (pv 3) (pe_callTy call_int1 (by rfl) mi (by decide +kernel) (pa_cons (pe_cmpR op_notIn_sign (pv 3) (pv 1) rfl) pa_nil)))))))) (pss_one (ps_ret (pv 1))))), ?_⟩
    refine ⟨.ref t, rfl, by show 8 ≤ sizeLine; decide, fun L hL => ?_⟩
    have sL := same_upd (o := .lst [V.str "SABCDE", V.str "XYZUVW", V.str "QAZ", V.str "ST", V.str "S", V.str "", V.str "", V.str ""]) hL
    refine ⟨t, c, n, .ref L, rfl, T.same sL, by omega, .inl ⟨L, _, rfl, SqL.of upd_same, by simp, by show 8 < 2 ^ 30; decide, fun H1 y k1 T1 my => ?_⟩⟩
    have kL := (T.kp sL).trans k1
    obtain ⟨x, rfl, hx⟩ : ∃ x : Str, y = .str x ∧ (x = "" ∨ CapsU x) := by
      simp only [List.mem_cons, List.not_mem_nil, or_false] at my
      rcases my with rfl | rfl | rfl | rfl | rfl | rfl | rfl | rfl
      · exact ⟨_, rfl, .inr ⟨by decide, by decide, by decide +kernel⟩⟩
      · exact ⟨_, rfl, .inr ⟨by decide, by decide, by decide +kernel⟩⟩
      · exact ⟨_, rfl, .inr ⟨by decide, by decide, by decide +kernel⟩⟩
      · exact ⟨_, rfl, .inr ⟨by decide, by decide, by decide +kernel⟩⟩
      · exact ⟨_, rfl, .inr ⟨by decide, by decide, by decide +kernel⟩⟩
      · exact ⟨_, rfl, .inl rfl⟩
      · exact ⟨_, rfl, .inl rfl⟩
      · exact ⟨_, rfl, .inl rfl⟩
    clear k1 my
    dsimp only [gName, List.set]
    rcases hx with rfl | cx
    · refine ⟨_, rfl, rfl, .inr ⟨_, rfl, 6, 1, rfl, rfl, ?_, ?_⟩⟩
      · exact .inl ⟨by decide, by decide⟩
      refine ⟨_, rfl, by decide, by decide, for_range (lo := 0) (n := 6) (fun i σ G => ∃ (y : Str) (y2 y3 : Option V), σ = [some (.ref t), some (.str y), y2, y3] ∧ (tl y).length ≤ i ∧ (0 < i → 1 ≤ (tl y).length) ∧ (∀ c ∈ tl y, 65 ≤ c ∧ c ≤ 90) ∧ Kp t H G ∧ Tape G t c (n + 1 + i)) ⟨"", _, _, rfl, Nat.le_refl _, fun h => absurd h (Nat.lt_irrefl _), (fun c h => nomatch h), kL, T1⟩ ?_ ?_⟩
      · rintro i σ G hi ⟨y, y2, y3, rfl, yl, y1, yc, kG, TG⟩
        dsimp only [gName, List.set]
        refine ⟨.ref t, rfl, t, c, _, .str AZ, rfl, TG, by omega, .inr ⟨AZ, rfl, by decide, by decide, fun G2 d k2 T2 hd => ?_⟩⟩
        dsimp only [List.set]
        have d2 : 65 ≤ d ∧ d ≤ 90 := by
          have q := AZ_sym.mp hd
          unfold symB at q
          rw [Bool.and_eq_true] at q
          exact ⟨of_decide_eq_true q.1, of_decide_eq_true q.2⟩
        have yz : y.length = (tl y).length := (Array.length_toList).symm
        have kk := kG.trans k2
        refine ⟨.str y, rfl, .str ⟨#[d]⟩, rfl, .str ⟨#[d]⟩, rfl, .str y, rfl, d, y, rfl, rfl, .inr ⟨_, rfl, ⟨#[d]⟩, _, rfl, rfl, ?_, ?_, ?_, fun r hr => ?_⟩⟩
        · split <;> omega
        · split <;> omega
        · show 1 ≤ 1000
          decide
        have rz : r.length = (tl r).length := (Array.length_toList).symm
        have tr : tl r = if d ∈ tl y then [] else [d] := by
          rw [hr]
          by_cases q : d ∈ tl y
          · rw [if_pos q, decide_eq_true (p := d ∈ y.cps.toList) q]
            rfl
          · rw [if_neg q, decide_eq_false (p := d ∈ y.cps.toList) q]
            rfl
        have trl : (tl r).length ≤ 1 := by
          rw [tr]
          split
          · exact Nat.zero_le _
          · exact Nat.le_refl _
        refine ⟨y, r, rfl, rfl, by rw [sizeLine_eq]; omega, _, _, _, rfl, ?_, fun _ => ?_, fun c hc => ?_, kk, T2.mono (by omega)⟩
        · rw [tl_appG, List.length_append]
          omega
        · rw [tl_appG, List.length_append, tr]
          by_cases q : d ∈ tl y
          · have := List.length_pos_of_mem q
            omega
          · rw [if_neg q]
            show 1 ≤ _ + 1
            omega
        · rw [tl_appG] at hc
          rcases List.mem_append.mp hc with q | q
          · exact yc c q
          · rw [tr] at q
            split at q
            · cases q
            · rw [List.mem_singleton.mp q]
              exact d2
      · rintro σ G ⟨y, y2, y3, rfl, yl, y1, yc, kG, TG⟩
        exact ⟨.str y, rfl, k _ _ kG (TG.mono (by omega)) ⟨y1 (by decide), yl, yc⟩⟩
    · have nx : x ≠ "" := fun e => by
        rw [e] at cx
        exact absurd cx.1 (by decide)
      refine ⟨_, rfl, rfl, .inr ⟨_, rfl, 6, 0, rfl, ?_, ?_, ?_⟩⟩
      · rw [decide_eq_false (fun e => nx (V.str.inj e))]
        rfl
      · exact .inl ⟨by decide, by decide⟩
      refine ⟨_, rfl, by decide, by decide, for_range (lo := 0) (n := 0) (fun i σ G => ∃ (y2 y3 : Option V), σ = [some (.ref t), some (.str x), y2, y3] ∧ Kp t H G ∧ Tape G t c (n + 1)) ⟨_, _, rfl, kL, T1⟩ (fun i σ G hi => absurd hi (Nat.not_lt_zero _)) ?_⟩
      rintro σ G ⟨y2, y3, rfl, kG, TG⟩
      exact ⟨.str x, rfl, k _ _ kG (TG.mono (by omega)) cx⟩
theorem scRlU : FnScope ["_law_tape", "_law_alphabet_here", "_law_many", "_law_names", "_law_found", "_law_k", "_law_items", "_law_place"] ["_law_tape", "_law_alphabet_here", "_law_many"] (defScope sLRules) := ⟨rfl, rfl, rfl, by decide +kernel, rfl, by decide +kernel, by decide +kernel⟩
theorem ok_rlU (D : Df K mg "_law_rules" sLRules ["_law_tape", "_law_alphabet_here", "_law_many"]) (Ds0 : Df K mg "_law_symbols" sLSymbols ["_law_tape"]) (Dd : DfDraw K mg) (Dp : DfPick K mg) (mi : mg "int" = none) (B : Bl mg) : FnOk P w K mg base CX0 4 D.f D.fd ["_law_tape", "_law_alphabet_here", "_law_many"] (spRlU K) := by
  have Gd : FnOk P w K mg base CX0 1 Dd.f Dd.fd ["_law_tape", "_law_many"] spDraw := ok_draw Dd B.len
  have Gp : FnOk P w K mg base CX0 2 Dp.f Dp.fd ["_law_tape", "_law_items"] (spPick K) := ok_pick Dp Dd B.len
  have Gs : FnOk P w K mg base CX0 3 Ds0.f Ds0.fd ["_law_tape"] spSyU := ok_syU Ds0 Dd Dp mi B
  refine D.F.ok scRlU (fun vs H Q E h => ?_) (fun cdv A0 outer s H vs Q E hr h => ?_)
  · obtain ⟨t, c, n, z, many, rfl, _⟩ := h
    rfl
  · obtain ⟨t, c, n, z, many, rfl, T, hn, al, m0, m12, kk⟩ := h
    have hr1 : Room 1 _ := hr.mono (by decide)
    have hr2 : Room 2 _ := hr.mono (by decide)
    have hr3 : Room 3 _ := hr
    have z1 := al.2.1
    have z3 := al.2.2.1
    have zz : z.length = (tl z).length := (Array.length_toList).symm
    refine ⟨_, PSs.nox (pss_cons (ps_par (i := 3) (j := 4) rfl scRlU.nd rfl rfl (by decide) rfl rfl (pa_cons (pe_call Gs hr3 (by rfl) Ds0.g Ds0.F.kp Ds0.b .nil pass0 (pa_cons (pv 0) pa_nil)) (pa_cons (pe_lst pa_nil) pa_nil)) (by rfl)) (pss_cons (ps_for PassesOwn.never rfl (pi_range1 rfl B.range (pa_cons (pe_call Gd hr1 (by rfl) Dd.g Dd.F.kp Dd.b .nil pass0 (pa_cons (pv 0) (pa_cons (pe_op op_add (pv 2) pe_int) pa_nil))) pa_nil)) (pg_name (i := 5) scRlU.nd rfl (.inl rfl)) (pss_cons (ps_set (i := 6) scRlU.nd rfl (.inl rfl) pe_str) (C8.pss_cut (ps_for PassesOwn.never rfl (pi_range1 rfl B.range (pa_cons (pe_call Gd hr1 (by rfl) Dd.g Dd.F.kp Dd.b .nil pass0 (pa_cons (pv 0) (pa_cons pe_int pa_nil))) pa_nil)) (pg_name (i := 7) scRlU.nd rfl (.inl rfl)) (pss_one (ps_set (i := 6) scRlU.nd rfl (.inl rfl) (pe_op op_add_str (pv 6) (pe_call Gp hr2 (by rfl) Dp.g Dp.F.kp Dp.b .nil pass0 (pa_cons (pv 0) (pa_cons (pe_call Gp hr2 (by rfl) Dp.g Dp.F.kp Dp.b .nil pass0 (pa_cons (pv 0) (pa_cons (pe_lst (pa_cons (pv 1) (pa_cons (pv 1) (pa_cons (pv 3) pa_nil)))) pa_nil))) pa_nil))))))) (pss_cons (ps_expr (pe_bm PySem.F.plainAttrs_list PySem.F.slot_list_append PySem.F.type_list_append mt_append (pv 4) (pa_cons (pe_tup (pa_cons (pe_call Gp hr2 (by rfl) Dp.g Dp.F.kp Dp.b .nil pass0 (pa_cons (pv 0) (pa_cons (pv 3) pa_nil))) (pa_cons (pv 6) pa_nil))) pa_nil))) (pss_one (ps_if (pt_cmpR op_eq (pe_call Gd hr1 (by rfl) Dd.g Dd.F.kp Dd.b .nil pass0 (pa_cons (pv 0) (pa_cons pe_int pa_nil))) pe_int (nomark _)) (pss_one (ps_expr (pe_bm PySem.F.plainAttrs_list PySem.F.slot_list_append PySem.F.type_list_append mt_append (pv 4) (pa_cons (pe_call Gp hr2 (by rfl) Dp.g Dp.F.kp Dp.b .nil pass0 (pa_cons (pv 0) (pa_cons (pv 4) pa_nil))) pa_nil)))) pss_nil)))))) (pss_one (ps_ret (pv 4))))), ?_⟩
    refine ⟨.ref t, rfl, t, c, n, rfl, T, by omega, fun H1 nm k1 T1 cp => ?_⟩
    have nmz : nm.length = (tl nm).length := (Array.length_toList).symm
    have n1 := cp.1
    have n6 := cp.2.1
    refine ⟨by show 0 ≤ sizeLine; decide, fun W hW => ?_⟩
    have W1 := T1.ne1 hW
    have W2 := T1.ne2 hW
    have hW0 := k1.gone hW
    have sW := same_upd (o := .lst []) hW
    have k1 := k1.trans (T1.kp sW)
    have T2 := T1.same sW
    have gW : (upd H1 W (.lst [])) W = some (.lst []) := upd_same
    generalize upd H1 W (.lst []) = H2 at sW T2 k1 gW ⊢
    refine ⟨_, _, rfl, ?_⟩
    dsimp only [List.set]
    refine ⟨.ref t, rfl, .int many, rfl, many, 1, rfl, rfl, t, c, many + 1, _, rfl, T2, by omega, by omega, by omega, fun H3 r k3 T3 r0 r1 => ?_⟩
    have gW3 := k3.at gW (fun _ q => by cases q)
    refine ⟨r, rfl, by omega, by omega, for_range (lo := 0) (n := r.toNat) (fun i σ G => ∃ (y5 y6 y7 : Option V) (es : List En), σ = [some (.ref t), some (.str z), some (.int many), some (.str nm), some (.ref W), y5, y6, y7] ∧ G W = some (.lst (es.map vE)) ∧ es.length ≤ 2 * i ∧ RE K G es ∧ (∀ e ∈ es, DrU z nm e) ∧ Kp t H G ∧ Tape G t c (n + 11 + 12 * i)) ⟨_, _, _, [], rfl, gW3, Nat.le_refl _, (fun e h => nomatch h), (fun e h => nomatch h), k1.trans k3, T3⟩ ?_ ?_⟩
    · rintro i σ G hi ⟨y5, y6, y7, es, rfl, gW, el, re, dr, kG, TG⟩
      dsimp only [gName, List.set]
      refine ⟨fun σ G => ∃ (y : Str) (y7 : Option V), σ = [some (.ref t), some (.str z), some (.int many), some (.str nm), some (.ref W), some (.int (0 + (i : Int))), some (.str y), y7] ∧ (tl y).length ≤ 3 ∧ (∀ d ∈ tl y, d ∈ tl z ∨ d ∈ tl nm) ∧ G W = some (.lst (es.map vE)) ∧ RE K G es ∧ Kp t H G ∧ Tape G t c (n + 11 + 12 * i + 7), ?_, ?_⟩
      · refine ⟨.ref t, rfl, t, c, 4, _, rfl, TG, by omega, by decide, by decide, fun G1 q k4 T4 q0 q1 => ?_⟩
        have gW4 := k4.at gW (fun _ q => by cases q)
        refine ⟨q, rfl, by omega, by omega, for_range (lo := 0) (n := q.toNat) (fun j σ F => ∃ (y : Str) (y7 : Option V), σ = [some (.ref t), some (.str z), some (.int many), some (.str nm), some (.ref W), some (.int (0 + (i : Int))), some (.str y), y7] ∧ (tl y).length ≤ j ∧ (∀ d ∈ tl y, d ∈ tl z ∨ d ∈ tl nm) ∧ F W = some (.lst (es.map vE)) ∧ RE K F es ∧ Kp t H F ∧ Tape F t c (n + 11 + 12 * i + 1 + 2 * j)) ⟨"", _, rfl, Nat.le_refl _, (fun d h => nomatch h), gW4, re.kp k4, kG.trans k4, T4⟩ ?_ ?_⟩
        · rintro j σ F hj ⟨y, y7, rfl, yl, ym, gW, re, kF, TF⟩
          dsimp only [gName, List.set]
          have yz : y.length = (tl y).length := (Array.length_toList).symm
          refine ⟨.str y, rfl, .ref t, rfl, .ref t, rfl, .str z, rfl, .str z, rfl, .str nm, rfl, by show 3 ≤ sizeLine; decide, fun L hL => ?_⟩
          have sL := same_upd (o := .lst [V.str z, V.str z, V.str nm]) hL
          refine ⟨t, c, _, .ref L, rfl, TF.same sL, by omega, .inl ⟨L, _, rfl, SqL.of upd_same, by simp, by show 3 < 2 ^ 30; decide, fun F2 x2 k2 T2 mx => ?_⟩⟩
          obtain ⟨u, rfl, u0, ul, um⟩ : ∃ u : Str, x2 = .str u ∧ (tl u).length ≠ 0 ∧ (tl u).length ≤ 100 ∧ ∀ d ∈ tl u, d ∈ tl z ∨ d ∈ tl nm := by
            simp only [List.mem_cons, List.not_mem_nil, or_false] at mx
            rcases mx with h | h | h
            · exact ⟨z, h, by omega, by omega, fun d hd => .inl hd⟩
            · exact ⟨z, h, by omega, by omega, fun d hd => .inl hd⟩
            · exact ⟨nm, h, by omega, by omega, fun d hd => .inr hd⟩
          have uz : u.length = (tl u).length := (Array.length_toList).symm
          refine ⟨t, c, _, .str u, rfl, T2, by omega, .inr ⟨u, rfl, by omega, by omega, fun F3 d k3 T3 hd => ?_⟩⟩
          have e1 : tl (y ++ (⟨#[d]⟩ : Str)) = tl y ++ [d] := tl_appG _ _
          have kk2 := ((TF.kp sL).trans k2).trans k3
          refine ⟨y, ⟨#[d]⟩, rfl, rfl, by rw [yz, sizeLine_eq]; show _ + 1 ≤ _; omega, _, _, rfl, by rw [e1, List.length_append]; show _ + 1 ≤ j + 1; omega, fun q hq => ?_, kk2.at gW (fun _ q => by cases q), re.kp kk2, kF.trans kk2, T3.mono (by omega)⟩
          rw [e1] at hq
          rcases List.mem_append.mp hq with h | h
          · exact ym q h
          · rw [List.mem_singleton.mp h]
            exact um d hd
        · rintro σ F ⟨y, y7, rfl, yl, ym, gW, re, kF, TF⟩
          exact ⟨y, y7, rfl, by omega, ym, gW, re, kF, TF.mono (by omega)⟩
      · clear gW re kG TG
        rintro σ G1 ⟨y, y7, rfl, yl, ym, gW, re, kG, TG⟩
        refine ⟨.ref W, rfl, .inl ⟨rfl, _, SqL.of gW⟩, .ref t, rfl, .str nm, rfl, t, c, _, .str nm, rfl, TG, by omega, .inr ⟨nm, rfl, by omega, by omega, fun G2 d k2 T2 hd => ?_⟩⟩
        have gW2 := k2.at gW (fun _ q => by cases q)
        have re2 := re.kp k2
        refine ⟨_, rfl, by show 2 ≤ sizeLine; decide, fun A hA => ?_⟩
        have sA := same_upd (o := .tup [V.str ⟨#[d]⟩, V.str y]) hA
        have gW3 := sA _ _ gW2
        have re3 := re2.same sA
        have T3 := T2.same sA
        have k3 := (kG.trans k2).trans (T2.kp sA)
        have nAW : A ≠ W := fun e => by
          rw [e, gW2] at hA
          cases hA
        have gA : (upd G2 A (.tup [V.str ⟨#[d]⟩, V.str y])) A = some (.tup [V.str ⟨#[d]⟩, V.str y]) := upd_same
        generalize upd G2 A (.tup [V.str ⟨#[d]⟩, V.str y]) = G3 at gW3 re3 T3 k3 gA ⊢
        refine ⟨W, _, _, rfl, rfl, gW3, by rw [List.length_map, sizeLine_eq]; omega, ?_⟩
        have gW4 : (upd G3 W (.lst (es.map vE ++ [V.ref A]))) W = some (.lst ((es ++ [((A, d, y) : En)]).map vE)) := by
          rw [List.map_append]
          exact upd_same
        have re4 : RE K (upd G3 W (.lst (es.map vE ++ [V.ref A]))) (es ++ [((A, d, y) : En)]) := fun e he => by
          rcases List.mem_append.mp he with h | h
          · exact put_tupG gW3 _ _ (re3 e h)
          · rw [List.mem_singleton.mp h]
            exact SqT.of ((upd_ne nAW).trans gA)
        have dr4 : ∀ e ∈ es ++ [((A, d, y) : En)], DrU z nm e := fun e he => by
          rcases List.mem_append.mp he with h | h
          · exact dr e h
          · rw [List.mem_singleton.mp h]
            exact ⟨hd, yl, ym⟩
        have k4 := k3.put (o := .lst (es.map vE ++ [V.ref A])) hW0 W1
        have T4 := T3.upd (o := .lst (es.map vE ++ [V.ref A])) W1 W2
        have el4 : (es ++ [((A, d, y) : En)]).length ≤ 2 * i + 1 := by
          rw [List.length_append]
          show es.length + 1 ≤ _
          omega
        have ep4 : 0 < (es ++ [((A, d, y) : En)]).length := by
          rw [List.length_append]
          show 0 < _ + 1
          omega
        generalize upd G3 W (.lst (es.map vE ++ [V.ref A])) = G4 at gW4 re4 k4 T4 ⊢
        generalize es ++ [((A, d, y) : En)] = es4 at gW4 re4 dr4 el4 ep4 ⊢
        refine ⟨.ref t, rfl, t, c, 9, _, rfl, T4, by omega, by decide, by decide, fun G5 r5 k5 T5 _ _ => ?_⟩
        have gW5 := k5.at gW4 (fun _ q => by cases q)
        have re5 := re4.kp k5
        have k6 := k4.trans k5
        refine ⟨rfl, _, rfl, ite2 (fun _ => ?_) (fun _ => ⟨_, _, _, es4, rfl, gW5, by omega, re5, dr4, k6, T5.mono (by omega)⟩)⟩
        refine ⟨.ref W, rfl, .inl ⟨rfl, _, SqL.of gW5⟩, .ref t, rfl, .ref W, rfl, t, c, _, .ref W, rfl, T5, by omega, .inl ⟨W, _, rfl, SqL.of gW5, fun e => ?_, by rw [List.length_map]; omega, fun G6 v k7 T6 mv => ?_⟩⟩
        · have := congrArg List.length e
          rw [List.length_map] at this
          exact absurd this (by show ¬ _ = 0; omega)
        obtain ⟨e0, he0, rfl⟩ := List.mem_map.mp mv
        have gW6 := k7.at gW5 (fun _ q => by cases q)
        have re6 := re5.kp k7
        refine ⟨W, _, _, rfl, rfl, gW6, by rw [List.length_map, sizeLine_eq]; omega, _, _, _, es4 ++ [e0], rfl, ?_, ?_, fun e he => ?_, fun e he => ?_, (k6.trans k7).put hW0 W1, (T6.upd W1 W2).mono (by omega)⟩
        · rw [upd_same, List.map_append]
          rfl
        · rw [List.length_append]
          show _ + 1 ≤ _
          omega
        · rcases List.mem_append.mp he with h | h
          · exact put_tupG gW6 _ _ (re6 e h)
          · rw [List.mem_singleton.mp h]
            exact put_tupG gW6 _ _ (re6 e0 he0)
        · rcases List.mem_append.mp he with h | h
          · exact dr4 e h
          · rw [List.mem_singleton.mp h]
            exact dr4 e0 he0
    · rintro σ G ⟨y5, y6, y7, es, rfl, gW, el, re, dr, kG, TG⟩
      exact ⟨.ref W, rfl, kk _ W nm es kG (TG.mono (by omega)) hW0 gW cp (by omega) re dr⟩
end
end DW
/-! k69: grammars drawn -/
namespace DW
open PySem PySem.Spec PyProof.Rows L2 TL
set_option autoImplicit false
theorem cut_takeN (xs : List V) (k : Nat) : cutV xs none (some (k : Int)) = xs.take k := by
  unfold cutV
  rw [HT.sIx_none, HT.sIx_nat, List.drop_zero, Nat.sub_zero]
  by_cases c : k ≤ xs.length
  · rw [Nat.min_eq_left c]
  · rw [Nat.min_eq_right (by omega), List.take_length, List.take_of_length_le (by omega)]
def spMdU (K : PySem.W.Frag) : Sp := fun vs H Q _ => ∃ (t c : Addr) (n : Nat) (z : Str) (many : Int), vs = [.ref t, .str z, .int many] ∧ Tape H t c n ∧ n + 20000 < 2 ^ 40 ∧ Alph z ∧ 0 ≤ many ∧ many ≤ 12 ∧
  ∀ H' l nm es, Kp t H H' → Tape H' t c (n + 20000) → H l = none → H' l = some (.lst (es.map vE)) → CapsU nm → es.length ≤ 16 → RE K H' es → (∀ e ∈ es, DrU z nm e) → Q (.ref l) H'
section
variable {P : Program} {w : World} {K : PySem.W.Frag} {mg : Str → Option Value} {base : Heap}
theorem scMdU : FnScope ["_law_tape", "_law_alphabet_here", "_law_many", "_law_rules_here", "_law_strewn", "_law_symbol", "_law_rule", "_law_items"] ["_law_tape", "_law_alphabet_here", "_law_many"] (defScope sLMade) := ⟨rfl, rfl, rfl, by decide +kernel, rfl, by decide +kernel, by decide +kernel⟩
theorem ok_mdU (D : Df K mg "_law_made" sLMade ["_law_tape", "_law_alphabet_here", "_law_many"]) (Dr : Df K mg "_law_rules" sLRules ["_law_tape", "_law_alphabet_here", "_law_many"]) (Ds0 : Df K mg "_law_symbols" sLSymbols ["_law_tape"]) (Dw : Df K mg "_law_word" sWord ["_law_tape", "_law_alphabet_here", "_law_longest"]) (Dd : DfDraw K mg) (Dp : DfPick K mg) (mi : mg "int" = none) (B : Bl mg) : FnOk P w K mg base CX0 5 D.f D.fd ["_law_tape", "_law_alphabet_here", "_law_many"] (spMdU K) := by
  have Gd : FnOk P w K mg base CX0 1 Dd.f Dd.fd ["_law_tape", "_law_many"] spDraw := ok_draw Dd B.len
  have Gr : FnOk P w K mg base CX0 4 Dr.f Dr.fd ["_law_tape", "_law_alphabet_here", "_law_many"] (spRlU K) := ok_rlU Dr Ds0 Dd Dp mi B
  have Gw : FnOk P w K mg base CX0 3 Dw.f Dw.fd ["_law_tape", "_law_alphabet_here", "_law_longest"] spWord := ok_word Dw Dd Dp B
  refine D.F.ok scMdU (fun vs H Q E h => ?_) (fun cdv A0 outer s H vs Q E hr h => ?_)
  · obtain ⟨t, c, n, z, many, rfl, _⟩ := h
    rfl
  · obtain ⟨t, c, n, z, many, rfl, T, hn, al, m0, m12, kk⟩ := h
    have hr1 : Room 1 _ := hr.mono (by decide)
    have hr3 : Room 3 _ := hr.mono (by decide)
    have hr4 : Room 4 _ := hr
    refine ⟨_, PSs.nox (pss_cons (ps_par (i := 3) (j := 4) rfl scMdU.nd rfl rfl (by decide) rfl rfl (pa_cons (pe_call Gr hr4 (by rfl) Dr.g Dr.F.kp Dr.b .nil pass0 (pa_cons (pv 0) (pa_cons (pv 1) (pa_cons (pv 2) pa_nil)))) (pa_cons (pe_lst pa_nil) pa_nil)) (by rfl)) (C8.pss_cut (ps_for PassesOwn.never rfl (pi_list (pe_callB (TX.cr_sortTx rfl) (by rfl) B.sorted (by decide +kernel) (pa_cons (pe_callTy (TX.cr_setL rfl) (by rfl) B.set (by decide +kernel) (pa_cons (pe_lc (own := [("_law_symbol", 5), ("_law_items", 7)]) (g := gTup K 2 (gCons (gName 5) (gCons (gName 7) gNil))) rfl scMdU.nd (pi_list (pv 3)) (blkOk_by (N := ["_law_tape", "_law_alphabet_here", "_law_many", "_law_rules_here", "_law_strewn", "_law_symbol", "_law_rule", "_law_items"]) (sc := defScope sLMade) (by decide +kernel)) (fun _ _ _ _ _ => (pg_tup rfl (pgs_cons (pg_name (i := 5) scMdU.nd rfl (.inl rfl)) (pgs_cons (pg_name (i := 7) scMdU.nd rfl (.inl rfl)) pgs_nil)))) (fun _ _ _ _ _ => pts_nil) (fun _ _ _ _ _ => (pv 5))) pa_nil)) pa_nil))) (pg_name (i := 5) scMdU.nd rfl (.inl rfl)) (pss_one (ps_if (pt_cmpR op_gt (pe_call Gd hr1 (by rfl) Dd.g Dd.F.kp Dd.b .nil pass0 (pa_cons (pv 0) (pa_cons pe_int pa_nil))) pe_int (nomark _)) (pss_one (ps_expr (pe_bm PySem.F.plainAttrs_list PySem.F.slot_list_append PySem.F.type_list_append mt_append (pv 3) (pa_cons (pe_tup (pa_cons (pv 5) (pa_cons (pe_call Gw hr3 (by rfl) Dw.g Dw.F.kp Dw.b .nil pass0 (pa_cons (pv 0) (pa_cons (pv 1) (pa_cons pe_int pa_nil)))) pa_nil))) pa_nil)))) pss_nil))) (pss_cons (ps_for PassesOwn.never rfl (pi_list (pe_slice sl_list (pv 3) po_none (po_some pe_int))) (pg_name (i := 6) scMdU.nd rfl (.inl rfl)) (pss_one (ps_expr (pe_bm PySem.F.plainAttrs_list PySem.F.slot_list_insert PySem.F.type_list_insert mt_insert (pv 4) (pa_cons (pe_call Gd hr1 (by rfl) Dd.g Dd.F.kp Dd.b .nil pass0 (pa_cons (pv 0) (pa_cons (pe_op op_add (pe_callB call_len_seq (by rfl) B.len PySem.boot_len (pa_cons (pv 4) pa_nil)) pe_int) pa_nil))) (pa_cons (pv 6) pa_nil)))))) (pss_one (ps_ret (pv 4)))))), ?_⟩
    refine ⟨.ref t, rfl, .str z, rfl, .int many, rfl, t, c, n, z, many, rfl, T, by omega, al, m0, m12, fun H1 W nm es k1 T1 nW gW cp el re dr => ?_⟩
    refine ⟨by show 0 ≤ sizeLine; decide, fun W2 hW2 => ?_⟩
    have nWW : W ≠ W2 := ne_of_none gW hW2
    have v1 := T1.ne1 hW2
    have v2 := T1.ne2 hW2
    have nW2 := k1.gone hW2
    have s2 := same_upd (o := .lst []) hW2
    have gW := s2 _ _ gW
    have re := re.same s2
    have k1 := k1.trans (T1.kp s2)
    have T1 := T1.same s2
    have gS : (upd H1 W2 (.lst [])) W2 = some (.lst []) := upd_same
    generalize upd H1 W2 (.lst []) = H2 at gW re k1 T1 gS ⊢
    refine ⟨_, _, rfl, ?_⟩
    dsimp only [List.set]
    refine ⟨fun σ G => ∃ (es : List En) (y5 y6 y7 : Option V), σ = [some (.ref t), some (.str z), some (.int many), some (.ref W), some (.ref W2), y5, y6, y7] ∧ es.length ≤ 60 ∧ G W = some (.lst (es.map vE)) ∧ G W2 = some (.lst []) ∧ RE K G es ∧ (∀ e ∈ es, DrU z nm e) ∧ Kp t H G ∧ Tape G t c (n + 10000), ?_, ?_⟩
    · refine ⟨.ref W, rfl, W, rfl, ⟨_, SqL.of gW⟩, fun L hL => ?_⟩
      refine lc_it (walk_list (xs := es.map vE)) (fun j G => G L = some (.lst (((es.take j).map fun e => one e.2.1).map V.str)) ∧ Same H2 G) ⟨upd_same, same_upd hL⟩ (fun _ _ _ ⟨_, sm⟩ => SqL.of (sm _ _ gW)) ?_ ?_
      · rintro j x G1 G2 hj ⟨gL, sm⟩ ⟨rfl, hx⟩
        rw [List.length_map] at hj
        rw [List.getElem?_map, List.getElem?_eq_getElem hj] at hx
        have hx : V.ref es[j].1 = x := Option.some.inj hx
        subst hx
        have me : es[j] ∈ es := List.getElem_mem hj
        refine ⟨es[j].1, _, rfl, same_tupG sm _ _ (re _ me), rfl, _, _, rfl, _, _, rfl, rfl, rfl, yes ⟨_, rfl, _, gL, ?_, ?_, fun b o e => (upd_ne (ne_of_none e hL)).trans (sm _ _ e)⟩⟩
        · rw [List.length_map, List.length_map, List.length_take, sizeLine_eq]
          omega
        · rw [upd_same, List.take_add_one, List.getElem?_eq_getElem hj, List.map_append, List.map_append]
          rfl
      rintro G1 ⟨gL, sm⟩
      rw [List.length_map, List.take_length] at gL
      refine ⟨L, _, rfl, SqL.of gL, by rw [List.length_map]; exact Nat.lt_of_le_of_lt (show _ ≤ 31 by omega) (by decide), fun sa ls nsa nd mem len => ?_⟩
      rw [List.length_map] at len
      refine ⟨sa, ls, rfl, upd_same, by omega, fun us p pm so hp => ?_⟩
      have ul : us.length ≤ 30 := by
        have := pm.length_eq
        omega
      have um : ∀ u ∈ us, ∃ e ∈ es, u = one e.2.1 := fun u hu => by
        obtain ⟨e, he, q⟩ := List.mem_map.mp ((mem u).mp (pm.mem_iff.mp hu))
        exact ⟨e, he, q.symm⟩
      have sx := same_upd (o := TX.SetTx P w sa ls) nsa
      have sp := same_upd (o := .lst (us.map V.str)) hp
      have gWp := sp _ _ (sx _ _ (sm _ _ gW))
      have gSp := sp _ _ (sx _ _ (sm _ _ gS))
      have rep := ((re.same sm).same sx).same sp
      have Tp := ((T1.same sm).same sx).same sp
      have kp := ((k1.trans (T1.kp sm)).trans ((T1.same sm).kp sx)).trans (((T1.same sm).same sx).kp sp)
      have npW : p ≠ W := (ne_of_none (sx _ _ (sm _ _ gW)) hp).symm
      have nW1 := T.ne1 nW
      have nW2' := T.ne2 nW
      refine ⟨p, rfl, ⟨_, SqL.of upd_same⟩, for_it (walk_list (xs := us.map V.str)) (fun i σ G => ∃ (es' : List En) (y5 y6 y7 : Option V), σ = [some (.ref t), some (.str z), some (.int many), some (.ref W), some (.ref W2), y5, y6, y7] ∧ es'.length ≤ 30 + i ∧ G W = some (.lst (es'.map vE)) ∧ G W2 = some (.lst []) ∧ G p = some (.lst (us.map V.str)) ∧ RE K G es' ∧ (∀ e ∈ es', DrU z nm e) ∧ Kp t H G ∧ Tape G t c (n + 500 + 300 * i)) ⟨es, _, _, _, rfl, el, gWp, gSp, upd_same, rep, dr, kp, Tp⟩ (fun _ _ _ _ ⟨_, _, _, _, _, _, _, _, g, _⟩ => SqL.of g) ?_ ?_⟩
      · rintro i x σ F1 F2 hi ⟨es', y5, y6, y7, rfl, el', gW, gS, gp, re, dr', kG, TG⟩ ⟨rfl, hx⟩
        rw [List.length_map] at hi
        rw [List.getElem?_map, List.getElem?_eq_getElem hi] at hx
        have hx : V.str us[i] = x := Option.some.inj hx
        subst hx
        obtain ⟨e0, he0, eu⟩ := um _ (List.getElem_mem hi)
        rw [eu]
        dsimp only [gName, List.set]
        refine ⟨.ref t, rfl, t, c, 3, _, rfl, TG, by omega, by decide, by decide, fun F3 q k3 T3 q0 q1 => ?_⟩
        have gW3 := k3.at gW (fun _ q => by cases q)
        have gS3 := k3.at gS (fun _ q => by cases q)
        have gp3 := k3.at gp (fun _ q => by cases q)
        have re3 := re.kp k3
        refine ⟨_, 0, rfl, rfl, _, rfl, ite2 (fun _ => ?_) (fun _ => ⟨es', _, _, _, rfl, by omega, gW3, gS3, gp3, re3, dr', kG.trans k3, T3.mono (by omega)⟩)⟩
        refine ⟨.ref W, rfl, .inl ⟨rfl, _, SqL.of gW3⟩, _, rfl, .ref t, rfl, .str z, rfl, t, c, _, z, 2, rfl, T3, by omega, al, by decide, by decide, fun F4 u k4 T4 ov uld => ?_⟩
        have gW4 := k4.at gW3 (fun _ q => by cases q)
        refine ⟨by show 2 ≤ sizeLine; decide, fun A hA => ?_⟩
        have sA := same_upd (o := .tup [V.str (one e0.2.1), V.str u]) hA
        have gW5 := sA _ _ gW4
        have gS5 := sA _ _ (k4.at gS3 (fun _ q => by cases q))
        have gp5 := sA _ _ (k4.at gp3 (fun _ q => by cases q))
        have re5 := (re3.kp k4).same sA
        have k5 := ((kG.trans k3).trans k4).trans (T4.kp sA)
        have T5 := T4.same sA
        have nAW : A ≠ W := (ne_of_none gW4 hA).symm
        refine ⟨W, _, _, rfl, rfl, gW5, by rw [List.length_map, sizeLine_eq]; omega, es' ++ [((A, e0.2.1, u) : En)], _, _, _, rfl, ?_, ?_, (upd_ne nWW.symm).trans gS5, (upd_ne npW).trans gp5, fun e he => ?_, fun e he => ?_, k5.put nW nW1, (T5.upd nW1 nW2').mono (by omega)⟩
        · rw [List.length_append]
          show _ + 1 ≤ _
          omega
        · rw [upd_same, List.map_append]
          rfl
        · rcases List.mem_append.mp he with h | h
          · exact put_tupG gW5 _ _ (re5 e h)
          · rw [List.mem_singleton.mp h]
            exact SqT.of ((upd_ne nAW).trans upd_same)
        · rcases List.mem_append.mp he with h | h
          · exact dr' e h
          · rw [List.mem_singleton.mp h]
            exact ⟨(dr e0 he0).1, by show (tl u).length ≤ 3; omega, fun d hd => .inl (ov d hd)⟩
      · rintro σ F1 ⟨es', y5, y6, y7, rfl, el', gW, gS, gp, re, dr', kG, TG⟩
        rw [List.length_map] at el' TG
        exact ⟨es', _, _, _, rfl, by omega, gW, gS, re, dr', kG, TG.mono (by omega)⟩
    · clear gW gS re k1 T1 el dr
      rintro σ G ⟨es, y5, y6, y7, rfl, el, gW, gS, re, dr, kG, TG⟩
      unfold tNoPart
      refine ⟨.ref W, rfl, 16, rfl, W, _, rfl, SqL.of gW, fun V1 hV1 => ?_⟩
      rw [show (16 : Int) = ((16 : Nat) : Int) from rfl, cut_takeN, ← List.map_take]
      have sV := same_upd (o := .lst ((es.take 16).map vE)) hV1
      have gV : (upd G V1 (.lst ((es.take 16).map vE))) V1 = some (.lst ((es.take 16).map vE)) := upd_same
      have nV : V1 ≠ W2 := (ne_of_none gS hV1).symm
      have gS := sV _ _ gS
      have re := re.same sV
      have kG := kG.trans (TG.kp sV)
      have TG := TG.same sV
      have e16 : (es.take 16).length ≤ 16 := by rw [List.length_take]; omega
      have esub : ∀ e ∈ es.take 16, e ∈ es := fun e he => List.mem_of_mem_take he
      generalize upd G V1 (.lst ((es.take 16).map vE)) = G1 at gV gS re kG TG ⊢
      generalize es.take 16 = ts at gV e16 esub ⊢
      refine ⟨V1, rfl, ⟨_, SqL.of gV⟩, for_it (walk_list (xs := ts.map vE)) (fun i σ G => ∃ (fs : List En) (y5 y6 y7 : Option V), σ = [some (.ref t), some (.str z), some (.int many), some (.ref W), some (.ref W2), y5, y6, y7] ∧ G W2 = some (.lst (fs.map vE)) ∧ fs.length = i ∧ (∀ e ∈ fs, e ∈ es) ∧ G V1 = some (.lst (ts.map vE)) ∧ RE K G es ∧ Kp t H G ∧ Tape G t c (n + 10000 + i)) ⟨[], _, _, _, rfl, gS, rfl, (fun e h => nomatch h), gV, re, kG, TG⟩ (fun _ _ _ _ ⟨_, _, _, _, _, _, _, _, g, _⟩ => SqL.of g) ?_ ?_⟩
      · rintro i x σ F1 F2 hi ⟨fs, y5, y6, y7, rfl, gS, fl, fsub, gV, re, kG, TG⟩ ⟨rfl, hx⟩
        rw [List.length_map] at hi
        rw [List.getElem?_map, List.getElem?_eq_getElem hi] at hx
        have hx : vE ts[i] = x := Option.some.inj hx
        subst hx
        dsimp only [gName, List.set]
        refine ⟨.ref W2, rfl, .inl ⟨rfl, _, SqL.of gS⟩, .ref t, rfl, .ref W2, rfl, W2, _, rfl, .inl (SqL.of gS), _, 1, rfl, rfl, t, c, _, _, rfl, TG, by omega, by rw [List.length_map]; omega, by rw [List.length_map]; omega, fun F3 q k3 T3 q0 q1 => ?_⟩
        rw [List.length_map] at q1
        have gS3 := k3.at gS (fun _ q => by cases q)
        have gV3 := k3.at gV (fun _ q => by cases q)
        have re3 := re.kp k3
        refine ⟨_, rfl, W2, _, q, vE ts[i], rfl, rfl, gS3, by rw [List.length_map, sizeLine_eq]; omega, q0, by omega, fs.take q.toNat ++ [ts[i]] ++ fs.drop q.toNat, _, _, _, rfl, ?_, ?_, fun e he => ?_, (upd_ne nV).trans gV3, re3.put gS3, (kG.trans k3).put nW2 v1, (T3.upd v1 v2).mono (by omega)⟩
        · rw [upd_same, List.map_append, List.map_append, List.map_take, List.map_drop]
          rfl
        · rw [List.length_append, List.length_append, List.length_take, List.length_drop, List.length_singleton]
          omega
        · rcases List.mem_append.mp he with h | h
          · rcases List.mem_append.mp h with h | h
            · exact fsub e (List.mem_of_mem_take h)
            · rw [List.mem_singleton.mp h]
              exact esub _ (List.getElem_mem hi)
          · exact fsub e (List.mem_of_mem_drop h)
      · rintro σ F1 ⟨fs, y5, y6, y7, rfl, gS, fl, fsub, gV, re, kG, TG⟩
        rw [List.length_map] at fl TG
        exact ⟨.ref W2, rfl, kk _ W2 nm fs kG (TG.mono (by omega)) nW2 gS cp (by omega) (re.sub fsub) fun e he => dr e (fsub e he)⟩
end
end DW
/-! k69: chains drawn -/
namespace DW
open PySem PySem.Spec PyProof.Rows L2 TL
set_option autoImplicit false
theorem cut_drop (xs : List V) {k : Int} (h0 : 0 ≤ k) : cutV xs (some k) none = xs.drop k.toNat := by
  obtain ⟨n, rfl⟩ := Int.eq_ofNat_of_zero_le h0
  unfold cutV
  rw [HT.sIx_none, HT.sIx_nat]
  show List.take _ (List.drop (min n xs.length) xs) = xs.drop n
  by_cases c : n ≤ xs.length
  · rw [Nat.min_eq_left c]
    exact List.take_of_length_le (by rw [List.length_drop]; omega)
  · rw [Nat.min_eq_right (by omega), List.drop_length, List.drop_of_length_le (by omega), List.take_nil]
theorem at_lastR {xs : List V} {v : V} (h : xs[xs.length - 1]? = some v) (ne : 0 < xs.length) : atI xs (-1) = some v := by
  unfold atI ixN
  rw [if_neg (by decide), if_pos (by omega)]
  show xs[((-1 : Int) + (xs.length : Int)).toNat]? = some v
  rw [show ((-1 : Int) + (xs.length : Int)).toNat = xs.length - 1 by omega]
  exact h
def spChU (K : PySem.W.Frag) : Sp := fun vs H Q _ => ∃ (t c : Addr) (n : Nat) (z : Str), vs = [.ref t, .str z] ∧ Tape H t c n ∧ n + 1000 < 2 ^ 40 ∧ Alph z ∧
  ∀ H' l nm es, Kp t H H' → Tape H' t c (n + 1000) → H l = none → H' l = some (.lst (es.map vE)) → CapsU nm → es.length ≤ 16 → RE K H' es → (∀ e ∈ es, DrU z nm e) → Q (.ref l) H'
section
variable {P : Program} {w : World} {K : PySem.W.Frag} {mg : Str → Option Value} {base : Heap}
theorem scChU : FnScope ["_law_tape", "_law_alphabet_here", "_law_names", "_law_found", "_law_one", "_law_other"] ["_law_tape", "_law_alphabet_here"] (defScope sLChain) := ⟨rfl, rfl, rfl, by decide +kernel, rfl, by decide +kernel, by decide +kernel⟩
theorem ok_chU (D : Df K mg "_law_chain" sLChain ["_law_tape", "_law_alphabet_here"]) (Dw : Df K mg "_law_word" sWord ["_law_tape", "_law_alphabet_here", "_law_longest"]) (Dd : DfDraw K mg) (Dp : DfPick K mg) (mi : mg "int" = none) (ml : mg "list" = none) (mz : mg "zip" = none) (B : Bl mg) : FnOk P w K mg base CX0 4 D.f D.fd ["_law_tape", "_law_alphabet_here"] (spChU K) := by
  have Gd : FnOk P w K mg base CX0 1 Dd.f Dd.fd ["_law_tape", "_law_many"] spDraw := ok_draw Dd B.len
  have Gp : FnOk P w K mg base CX0 2 Dp.f Dp.fd ["_law_tape", "_law_items"] (spPick K) := ok_pick Dp Dd B.len
  have Gw : FnOk P w K mg base CX0 3 Dw.f Dw.fd ["_law_tape", "_law_alphabet_here", "_law_longest"] spWord := ok_word Dw Dd Dp B
  refine D.F.ok scChU (fun vs H Q E h => ?_) (fun cdv A0 outer s H vs Q E hr h => ?_)
  · obtain ⟨t, c, n, z, rfl, _⟩ := h
    rfl
  · obtain ⟨t, c, n, z, rfl, T, hn, al, kk⟩ := h
    have hr1 : Room 1 _ := hr.mono (by decide)
    have hr2 : Room 2 _ := hr.mono (by decide)
    have hr3 : Room 3 _ := hr
    refine ⟨_, PSs.nox (pss_cons (ps_set (i := 2) scChU.nd rfl (.inl rfl) (pe_slice sl_list (pe_callTy (R1.cr_listS rfl) (by rfl) ml (by decide +kernel) (pa_cons (pe_call Gp hr2 (by rfl) Dp.g Dp.F.kp Dp.b .nil pass0 (pa_cons (pv 0) (pa_cons (pe_lst (pa_cons pe_str (pa_cons pe_str (pa_cons pe_str pa_nil)))) pa_nil))) pa_nil)) po_none (po_some (pe_op op_add pe_int (pe_call Gd hr1 (by rfl) Dd.g Dd.F.kp Dd.b .nil pass0 (pa_cons (pv 0) (pa_cons pe_int pa_nil))))))) (pss_cons (ps_setLc (i := 3) (own := [("_law_one", 4), ("_law_other", 5)]) (g := gTup K 2 (gCons (gName 4) (gCons (gName 5) gNil))) (tt := tYes) rfl scChU.nd rfl rfl (sw_true rfl rfl rfl (by decide +kernel)) (ZLL.pi_zipLL (by rfl) mz (pa_cons (pv 2) (pa_cons (pe_slice sl_list (pv 2) (po_some pe_int) po_none) pa_nil))) (blkOk_by (N := ["_law_tape", "_law_alphabet_here", "_law_names", "_law_found", "_law_one", "_law_other"]) (sc := defScope sLChain) (by decide +kernel)) (fun _ _ _ _ _ => (pg_tup rfl (pgs_cons (pg_name (i := 4) scChU.nd rfl (.inl rfl)) (pgs_cons (pg_name (i := 5) scChU.nd rfl (.inl rfl)) pgs_nil)))) (fun _ _ _ _ _ => pts_nil) (fun _ _ _ _ _ => (pe_tup (pa_cons (pv 4) (pa_cons (pe_call Gp hr2 (by rfl) Dp.g Dp.F.kp Dp.b .nil pass0 (pa_cons (pv 0) (pa_cons (pe_lst (pa_cons (pv 5) (pa_cons (pe_op op_add_str (pv 5) (pv 5)) (pa_cons (pe_op op_add_str (pe_op op_repS pe_str (pe_callTy call_int1 (by rfl) mi (by decide +kernel) (pa_cons (pe_cmpR op_in_sign pe_str (pv 1) rfl) pa_nil))) (pv 5)) pa_nil)))) pa_nil))) pa_nil))))) (pss_one (ps_ret (pe_op op_cat (RV.pe_stepL (pv 3) (pe_call Gp hr2 (by rfl) Dp.g Dp.F.kp Dp.b .nil pass0 (pa_cons (pv 0) (pa_cons (pe_lst (pa_cons pe_int (pa_cons (pe_un un_neg pe_int) pa_nil))) pa_nil)))) (pe_lst (pa_cons (pe_tup (pa_cons (pe_ix ix_list (pv 2) (pe_un un_neg pe_int) (fun _ _ => rfl)) (pa_cons (pe_call Gw hr3 (by rfl) Dw.g Dw.F.kp Dw.b .nil pass0 (pa_cons (pv 0) (pa_cons (pv 1) (pa_cons pe_int pa_nil)))) pa_nil))) pa_nil))))))), ?_⟩
    unfold tNoPart
    refine ⟨.ref t, rfl, by show 3 ≤ sizeLine; decide, fun L hL => ?_⟩
    have sL := same_upd (o := .lst [V.str "SABCDE", V.str "EDCBAS", V.str "XAYBZC"]) hL
    refine ⟨t, c, n, .ref L, rfl, T.same sL, by omega, .inl ⟨L, _, rfl, SqL.of upd_same, by simp, by show 3 < 2 ^ 30; decide, fun H1 y k1 T1 my => ?_⟩⟩
    have k1 := (T.kp sL).trans k1
    obtain ⟨nm, rfl, cp, n6⟩ : ∃ x : Str, y = .str x ∧ CapsU x ∧ (tl x).length = 6 := by
      simp only [List.mem_cons, List.not_mem_nil, or_false] at my
      rcases my with rfl | rfl | rfl
      · exact ⟨_, rfl, ⟨by decide, by decide, by decide +kernel⟩, by decide⟩
      · exact ⟨_, rfl, ⟨by decide, by decide, by decide +kernel⟩, by decide⟩
      · exact ⟨_, rfl, ⟨by decide, by decide, by decide +kernel⟩, by decide⟩
    clear my
    have nmz : nm.length = (tl nm).length := (Array.length_toList).symm
    have z1 := al.2.1
    have z3 := al.2.2.1
    refine ⟨nm, rfl, by rw [nmz, n6, sizeLine_eq]; decide, fun W0 hW0 => ?_⟩
    have s0 := same_upd (o := .lst ((nm.cps.toList.map fun c => (⟨#[c]⟩ : Str)).map V.str)) hW0
    have g0 : (upd H1 W0 (.lst ((nm.cps.toList.map fun c => (⟨#[c]⟩ : Str)).map V.str))) W0 = some (.lst (((tl nm).map one).map V.str)) := upd_same
    have k1 := k1.trans (T1.kp s0)
    have T1 := T1.same s0
    generalize upd H1 W0 (.lst ((nm.cps.toList.map fun c => (⟨#[c]⟩ : Str)).map V.str)) = H2 at s0 g0 k1 T1 ⊢
    refine ⟨.ref t, rfl, t, c, 5, _, rfl, T1, by omega, by decide, by decide, fun H3 r k3 T3 r0 r1 => ⟨2, r, rfl, rfl, _, rfl, ?_⟩⟩
    have g0 := k3.at g0 (fun _ q => by cases q)
    have k1 := k1.trans k3
    refine ⟨W0, _, rfl, SqL.of g0, fun Wn hWn => ?_⟩
    rw [show (2 + r : Int) = (((2 + r).toNat : Nat) : Int) by omega, cut_takeN, ← List.map_take, ← List.map_take]
    have msl : ((tl nm).take (2 + r).toNat).length = (2 + r).toNat := by
      rw [List.length_take]
      omega
    have msm : ∀ d ∈ (tl nm).take (2 + r).toNat, d ∈ tl nm := fun d hd => List.mem_of_mem_take hd
    have sn := same_upd (o := .lst ((((tl nm).take (2 + r).toNat).map one).map V.str)) hWn
    have gn : (upd H3 Wn (.lst ((((tl nm).take (2 + r).toNat).map one).map V.str))) Wn = some (.lst ((((tl nm).take (2 + r).toNat).map one).map V.str)) := upd_same
    have k1 := k1.trans (T3.kp sn)
    have T3 := T3.same sn
    generalize upd H3 Wn (.lst ((((tl nm).take (2 + r).toNat).map one).map V.str)) = H4 at sn gn k1 T3 ⊢
    generalize (tl nm).take (2 + r).toNat = ms at msl msm gn ⊢
    dsimp only [gName, List.set]
    have m2 : 2 ≤ ms.length ∧ ms.length ≤ 6 := by omega
    refine ⟨.ref Wn, rfl, .ref Wn, rfl, 1, rfl, Wn, _, rfl, SqL.of gn, fun W1 hW1 => ?_⟩
    rw [cut_drop _ (by decide)]
    have s1 := same_upd (o := .lst (((ms.map one).map V.str).drop (1 : Int).toNat)) hW1
    have g1 : (upd H4 W1 (.lst (((ms.map one).map V.str).drop (1 : Int).toNat))) W1 = some (.lst (((ms.map one).map V.str).drop 1)) := upd_same
    have gn := s1 _ _ gn
    have k1 := k1.trans (T3.kp s1)
    have T3 := T3.same s1
    generalize upd H4 W1 (.lst (((ms.map one).map V.str).drop (1 : Int).toNat)) = H5 at s1 g1 gn k1 T3 ⊢
    refine ⟨Wn, W1, _, _, rfl, SqL.of gn, SqL.of g1, fun D hD => ?_⟩
    have D1 := T3.ne1 hD
    have D2 := T3.ne2 hD
    have hD0 := k1.gone hD
    have nDn : Wn ≠ D := ne_of_none gn hD
    have nD1 : W1 ≠ D := ne_of_none g1 hD
    refine lc_it (ZLL.walk_zipLL rfl) (fun j G => ∃ es : List En, G D = some (.lst (es.map vE)) ∧ es.length = j ∧ RE K G es ∧ (∀ e ∈ es, DrU z nm e) ∧ G Wn = some (.lst ((ms.map one).map V.str)) ∧ G W1 = some (.lst (((ms.map one).map V.str).drop 1)) ∧ Kp t H G ∧ Tape G t c (n + 2 + j)) ⟨[], upd_same, rfl, (fun e h => nomatch h), (fun e h => nomatch h), (upd_ne nDn).trans gn, (upd_ne nD1).trans g1, k1.put hD0 D1, T3.upd D1 D2⟩ (fun _ _ _ ⟨_, _, _, _, _, g1, g2, _⟩ => ⟨SqL.of g1, SqL.of g2⟩) ?_ ?_
    · rintro j v G G' hj ⟨es, gD, el, re, dr, gn, g1, kG, TG⟩ ⟨Tt, x, y, rfl, hT, rfl, hx, hy⟩
      obtain ⟨a, ha, rfl⟩ : ∃ a, a ∈ ms ∧ x = V.str (one a) := by
        obtain ⟨u, hu, rfl⟩ := List.mem_map.mp (List.mem_of_getElem? hx)
        obtain ⟨a, ha, rfl⟩ := List.mem_map.mp hu
        exact ⟨a, ha, rfl⟩
      obtain ⟨b, hb, rfl⟩ : ∃ b, b ∈ ms ∧ y = V.str (one b) := by
        obtain ⟨u, hu, rfl⟩ := List.mem_map.mp (List.mem_of_mem_drop (List.mem_of_getElem? hy))
        obtain ⟨b, hb, rfl⟩ := List.mem_map.mp hu
        exact ⟨b, hb, rfl⟩
      have jl : j < 6 := by
        rw [List.length_map, List.length_map] at hj
        omega
      have sT := same_upd (o := .tup [V.str (one a), V.str (one b)]) hT
      have gD := sT _ _ gD
      have gn := sT _ _ gn
      have g1 := sT _ _ g1
      have re := re.same sT
      have kG := kG.trans (TG.kp sT)
      have TG := TG.same sT
      have gT : (upd G Tt (.tup [V.str (one a), V.str (one b)])) Tt = some (.tup [V.str (one a), V.str (one b)]) := upd_same
      generalize upd G Tt (.tup [V.str (one a), V.str (one b)]) = G1 at gT gD gn g1 re kG TG ⊢
      refine ⟨Tt, _, rfl, SqT.of gT, rfl, _, _, rfl, _, _, rfl, rfl, rfl, yes ?_⟩
      refine ⟨_, rfl, .ref t, rfl, _, rfl, _, rfl, _, rfl, one b, one b, rfl, rfl, by rw [sizeLine_eq]; show 1 + 1 ≤ 16777216; decide, ?_⟩
      refine ⟨_, rfl, 97, z, congrArg V.str (by decide +kernel : ("a" : Str) = ⟨#[97]⟩), rfl, .inr ⟨_, rfl, "a", _, rfl, rfl, ?_, ?_, by decide, fun rr hrr => ?_⟩⟩
      · split <;> omega
      · split <;> omega
      have rrz : rr.length = (tl rr).length := (Array.length_toList).symm
      have trr : tl rr = if 97 ∈ tl z then [97] else [] := by
        rw [hrr]
        by_cases q : 97 ∈ tl z
        · rw [if_pos q, decide_eq_true (p := 97 ∈ z.cps.toList) q]
          decide +kernel
        · rw [if_neg q, decide_eq_false (p := 97 ∈ z.cps.toList) q]
          rfl
      have trl : (tl rr).length ≤ 1 := by
        rw [trr]
        split
        · exact Nat.le_refl _
        · exact Nat.zero_le _
      refine ⟨_, rfl, rr, one b, rfl, rfl, by rw [rrz, sizeLine_eq]; show _ + 1 ≤ _; omega, ?_⟩
      have tb : tl (one b) = [b] := rfl
      refine ⟨by show 3 ≤ sizeLine; decide, fun L5 hL5 => ?_⟩
      have s5 := same_upd (o := .lst [V.str (one b), V.str (one b ++ one b), V.str (rr ++ one b)]) hL5
      refine ⟨t, c, _, .ref L5, rfl, TG.same s5, by omega, .inl ⟨L5, _, rfl, SqL.of upd_same, by simp, by show 3 < 2 ^ 30; decide, fun G2 vv k2 T2 mv => ?_⟩⟩
      obtain ⟨u, rfl, ul, um⟩ : ∃ u : Str, vv = .str u ∧ (tl u).length ≤ 3 ∧ ∀ d ∈ tl u, d ∈ tl z ∨ d ∈ tl nm := by
        have bm := msm b hb
        simp only [List.mem_cons, List.not_mem_nil, or_false] at mv
        rcases mv with h | h | h
        · refine ⟨_, h, by rw [tb]; show 1 ≤ 3; decide, fun d hd => ?_⟩
          rw [tb] at hd
          rw [List.mem_singleton.mp hd]
          exact .inr bm
        · refine ⟨_, h, by rw [tl_appG, tb]; show 2 ≤ 3; decide, fun d hd => ?_⟩
          rw [tl_appG, tb] at hd
          rcases List.mem_append.mp hd with q | q
          · rw [List.mem_singleton.mp q]
            exact .inr bm
          · rw [List.mem_singleton.mp q]
            exact .inr bm
        · refine ⟨_, h, by rw [tl_appG, tb, List.length_append]; show _ + 1 ≤ 3; omega, fun d hd => ?_⟩
          rw [tl_appG, tb] at hd
          rcases List.mem_append.mp hd with q | q
          · rw [trr] at q
            split at q
            · rename_i h97
              rw [List.mem_singleton.mp q]
              exact .inl h97
            · cases q
          · rw [List.mem_singleton.mp q]
            exact .inr bm
      have k5 := (TG.kp s5).trans k2
      have gD5 := k5.at gD (fun _ q => by cases q)
      have gn5 := k5.at gn (fun _ q => by cases q)
      have g15 := k5.at g1 (fun _ q => by cases q)
      have re5 := re.kp k5
      refine ⟨by show 2 ≤ sizeLine; decide, fun A hA => ?_⟩
      have sA := same_upd (o := .tup [V.str (one a), V.str u]) hA
      have gD6 := sA _ _ gD5
      have nAD : A ≠ D := (ne_of_none gD5 hA).symm
      refine ⟨_, gD6, by rw [List.length_map, sizeLine_eq]; omega, es ++ [((A, a, u) : En)], ?_, by rw [List.length_append, el]; rfl, fun e he => ?_, fun e he => ?_, (upd_ne nDn).trans (sA _ _ gn5), (upd_ne nD1).trans (sA _ _ g15), ((kG.trans k5).trans (T2.kp sA)).put hD0 D1, ((T2.same sA).upd D1 D2).mono (by omega)⟩
      · rw [upd_same, List.map_append]
        rfl
      · rcases List.mem_append.mp he with h | h
        · exact put_tupG gD6 _ _ (re5.same sA e h)
        · rw [List.mem_singleton.mp h]
          exact SqT.of ((upd_ne nAD).trans upd_same)
      · rcases List.mem_append.mp he with h | h
        · exact dr e h
        · rw [List.mem_singleton.mp h]
          exact ⟨msm a ha, ul, um⟩
    · rintro G ⟨es, gD, el, re, dr, gn, g1, kG, TG⟩
      have esl : es.length ≤ 6 := by
        rw [el, List.length_map, List.length_map]
        omega
      dsimp only [gName, List.set]
      refine ⟨.ref D, rfl, .ref t, rfl, 1, rfl, by show 2 ≤ sizeLine; decide, fun L6 hL6 => ?_⟩
      have s6 := same_upd (o := .lst [V.int 1, V.int (-1)]) hL6
      refine ⟨t, c, _, .ref L6, rfl, TG.same s6, by omega, .inl ⟨L6, _, rfl, SqL.of upd_same, by simp, by show 2 < 2 ^ 30; decide, fun G2 vv k2 T2 mv => ?_⟩⟩
      have k6 := (TG.kp s6).trans k2
      have gD6 := k6.at gD (fun _ q => by cases q)
      have gn6 := k6.at gn (fun _ q => by cases q)
      have re6 := re.kp k6
      have kG6 := kG.trans k6
      obtain ⟨bb, rfl⟩ : ∃ bb : Bool, vv = .int (if bb = true then 1 else -1) := by
        simp only [List.mem_cons, List.not_mem_nil, or_false] at mv
        rcases mv with h | h
        · exact ⟨true, h⟩
        · exact ⟨false, h⟩
      refine ⟨_, rfl, D, _, bb, rfl, SqL.of gD6, rfl, fun P1 hP1 => ?_⟩
      obtain ⟨fs, efs, fsub, fl⟩ : ∃ fs : List En, (if bb = true then es.map vE else (es.map vE).reverse) = fs.map vE ∧ (∀ e ∈ fs, e ∈ es) ∧ fs.length = es.length := by
        cases bb with
        | true => exact ⟨es, rfl, fun e he => he, rfl⟩
        | false => exact ⟨es.reverse, List.map_reverse.symm, fun e he => List.mem_reverse.mp he, List.length_reverse⟩
      rw [efs]
      have sP := same_upd (o := .lst (fs.map vE)) hP1
      have gP : (upd G2 P1 (.lst (fs.map vE))) P1 = some (.lst (fs.map vE)) := upd_same
      have gn7 := sP _ _ gn6
      have re7 := re6.same sP
      have kG7 := kG6.trans (T2.kp sP)
      have T7 := T2.same sP
      generalize upd G2 P1 (.lst (fs.map vE)) = G3 at gP gn7 re7 kG7 T7 ⊢
      have ml0 : 0 < ((ms.map one).map V.str).length := by
        rw [List.length_map, List.length_map]
        omega
      have lastm : ((ms.map one).map V.str)[((ms.map one).map V.str).length - 1]? = some (V.str (one (ms[ms.length - 1]'(by omega)))) := by
        rw [List.length_map, List.length_map, List.getElem?_map, List.getElem?_map, List.getElem?_eq_getElem (by omega)]
        rfl
      refine ⟨.ref Wn, rfl, 1, rfl, Wn, _, -1, _, rfl, rfl, SqL.of gn7, at_lastR lastm ml0, .ref t, rfl, .str z, rfl, t, c, _, z, 2, rfl, T7, by omega, al, by decide, by decide, fun G4 u k8 T8 ov ul => ?_⟩
      refine ⟨by show 2 ≤ sizeLine; decide, fun A hA => ?_⟩
      have gP8 := k8.at gP (fun _ q => by cases q)
      have sA := same_upd (o := .tup [V.str (one (ms[ms.length - 1]'(by omega))), V.str u]) hA
      refine ⟨by show 1 ≤ sizeLine; decide, fun L7 hL7 => ?_⟩
      have s7 := same_upd (o := .lst [V.ref A]) hL7
      refine ⟨P1, L7, _, _, rfl, rfl, s7 _ _ (sA _ _ gP8), upd_same, by rw [List.length_map, sizeLine_eq]; show _ + 1 ≤ _; omega, fun R hR => ?_⟩
      have s8 := same_upd (o := .lst (fs.map vE ++ [V.ref A])) hR
      have sAll := (sA.trans s7).trans s8
      have kAll := (kG7.trans k8).trans (T8.kp sAll)
      refine kk _ R nm (fs ++ [((A, ms[ms.length - 1]'(by omega), u) : En)]) kAll ((T8.same sAll).mono (by omega)) (((kG7.trans k8).trans (T8.kp (sA.trans s7))).gone hR) ?_ cp (by rw [List.length_append]; show _ + 1 ≤ 16; omega) (fun e he => ?_) fun e he => ?_
      · rw [upd_same, List.map_append]
        rfl
      · rcases List.mem_append.mp he with h | h
        · exact same_tupG sAll _ _ ((re7.kp k8) e (fsub e h))
        · rw [List.mem_singleton.mp h]
          exact same_tupG (s7.trans s8) _ _ (SqT.of upd_same)
      · rcases List.mem_append.mp he with h | h
        · exact dr e (fsub e h)
        · rw [List.mem_singleton.mp h]
          exact ⟨msm _ (List.getElem_mem _), by show (tl u).length ≤ 3; omega, fun d hd => .inl (ov d hd)⟩
end
end DW
/-! k69: the law -/
namespace DW
open PySem PySem.Spec PyProof.Rows L2 TL
set_option autoImplicit false
theorem asc_uniqN : ∀ a b : List Nat, a.Pairwise (· < ·) → b.Pairwise (· < ·) → (∀ x, x ∈ a ↔ x ∈ b) → a = b
  | [], [], _, _, _ => rfl
  | [], y :: b, _, _, h => nomatch (h y).mpr List.mem_cons_self
  | x :: a, [], _, _, h => nomatch (h x).mp List.mem_cons_self
  | x :: a, y :: b, pa, pb, h => by
    obtain ⟨ha, pa'⟩ := List.pairwise_cons.mp pa
    obtain ⟨hb, pb'⟩ := List.pairwise_cons.mp pb
    have e : x = y := by
      rcases List.mem_cons.mp ((h x).mp List.mem_cons_self) with q | q
      · exact q
      · rcases List.mem_cons.mp ((h y).mpr List.mem_cons_self) with p | p
        · exact p.symm
        · have := hb x q
          have := ha y p
          omega
    subst e
    rw [asc_uniqN a b pa' pb' fun v => ⟨fun m => ?_, fun m => ?_⟩]
    · rcases List.mem_cons.mp ((h v).mp (List.mem_cons_of_mem _ m)) with q | q
      · have := ha v m
        omega
      · exact q
    · rcases List.mem_cons.mp ((h v).mpr (List.mem_cons_of_mem _ m)) with q | q
      · have := hb v m
        omega
      · exact q
theorem DrU.good {z nm : Str} {e : En} (cp : CapsU nm) (h : DrU z nm e) : GoodE z e := by
  obtain ⟨h1, h2, h3⟩ := h
  refine ⟨cap_symU (cp.2.2 _ h1), ?_⟩
  unfold rightB
  rw [decide_eq_true h2, Bool.true_and]
  refine List.all_eq_true.mpr fun d hd => ?_
  rcases h3 d hd with q | q
  · rw [decide_eq_true q, Bool.or_true]
  · rw [cap_symU (cp.2.2 _ q)]
    rfl
theorem six_preU {z nm : Str} {fs : List En} (al : Alph z) (cp : CapsU nm) (ok : ∀ e ∈ fs, DrU z nm e) : nsym (chs (fs.map pE)) ≤ 6 := by
  refine Nat.le_trans (nsym_in (m := tl nm) fun q q26 hq => ?_) cp.2.1
  obtain ⟨p, hp, hm⟩ := List.mem_flatMap.mp hq
  obtain ⟨e, he, rfl⟩ := List.mem_map.mp hp
  obtain ⟨h1, h2, h3⟩ := ok e he
  rcases List.mem_cons.mp hm with h | h
  · have h : 65 + q = e.2.1 := h
    rw [h]
    exact h1
  · rcases h3 _ h with g | g
    · have := al.2.2.2 _ g
      omega
    · exact g
theorem ok_preU {K : PySem.W.Frag} {H : Hp} {z nm : Str} {fs : List En} (al : Alph z) (cp : CapsU nm) (re : RE K H fs) (ok : ∀ e ∈ fs, DrU z nm e) (l : fs.length ≤ 16) : GrPre K H z (fs.map vE) (fs.map pE) := by
  refine ⟨by rw [List.length_map]; exact l, fun i v hi hv => ?_, six_preU al cp ok⟩
  rw [List.length_map] at hi
  rw [List.getElem?_map, List.getElem?_eq_getElem hi] at hv
  have ev : V.ref fs[i].1 = v := Option.some.inj hv
  have m : fs[i] ∈ fs := List.getElem_mem hi
  obtain ⟨g1, g2⟩ := DrU.good (e := fs[i]) cp (ok _ m)
  exact ⟨fs[i].2.1, fs[i].2.2, by rw [List.getElem?_map, List.getElem?_eq_getElem hi]; rfl, fs[i].1, ev.symm, re _ m, g1, by have := (ok _ m).2.1; omega, g2⟩
theorem key_show : ∀ c < 26, (PyData.shown (.str (one (65 + c)))).length ≤ 3 := by
  intro c hc
  rw [PyData.shown_str]
  revert c
  decide +kernel
theorem val_show : ∀ r < 8, (PyData.shown (.int ((r : Nat) : Int))).length ≤ 1 := by
  intro r hr
  rw [PyData.shown_int]
  revert r
  decide +kernel
theorem dkD_show : ∀ {fd : Fd}, (∀ p ∈ fd, symB p.1 = true ∧ p.2 ≤ 7) → PyData.showableKv ((kvL fd).map fun p => (PyData.str p.1, PyData.int p.2)) = true ∧ PyData.depthKv ((kvL fd).map fun p => (PyData.str p.1, PyData.int p.2)) = 0 ∧ ((PyData.shownKv ((kvL fd).map fun p => (PyData.str p.1, PyData.int p.2))).map (·.length)).sum ≤ 6 * fd.length ∧ (PyData.shownKv ((kvL fd).map fun p => (PyData.str p.1, PyData.int p.2))).length = fd.length
  | [], _ => ⟨rfl, rfl, Nat.le_refl _, rfl⟩
  | p :: fd, h => by
    obtain ⟨h1, h2, h3, h4⟩ := dkD_show (fd := fd) fun q hq => h q (List.mem_cons_of_mem _ hq)
    obtain ⟨a, b⟩ := h p List.mem_cons_self
    unfold symB at a
    rw [Bool.and_eq_true, decide_eq_true_eq, decide_eq_true_eq] at a
    have k := key_show (p.1 - 65) (by omega)
    rw [show 65 + (p.1 - 65) = p.1 by omega] at k
    have v := val_show p.2 (by omega)
    have e : (kvL (p :: fd)).map (fun p => (PyData.str p.1, PyData.int p.2)) = (PyData.str (one p.1), PyData.int (p.2 : Int)) :: (kvL fd).map (fun p => (PyData.str p.1, PyData.int p.2)) := rfl
    rw [e]
    have lg : (p.2 : Int).natAbs.log2 < 1920 := by
      have : (p.2 : Int).natAbs = p.2 := rfl
      rw [this]
      have : ∀ r < 8, Nat.log2 r < 1920 := by decide +kernel
      exact this _ (by omega)
    refine ⟨by simp only [PyData.showableKv, PyData.showable, h1, Bool.and_true, Bool.true_and]; exact decide_eq_true lg, by simp only [PyData.depthKv, PyData.depth, h2]; rfl, ?_, by rw [PyData.shownKv_cons, List.length_cons, List.length_cons, h4]⟩
    rw [PyData.shownKv_cons, List.map_cons, List.sum_cons, List.length_cons]
    have e2 : ((": " : String) : Str).length = 2 := rfl
    have : (PyData.shown (.str (one p.1)) ++ ((": " : String) : Str) ++ PyData.shown (.int (p.2 : Int))).length ≤ 6 := by
      rw [strLen_append, strLen_append, e2]
      omega
    omega
theorem dk_show {fd : Fd} (h : ∀ p ∈ fd, symB p.1 = true ∧ p.2 ≤ 7) (l : fd.length ≤ 6) : (GA.dkD (kvL fd)).showable = true ∧ (GA.dkD (kvL fd)).depth ≤ 64 ∧ (GA.dkD (kvL fd)).shown.length ≤ sizeLine := by
  obtain ⟨h1, h2, h3, h4⟩ := dkD_show h
  unfold GA.dkD
  refine ⟨by simp only [PyData.showable, h1], by simp only [PyData.depth, h2]; decide, ?_⟩
  rw [PyData.shown_dict]
  have j := StrLaws.join_length_le ", " (PyData.shownKv ((kvL fd).map fun p => (PyData.str p.1, PyData.int p.2)))
  rw [h4] at j
  have e1 : (("{" : String) : Str).length = 1 := rfl
  have e2 : (("}" : String) : Str).length = 1 := rfl
  have e3 : ((", " : String) : Str).length = 2 := rfl
  rw [e3] at j
  rw [strLen_append, strLen_append, e1, e2, sizeLine_eq]
  omega
theorem FF_val {ps : List (Nat × Str)} {c r : Nat} : ∀ {n : Nat}, (c, r) ∈ FF ps n → r ≤ n
  | 0, h => nomatch h
  | n + 1, h => by
    rcases stp_val h with q | q
    · have := FF_val q
      omega
    · omega
theorem rk_le {fd : Fd} {c m : Nat} (h : ∀ p ∈ fd, p.2 ≤ m) : rkF fd c ≤ m := by
  unfold rkF
  cases e : fd.find? fun p => decide (p.1 = c) with
  | none => exact Nat.zero_le _
  | some p => exact h p (List.mem_of_find?_eq_some e)
/-- what stands while a grammar is asked -/
structure Fx (K : PySem.W.Frag) (C : Addr) (G : Hp) (a g r o : Addr) (z : Str) (es : List En) (d : Addr) (fd : Fd) (t c : Addr) (n : Nat) : Prop where
  ha : G a = some (.lst (es.map vE))
  gr : GrAtR C G g z (es.map vE) (es.map pE) r o
  re : RE K G es
  gd : G d = some (.dK (kvR fd))
  tp : Tape G t c n
section
variable {K : PySem.W.Frag} {C a g r o d t c : Addr} {z : Str} {es : List En} {fd : Fd} {n : Nat} {G G' G0 : Hp}
theorem Fx.same (f : Fx K C G a g r o z es d fd t c n) (s : Same G G') : Fx K C G' a g r o z es d fd t c n := ⟨s _ _ f.ha, f.gr.same s, f.re.same s, s _ _ f.gd, f.tp.same s⟩
theorem Fx.ge (f : Fx K C G a g r o z es d fd t c n) : GrE K C G g z es := ⟨⟨r, o, f.gr⟩, f.re⟩
end
section
variable {P : Program} {w : World} {K : PySem.W.Frag} {mg : Str → Option Value} {base : Heap}
structure Ds (P : Program) (K : PySem.W.Frag) (mg : Str → Option Value) where
  p_is_ascending : Df K mg "is_ascending" sIsAscending ["letters"]
  p_is_alphabet : Df K mg "is_alphabet" sIsAlphabet ["thing"]
  p_is_symbol : Df K mg "is_symbol" sIsSymbol ["item"]
  p_symbols_among : Df K mg "symbols_among" sSymbolsAmong ["items"]
  p_is_production : Df K mg "is_production" sIsProduction ["alphabet", "thing"]
  p_symbols_of_next_rank : Df K mg "symbols_of_next_rank" sSymbolsOfNextRank ["grammar", "found"]
  p_ranks : Df K mg "ranks" sRanks ["grammar"]
  begin : Df K mg "_law_begin" sBegin ["_law_script"]
  draw : Df K mg "_law_draw" sDraw ["_law_tape", "_law_many"]
  pick : Df K mg "_law_pick" sPick ["_law_tape", "_law_items"]
  alphabet : Df K mg "_law_alphabet" sAlpha ["_law_tape"]
  word : Df K mg "_law_word" sWord ["_law_tape", "_law_alphabet_here", "_law_longest"]
  symbols : Df K mg "_law_symbols" sLSymbols ["_law_tape"]
  rules : Df K mg "_law_rules" sLRules ["_law_tape", "_law_alphabet_here", "_law_many"]
  made : Df K mg "_law_made" sLMade ["_law_tape", "_law_alphabet_here", "_law_many"]
  names_of : Df K mg "_law_names_of" sLNamesOf ["_law_text"]
  heights : Df K mg "_law_heights" sLHeights ["_law_rules_here"]
  chain : Df K mg "_law_chain" sLChain ["_law_tape", "_law_alphabet_here"]
  B : Bl mg
  b_all : mg "all" = none
  b_zip : mg "zip" = none
  b_isinstance : mg "isinstance" = none
  b_str : mg "str" = none
  b_tuple : mg "tuple" = none
  b_int : mg "int" = none
  b_dict : mg "dict" = none
  b_list : mg "list" = none
  b_repr : mg "repr" = none
  b_enumerate : mg "enumerate" = none
  c_MOST_LETTERS : ∃ t, mg "MOST_LETTERS" = some (.int 3 t)
  c_MOST_ITEMS : ∃ t, mg "MOST_ITEMS" = some (.int 3 t)
  c_MOST_PRODUCTIONS : ∃ t, mg "MOST_PRODUCTIONS" = some (.int 16 t)
  c_MOST_SYMBOLS : ∃ t, mg "MOST_SYMBOLS" = some (.int 6 t)
  gra : DfGM K mg
  e_InvalidAlphabet : EX.DfE0 K mg "InvalidAlphabet"
  e_InvalidProduction : EX.DfE P K mg "InvalidProduction" "index" EX.MsgOk
def spLaw (K : PySem.W.Frag) : Sp := fun vs H Q _ => ∃ (a : Addr) (ns : List Int), vs = [.ref a] ∧ SqL K H a (ns.map V.int) ∧ ∀ H', Q (.bl true) H'
theorem scLaw : FnScope ["_law_script", "_law_tape", "_law_turn", "_law_alphabet_here", "_law_rules_here", "_law_due", "_law_grammar", "_law_again", "_law_told", "_law_symbol"] ["_law_script"] (defScope sLaw) := ⟨rfl, rfl, rfl, by decide +kernel, rfl, by decide +kernel, by decide +kernel⟩
theorem ok_law (D : Df K mg "law" sLaw ["_law_script"]) (S : Ds P K mg) : GA.FnAt P w K mg base D.f D.fd ["_law_script"] (spLaw K) := by
  let L : DfGr K mg := ⟨S.gra.toDfG, S.p_is_alphabet, S.p_is_ascending, S.p_is_production, S.p_is_symbol, S.p_symbols_among, S.b_all, S.b_zip, S.b_isinstance, S.b_str, S.b_tuple, S.B.len, S.b_list, S.b_enumerate, S.B.sorted, S.c_MOST_LETTERS, S.c_MOST_ITEMS, S.c_MOST_PRODUCTIONS, S.c_MOST_SYMBOLS⟩
  let R : DfRk K mg := ⟨S.gra, S.p_symbols_of_next_rank, S.p_ranks, S.p_symbols_among, S.p_is_symbol, S.b_all, S.b_list, S.B.sorted⟩
  have Gb : FnOk P w K mg base CX0 1 S.begin.f S.begin.fd ["_law_script"] (spBegin K) := ok_begin S.begin
  have Ga : FnOk P w K mg base CX0 3 S.alphabet.f S.alphabet.fd ["_law_tape"] spAlpha := ok_alpha S.alphabet S.draw S.pick S.B
  have Gp : FnOk P w K mg base CX0 2 S.pick.f S.pick.fd ["_law_tape", "_law_items"] (spPick K) := ok_pick S.pick S.draw S.B.len
  have Gm : FnOk P w K mg base CX0 5 S.made.f S.made.fd ["_law_tape", "_law_alphabet_here", "_law_many"] (spMdU K) := ok_mdU S.made S.rules S.symbols S.word S.draw S.pick S.b_int S.B
  have Gc : FnOk P w K mg base CX0 4 S.chain.f S.chain.fd ["_law_tape", "_law_alphabet_here"] (spChU K) := ok_chU S.chain S.word S.draw S.pick S.b_int S.b_list S.b_zip S.B
  have Gh : FnOk P w K mg base CX0 2 S.heights.f S.heights.fd ["_law_rules_here"] (spHts K) := ok_hts S.heights S.names_of S.b_dict S.b_list
  have Gk : FnOk P w K mg base CX0 4 S.p_ranks.f S.p_ranks.fd ["grammar"] (spRk K S.gra.C) := ok_rk R
  have GI : FnOk P w K mg base CX0 3 L.i.f L.i.fd ["self", "alphabet", "productions"] (spGrO K) := ok_grO L S.e_InvalidAlphabet S.e_InvalidProduction
  have GP : FnOk P w K mg base CX0 1 S.gra.p.f S.gra.p.fd ["self"] (spGrP K S.gra.C) := ok_grP S.gra S.b_list
  refine GA.okAt (k := 9) D.F scLaw ⟨rfl, by decide, by decide⟩ (fun vs H Q E h => ?_) (fun cdv s H vs Q E hr h => ?_)
  · obtain ⟨a, ns, rfl, _⟩ := h
    rfl
  · obtain ⟨a, ns, rfl, hS, k⟩ := h
    have hr1 : Room 1 _ := hr.mono (by decide)
    have hr2 : Room 2 _ := hr.mono (by decide)
    have hr3 : Room 3 _ := hr.mono (by decide)
    have hr4 : Room 4 _ := hr.mono (by decide)
    have hr5 : Room 5 _ := hr.mono (by decide)
    have hr31 : Room (3 + 1) _ := hr.mono (by decide)
    have hu0 : (callerA.deeper (envOfC "law" (defScope sLaw) s.heap.objs.size D.f cdv)).units + 66 < cLine := by have := hr.un; omega
    have hu1 : (callerA.deeper (envOfC "law" (defScope sLaw) s.heap.objs.size D.f cdv)).units + 1 < cLine := by omega
    have rR : CallR (cxOf CX0 P w K mg base ["_law_script", "_law_tape", "_law_turn", "_law_alphabet_here", "_law_rules_here", "_law_due", "_law_grammar", "_law_again", "_law_told", "_law_symbol"] "law" (defScope sLaw) D.f cdv callerA [] s H E).nox (.builtin "repr") (fun xs H Q => ∃ (a : Addr) (l : List (Str × Int)), xs = [.ref a] ∧ H a = some (.dK (GA.kvT l)) ∧ (GA.dkD l).showable = true ∧ (GA.dkD l).depth ≤ 64 ∧ (GA.dkD l).shown.length ≤ sizeLine ∧ Q (.str (GA.dkD l).shown) H) := GA.cr_reprK rfl hu0
    have sl := sizeLine_eq
    refine ⟨_, PSs.nox (pss_cons (ps_set (i := 1) scLaw.nd rfl (.inl rfl) (pe_call Gb hr1 (by rfl) S.begin.g S.begin.F.kp S.begin.b .nil pass0 (pa_cons (pv 0) pa_nil))) (pss_cons (ps_for PassesOwn.never rfl (pi_range1 rfl S.B.range (pa_cons pe_int pa_nil)) (pg_name (i := 2) scLaw.nd rfl (.inl rfl)) (pss_cons (ps_set (i := 3) scLaw.nd rfl (.inl rfl) (pe_call Ga hr3 (by rfl) S.alphabet.g S.alphabet.F.kp S.alphabet.b .nil pass0 (pa_cons (pv 1) pa_nil))) (C8.pss_cut (ps_set (i := 4) scLaw.nd rfl (.inl rfl) (pe_ifExp (pt_cmpR op_gt (pe_op op_mod (pv 2) pe_int) pe_int (nomark _)) (pe_call Gm hr5 (by rfl) S.made.g S.made.F.kp S.made.b .nil pass0 (pa_cons (pv 1) (pa_cons (pv 3) (pa_cons pe_int pa_nil)))) (pe_call Gp hr2 (by rfl) S.pick.g S.pick.F.kp S.pick.b .nil pass0 (pa_cons (pv 1) (pa_cons (pe_lst (pa_cons (pe_lst pa_nil) (pa_cons (pe_call Gc hr4 (by rfl) S.chain.g S.chain.F.kp S.chain.b .nil pass0 (pa_cons (pv 1) (pa_cons (pv 3) pa_nil))) pa_nil))) pa_nil))))) (pss_cons (ps_set (i := 5) scLaw.nd rfl (.inr rfl) (pe_call Gh hr2 (by rfl) S.heights.g S.heights.F.kp S.heights.b .nil pass0 (pa_cons (pv 4) pa_nil))) (C8.pss_cut (ps_set (i := 5) scLaw.nd rfl (.inr rfl) (pe_callTy (call_dictP rfl) (by rfl) S.b_dict (by decide +kernel) (pa_cons (pe_lc (own := [("_law_symbol", 9)]) (g := gName 9) rfl scLaw.nd (pi_list (pe_callB (call_sortedD rfl) (by rfl) S.B.sorted (by decide +kernel) (pa_cons (pv 5) pa_nil))) (blkOk_by (N := ["_law_script", "_law_tape", "_law_turn", "_law_alphabet_here", "_law_rules_here", "_law_due", "_law_grammar", "_law_again", "_law_told", "_law_symbol"]) (sc := defScope sLaw) (by decide +kernel)) (fun _ _ _ _ _ => pg_name (i := 9) scLaw.nd rfl (Or.inl rfl)) (fun _ _ _ _ _ => pts_nil) (fun _ _ _ _ _ => (pe_tup (pa_cons (pv 9) (pa_cons (pe_dget hu1 (pv 5) (pv 9) (fun _ _ => rfl)) pa_nil))))) pa_nil))) (pss_cons (ps_set (i := 6) scLaw.nd rfl (.inl rfl) (pe_make L.mkr GI hr31 (by rfl) L.g L.i.b .nil pass0 (pa_cons (pv 3) (pa_cons (pv 4) pa_nil)))) (C8.pss_cut (ps_for PassesOwn.never rfl (pi_range1 rfl S.B.range (pa_cons pe_int pa_nil)) (pg_name (i := 7) scLaw.nd rfl (.inl rfl)) (pss_cons (ps_set (i := 8) scLaw.nd rfl (.inl rfl) (pe_call Gk hr4 (by rfl) S.p_ranks.g S.p_ranks.F.kp S.p_ranks.b .nil pass0 (pa_cons (pv 6) pa_nil))) (pss_cons (ps_if (pt_cmpR op_ne (pe_callB rR (by rfl) S.b_repr (by decide +kernel) (pa_cons (pv 8) pa_nil)) (pe_callB rR (by rfl) S.b_repr (by decide +kernel) (pa_cons (pv 5) pa_nil)) (nomark _)) (pss_one (ps_ret pe_bl)) pss_nil) (pss_one (ps_dput hu1 (pv 8) pe_str pe_int rfl))))) (pss_one (ps_if (pt_cmpR (op_neD hr.units) (pe_meth0 (pv 6) S.gra.cl S.gra.mtp GP hr1 S.gra.p.b .nil pass0) (pv 4) (nomark _)) (pss_one (ps_ret pe_bl)) pss_nil))))))))) (pss_one (ps_ret pe_bl)))), ?_⟩
    refine ⟨.ref a, rfl, a, ns, rfl, hS, fun H0 t c s0' ht hc T0 => ?_⟩
    refine ⟨8, rfl, by decide, by decide, for_it walk_range (fun i σ H' => ∃ y2 y3 y4 y5 y6 y7 y8 y9, σ = [some (.ref a), some (.ref t), y2, y3, y4, y5, y6, y7, y8, y9] ∧ Tape H' t c (30000 * i)) ⟨_, _, _, _, _, _, _, _, rfl, T0⟩ (fun _ _ _ _ _ => trivial) ?_ ?_⟩
    · rintro i x0 σ G G' hi ⟨y2, y3, y4, y5, y6, y7, y8, y9, rfl, T⟩ ⟨rfl, rfl⟩
      dsimp only [gName, List.set]
      refine ⟨.ref t, rfl, t, c, 30000 * i, rfl, T, by omega, fun H1 z k1 T1 al => ?_⟩
      refine ⟨fun σ G => ∃ ra nm es, σ = [some (.ref a), some (.ref t), some (.int (0 + (i : Int))), some (.str z), some (.ref ra), y5, y6, y7, y8, y9] ∧ G ra = some (.lst (es.map vE)) ∧ CapsU nm ∧ es.length ≤ 16 ∧ RE K G es ∧ (∀ e ∈ es, DrU z nm e) ∧ Tape G t c (30000 * i + 29000), ?_, ?_⟩
      · refine ⟨_, rfl, _, 4, rfl, rfl, (by decide : (0 : Int) < 4), _, 0, rfl, rfl, _, rfl, ite2 (fun _ => ?_) (fun _ => ?_)⟩
        · refine ⟨.ref t, rfl, .str z, rfl, t, c, _, z, 12, rfl, T1, by omega, al, by decide, by decide, fun H2 ra nm es k2 T2 nra ha cp el re dr => ?_⟩
          exact ⟨ra, nm, es, rfl, ha, cp, el, re, dr, T2.mono (by omega)⟩
        · refine ⟨.ref t, rfl, by show 0 ≤ sizeLine; decide, fun l0 h_l0 => ?_⟩
          have s_l0 := same_upd (o := .lst []) h_l0
          have g_l0 : (upd H1 l0 (.lst [])) l0 = some (.lst []) := upd_same
          generalize upd H1 l0 (.lst []) = H2 at s_l0 g_l0 ⊢
          have T1 := T1.same s_l0
          clear s_l0 h_l0
          refine ⟨.ref t, rfl, .str z, rfl, t, c, _, z, rfl, T1, by omega, al, fun H3 ra nm es k2 T2 nra ha cp el re dr => ?_⟩
          have g_l0 := k2.at g_l0 (fun _ q => by cases q)
          refine ⟨by show 2 ≤ sizeLine; decide, fun l1 h_l1 => ?_⟩
          have s_l1 := same_upd (o := .lst [V.ref l0, V.ref ra]) h_l1
          have g_l1 : (upd H3 l1 (.lst [V.ref l0, V.ref ra])) l1 = some (.lst [V.ref l0, V.ref ra]) := upd_same
          generalize upd H3 l1 (.lst [V.ref l0, V.ref ra]) = H4 at s_l1 g_l1 ⊢
          have T2 := T2.same s_l1
          have g_l0 := s_l1 _ _ g_l0
          have ha := s_l1 _ _ ha
          have re := re.same s_l1
          clear s_l1 h_l1
          refine ⟨t, c, _, .ref l1, rfl, T2, by omega, .inl ⟨l1, _, rfl, SqL.of g_l1, by simp, by show 2 < 2 ^ 30; decide, fun H5 y k5 T5 my => ?_⟩⟩
          have g_l0 := k5.at g_l0 (fun _ q => by cases q)
          have ha := k5.at ha (fun _ q => by cases q)
          have re := re.kp k5
          simp only [List.mem_cons, List.not_mem_nil, or_false] at my
          rcases my with rfl | rfl
          · exact ⟨l0, "S", [], rfl, g_l0, ⟨by decide, by decide, by decide +kernel⟩, by decide, fun e h => (nomatch h), fun e h => (nomatch h), T5.mono (by omega)⟩
          · exact ⟨ra, nm, es, rfl, ha, cp, el, re, dr, T5.mono (by omega)⟩
      clear k1 T1 T
      rintro σ G1 ⟨ra, nm, es, rfl, ha, cp, el, re, dr, T⟩
      have six := six_preU al cp dr
      have esy : ∀ e ∈ es, (tl e.2.2).length ≤ 100 ∧ symB e.2.1 = true := fun e he => ⟨by have := (dr e he).2.1; omega, (DrU.good cp (dr e he)).1⟩
      have sy : ∀ p ∈ es.map pE, symB p.1 = true := fun p hp => by
        obtain ⟨e, he, rfl⟩ := List.mem_map.mp hp
        exact (esy e he).2
      have low : ∀ e ∈ es, LowP e.2 := fun e he => (DrU.good (e := e) cp (dr e he)).low al
      refine ⟨.ref ra, rfl, ra, es, rfl, ha, re, el, esy, six, fun G2 d0 s2 nd0 gd0 => ?_⟩
      have ha := s2 _ _ ha
      have re := re.same s2
      have T := T.same s2
      clear s2 nd0
      dsimp only [List.set]
      have kl := FF_six six sy 7
      have knd := FF_nd (es.map pE) 7
      have fv : ∀ p ∈ FF (es.map pE) 7, p.2 ≤ 7 := fun p hp => FF_val hp
      have fs : ∀ c ∈ keysF (FF (es.map pE) 7), symB c = true := fun c hc => by
        obtain ⟨p, hp, rfl⟩ := FF_sub hc
        exact sy p hp
      refine ⟨fun σ G => ∃ (du : Addr) (cs : List Nat) (y9' : Option V), σ = [some (.ref a), some (.ref t), some (.int (0 + (i : Int))), some (.str z), some (.ref ra), some (.ref du), y6, y7, y8, y9'] ∧ G ra = some (.lst (es.map vE)) ∧ RE K G es ∧ Tape G t c (30000 * i + 29000) ∧ G du = some (.dK (kvR (cs.map fun c => (c, rkF (FF (es.map pE) 7) c)))) ∧ cs.Pairwise (· < ·) ∧ (∀ c, c ∈ cs ↔ c ∈ keysF (FF (es.map pE) 7)), ?_, ?_⟩
      · generalize FF (es.map pE) 7 = fd at gd0 kl knd
        have kl2 : (keysF fd).length ≤ 6 := by
          unfold keysF
          rw [List.length_map]
          exact kl
        refine ⟨.ref d0, rfl, d0, _, (keysF fd).map one, rfl, .inl gd0, ?_, by rw [List.length_map]; omega, fun ys p pm so h_p => ?_⟩
        · rw [kvR_eq, List.map_map, List.map_map]
          unfold keysF
          rw [List.map_map]
          rfl
        obtain ⟨cs, rfl, pw⟩ := sorted_ones ys (fun y hy => by
          obtain ⟨c, _, e⟩ := List.mem_map.mp (pm.mem_iff.mp hy)
          exact ⟨c, e.symm⟩) (pm.nodup_iff.mpr (nodup_onesR knd)) so
        have csm : ∀ c, c ∈ cs ↔ c ∈ keysF fd := fun c => by
          rw [← mem_onesR (l := cs), ← mem_onesR (l := keysF fd), pm.mem_iff]
        have csl : cs.length ≤ 6 := by
          have := pm.length_eq
          rw [List.length_map, List.length_map] at this
          omega
        have s_p := same_upd (o := .lst ((cs.map one).map V.str)) h_p
        have g_p : (upd G2 p (.lst ((cs.map one).map V.str))) p = some (.lst ((cs.map one).map V.str)) := upd_same
        generalize upd G2 p (.lst ((cs.map one).map V.str)) = G3 at s_p g_p ⊢
        have gd0 := s_p _ _ gd0
        have ha := s_p _ _ ha
        have re := re.same s_p
        have T := T.same s_p
        clear s_p h_p
        refine ⟨p, rfl, ⟨_, SqL.of g_p⟩, fun L hL => ?_⟩
        refine lc_it (walk_list (xs := (cs.map one).map V.str)) (fun j G => ∃ ps : List Addr, ps.length = j ∧ G L = some (.lst (ps.map V.ref)) ∧ Paired (fun p kv => SqT K G p [kV kv.1, kv.2]) ps (kvR ((cs.take j).map fun c => (c, rkF fd c))) ∧ Same G3 G) ⟨[], rfl, upd_same, .nil, same_upd hL⟩ (fun _ _ _ ⟨_, _, _, _, sm⟩ => SqL.of (sm _ _ g_p)) ?_ ?_
        · rintro j x F1 F2 hj ⟨ps, pl, gL, pp, sm⟩ ⟨rfl, hx⟩
          rw [List.length_map, List.length_map] at hj
          rw [List.getElem?_map, List.getElem?_map, List.getElem?_eq_getElem hj] at hx
          have hx : V.str (one cs[j]) = x := Option.some.inj hx
          subst hx
          have mk : cs[j] ∈ keysF fd := (csm _).mp (List.getElem_mem hj)
          have tk : cs.take (j + 1) = cs.take j ++ [cs[j]] := by rw [List.take_add_one, List.getElem?_eq_getElem hj]; rfl
          have dg := DGet.k (k := Sum.inr (one cs[j])) (sm _ _ gd0)
          rw [val_rk mk] at dg
          refine ⟨rfl, yes ⟨.str (one cs[j]), rfl, .ref d0, rfl, .str (one cs[j]), rfl, d0, .int (rkF fd cs[j] : Int), rfl, dg, by show 2 ≤ sizeLine; decide, fun tp h_tp => ?_⟩⟩
          have s_tp := same_upd (o := .tup [V.str (one cs[j]), V.int (rkF fd cs[j] : Int)]) h_tp
          refine ⟨_, s_tp _ _ gL, by rw [List.length_map, sl]; omega, ps ++ [tp], by rw [List.length_append, pl]; rfl, by rw [upd_same, List.map_append]; rfl, ?_, fun b o e => (upd_ne (ne_of_none e hL)).trans (s_tp _ _ (sm _ _ e))⟩
          have gL2 := s_tp _ _ gL
          have e1 : kvR ((cs.take (j + 1)).map fun c => (c, rkF fd c)) = kvR ((cs.take j).map fun c => (c, rkF fd c)) ++ [(Sum.inr (one cs[j]), V.int (rkF fd cs[j] : Int))] := by
            rw [tk, List.map_append, kvR_eq, kvR_eq, List.map_append]
            rfl
          rw [e1]
          exact paired_app (paired_imp (fun p kv h => put_tupG gL2 p _ (same_tupG s_tp _ _ h)) pp) (.cons (put_tupG gL2 tp _ (SqT.of upd_same)) .nil)
        rintro F ⟨ps, pl, gL, pp, sm⟩
        rw [List.length_map, List.length_map, List.take_length] at pp
        refine ⟨L, ps, _, rfl, SqL.of gL, pp, fun q hq => ?_⟩
        have kn : (keysF ([] ++ cs.map fun c => (c, rkF fd c))).Nodup := by
          rw [List.nil_append]
          unfold keysF
          rw [List.map_map]
          rw [show (fun p : Nat × Nat => p.1) ∘ (fun c => (c, rkF fd c)) = id from rfl, List.map_id]
          exact pw.imp fun h e => by rw [e] at h; exact Nat.lt_irrefl _ h
        have em : mergeK ([] : List (Key × V)) (kvR (cs.map fun c => (c, rkF fd c))) = kvR (cs.map fun c => (c, rkF fd c)) := merge_nd (fd := []) kn
        rw [em]
        have sq := same_upd (o := .dK (kvR (cs.map fun c => (c, rkF fd c)))) hq
        exact ⟨q, cs, _, rfl, sq _ _ (sm _ _ ha), (re.same sm).same sq, (T.same sm).same sq, upd_same, pw, csm⟩
      clear ha re T gd0
      rintro σ G3 ⟨du, cs, y9', rfl, ha, re, T, gdu, pw, csm⟩
      refine ⟨.str z, rfl, .ref ra, rfl, fun x1 dx hx hdx nxd => ?_⟩
      have sX : Same G3 (upd (upd G3 dx (.own x1)) x1 (.ins L.C dx [])) := fun b o e => (upd_ne (ne_of_none e hx)).trans ((upd_ne (ne_of_none e hdx)).trans e)
      have pre := ok_preU al cp re dr el
      refine ⟨x1, L.C, dx, z, ra, es.map vE, es.map pE, rfl, upd_same, L.cl, L.nB, L.nR, L.nO, al, .inl (sX _ _ ha), pre.same sX, by rw [List.length_map, List.length_map], fun G4 kp gr => ?_⟩
      have sU : Same G3 G4 := fun b o e => kp b o (sX _ _ e) (ne_of_none e hx)
      obtain ⟨r1, o1, _, _, gr⟩ := gr
      have fx : Fx K S.gra.C G4 ra x1 r1 o1 z es du (cs.map fun c => (c, rkF (FF (es.map pE) 7) c)) t c (30000 * i + 29000) := ⟨sU _ _ ha, gr, re.same sU, sU _ _ gdu, T.same sU⟩
      clear sU kp sX hx hdx nxd pre gr ha re T gdu
      have csl : cs.length ≤ 6 := by
        refine Nat.le_trans (nodup_lenS cs (keysF (FF (es.map pE) 7)) (pw.imp fun h e => by rw [e] at h; exact Nat.lt_irrefl _ h) fun c hc => (csm c).mp hc) ?_
        unfold keysF
        rw [List.length_map]
        exact kl
      obtain ⟨sh1, sh2, sh3⟩ := dk_show (fd := cs.map fun c => (c, rkF (FF (es.map pE) 7) c)) (fun p hp => by
        obtain ⟨c, hc, rfl⟩ := List.mem_map.mp hp
        exact ⟨fs c ((csm c).mp hc), rk_le fv⟩) (by rw [List.length_map]; exact csl)
      refine ⟨rfl, ?_⟩
      refine ⟨fun σ G => ∃ y7 y8, σ = [some (.ref a), some (.ref t), some (.int (0 + (i : Int))), some (.str z), some (.ref ra), some (.ref du), some (.ref x1), y7, y8, y9'] ∧ Fx K S.gra.C G ra x1 r1 o1 z es du (cs.map fun c => (c, rkF (FF (es.map pE) 7) c)) t c (30000 * i + 29000), ?_, ?_⟩
      · refine ⟨2, rfl, by decide, by decide, for_it walk_range (fun j σ G => ∃ y7 y8, σ = [some (.ref a), some (.ref t), some (.int (0 + (i : Int))), some (.str z), some (.ref ra), some (.ref du), some (.ref x1), y7, y8, y9'] ∧ Fx K S.gra.C G ra x1 r1 o1 z es du (cs.map fun c => (c, rkF (FF (es.map pE) 7) c)) t c (30000 * i + 29000)) ⟨_, _, rfl, fx⟩ (fun _ _ _ _ _ => trivial) ?_ ?_⟩
        · clear fx
          rintro j v σ F1 F2 hj ⟨y7, y8, rfl, fx⟩ ⟨rfl, rfl⟩
          dsimp only [gName, List.set]
          refine ⟨.ref x1, rfl, x1, z, es, rfl, fx.ge, el, esy, six, fun F3 r cs2 s3 nr gr pw2 csm2 => ?_⟩
          have ecs : cs2 = cs := asc_uniqN cs2 cs pw2 pw fun x => by rw [csm2, csm]
          subst ecs
          have fx3 := fx.same s3
          dsimp only [List.set]
          refine ⟨.ref r, rfl, r, kvL (cs2.map fun c => (c, rkF (FF (es.map pE) 7) c)), rfl, gr, sh1, sh2, sh3, .ref du, rfl, du, kvL (cs2.map fun c => (c, rkF (FF (es.map pE) 7) c)), rfl, fx3.gd, sh1, sh2, sh3, rfl, _, rfl, ?_⟩
          rw [decide_eq_true rfl]
          refine iteF ?_
          refine ⟨.ref r, rfl, r, _, rfl, DPut.k (k := Sum.inr "Q") gr ?_, _, _, rfl, fx.same fun b o e => (upd_ne (ne_of_none e nr)).trans (s3 b o e)⟩
          rw [kvR_len, List.length_map, sl]
          omega
        · rintro σ F ⟨y7, y8, rfl, fx⟩
          exact ⟨_, _, rfl, fx⟩
      clear fx
      rintro σ G5 ⟨y7, y8, rfl, fx⟩
      obtain ⟨dx1, ys1, hx1, _⟩ := id fx.gr
      refine ⟨.ref x1, rfl, x1, dx1, _, rfl, hx1, flG_no _ _ _ (by decide) (by decide) (by decide), x1, z, es, rfl, fx.ge, fun F3 l1 s3 nl1 gl1 => ?_⟩
      have fx3 := fx.same s3
      have lop : ∀ q ∈ es.map pE, LowP q := fun q hq => by
        obtain ⟨e, he, rfl⟩ := List.mem_map.mp hq
        exact low e he
      refine ⟨.ref ra, rfl, .list ((es.map pE).map eD), .list ((es.map pE).map eD), .lst (SqL.of gl1) fx3.re.dp, .lst (SqL.of fx3.ha) fx3.re.dp, el_shaped lop, el_shaped lop, ?_⟩
      rw [el_eqv, decide_eq_true rfl]
      refine ⟨_, rfl, iteF ?_⟩
      exact ⟨_, _, _, _, _, _, _, _, rfl, fx3.tp.mono (by omega)⟩
    · rintro σ H' ⟨y2, y3, y4, y5, y6, y7, y8, y9, rfl, _⟩
      exact k _
end
end DW
set_option maxHeartbeats 0
namespace DW
open PySem PySem.Spec PyProof.Rows L2
theorem df {K : PySem.W.Frag} {h : Heap} {mg : Str → Option Value} {x : Str} {st : Stmt} {ps : List Str} (X : K.In h) (G : h.Ns mainGlobals mg) (hf : ∃ fd, FunD K x x (defArgs st) (defBody st) (defScope st) [] [] (He.fAd K (x, none)) fd) (hg : (He.Fa.glo x).ok K = true)
    (b : ∀ (kV doc pm : Value) (an : Option Addr) (cdv ct : Value) (us : List Value), us.length = ps.length → bindArgs (PySem.W.fnOf x x (defArgs st) (defBody st) (defScope st) .none kV doc pm an cdv ct) ⟨us, []⟩ = pure (ps.zip us)) :
    ∃ D : Df K mg x st ps, D.f = He.fAd K (x, none) := by
  obtain ⟨fd, F⟩ := hf
  exact ⟨⟨He.fAd K (x, none), fd, F, He.glo_ok X G hg, F.bindsN b⟩, rfl⟩
theorem facts {w : World} {K : PySem.W.Frag} {h : Heap} {mg : Str → Option Value} {f : Addr} (X : K.In h) (G : h.Ns mainGlobals mg) (hfa : mg ("law" : Str) = some (.ref f)) (cx : EX.SaysX R.prog fa fn xs K) :
    ∃ fd : FuncData, (∀ (s : Shared) (v : Value), BindsTo s fd ⟨[v], []⟩ [("_law_script", v)]) ∧ ∀ base : Heap, K.In base → base.Ns mainGlobals mg → GA.FnAt R.prog w K mg base f fd ["_law_script"] (spLaw K) := by
  have c := cx.d
  have e := hfa.symm.trans (He.glo_ok X G (c.fact 0 (f := .glo "law") rfl))
  cases e
  obtain ⟨D0, e0⟩ := df (st := sLaw) (ps := ["_law_script"]) X G (c.def_ 0 (d := mkD "law" sLaw) rfl) (c.fact 0 (f := .glo "law") rfl) fun _ _ _ _ _ _ us hl => match us, hl with | [_], _ => rfl
  obtain ⟨D1, e1⟩ := df (st := sIsAscending) (ps := ["letters"]) X G (c.def_ 1 (d := mkD "is_ascending" sIsAscending) rfl) (c.fact 1 (f := .glo "is_ascending") rfl) fun _ _ _ _ _ _ us hl => match us, hl with | [_], _ => rfl
  obtain ⟨D2, e2⟩ := df (st := sIsAlphabet) (ps := ["thing"]) X G (c.def_ 2 (d := mkD "is_alphabet" sIsAlphabet) rfl) (c.fact 2 (f := .glo "is_alphabet") rfl) fun _ _ _ _ _ _ us hl => match us, hl with | [_], _ => rfl
  obtain ⟨D3, e3⟩ := df (st := sIsSymbol) (ps := ["item"]) X G (c.def_ 3 (d := mkD "is_symbol" sIsSymbol) rfl) (c.fact 3 (f := .glo "is_symbol") rfl) fun _ _ _ _ _ _ us hl => match us, hl with | [_], _ => rfl
  obtain ⟨D4, e4⟩ := df (st := sSymbolsAmong) (ps := ["items"]) X G (c.def_ 4 (d := mkD "symbols_among" sSymbolsAmong) rfl) (c.fact 4 (f := .glo "symbols_among") rfl) fun _ _ _ _ _ _ us hl => match us, hl with | [_], _ => rfl
  obtain ⟨D5, e5⟩ := df (st := sIsProduction) (ps := ["alphabet", "thing"]) X G (c.def_ 5 (d := mkD "is_production" sIsProduction) rfl) (c.fact 5 (f := .glo "is_production") rfl) fun _ _ _ _ _ _ us hl => match us, hl with | [_, _], _ => rfl
  obtain ⟨D6, e6⟩ := df (st := sSymbolsOfNextRank) (ps := ["grammar", "found"]) X G (c.def_ 6 (d := mkD "symbols_of_next_rank" sSymbolsOfNextRank) rfl) (c.fact 6 (f := .glo "symbols_of_next_rank") rfl) fun _ _ _ _ _ _ us hl => match us, hl with | [_, _], _ => rfl
  obtain ⟨D7, e7⟩ := df (st := sRanks) (ps := ["grammar"]) X G (c.def_ 7 (d := mkD "ranks" sRanks) rfl) (c.fact 7 (f := .glo "ranks") rfl) fun _ _ _ _ _ _ us hl => match us, hl with | [_], _ => rfl
  obtain ⟨D8, e8⟩ := df (st := sBegin) (ps := ["_law_script"]) X G (c.def_ 8 (d := mkD "_law_begin" sBegin) rfl) (c.fact 8 (f := .glo "_law_begin") rfl) fun _ _ _ _ _ _ us hl => match us, hl with | [_], _ => rfl
  obtain ⟨D9, e9⟩ := df (st := sDraw) (ps := ["_law_tape", "_law_many"]) X G (c.def_ 9 (d := mkD "_law_draw" sDraw) rfl) (c.fact 9 (f := .glo "_law_draw") rfl) fun _ _ _ _ _ _ us hl => match us, hl with | [_, _], _ => rfl
  obtain ⟨D10, e10⟩ := df (st := sPick) (ps := ["_law_tape", "_law_items"]) X G (c.def_ 10 (d := mkD "_law_pick" sPick) rfl) (c.fact 10 (f := .glo "_law_pick") rfl) fun _ _ _ _ _ _ us hl => match us, hl with | [_, _], _ => rfl
  obtain ⟨D11, e11⟩ := df (st := sAlpha) (ps := ["_law_tape"]) X G (c.def_ 11 (d := mkD "_law_alphabet" sAlpha) rfl) (c.fact 11 (f := .glo "_law_alphabet") rfl) fun _ _ _ _ _ _ us hl => match us, hl with | [_], _ => rfl
  obtain ⟨D12, e12⟩ := df (st := sWord) (ps := ["_law_tape", "_law_alphabet_here", "_law_longest"]) X G (c.def_ 12 (d := mkD "_law_word" sWord) rfl) (c.fact 12 (f := .glo "_law_word") rfl) fun _ _ _ _ _ _ us hl => match us, hl with | [_, _, _], _ => rfl
  obtain ⟨D13, e13⟩ := df (st := sLSymbols) (ps := ["_law_tape"]) X G (c.def_ 13 (d := mkD "_law_symbols" sLSymbols) rfl) (c.fact 13 (f := .glo "_law_symbols") rfl) fun _ _ _ _ _ _ us hl => match us, hl with | [_], _ => rfl
  obtain ⟨D14, e14⟩ := df (st := sLRules) (ps := ["_law_tape", "_law_alphabet_here", "_law_many"]) X G (c.def_ 14 (d := mkD "_law_rules" sLRules) rfl) (c.fact 14 (f := .glo "_law_rules") rfl) fun _ _ _ _ _ _ us hl => match us, hl with | [_, _, _], _ => rfl
  obtain ⟨D15, e15⟩ := df (st := sLMade) (ps := ["_law_tape", "_law_alphabet_here", "_law_many"]) X G (c.def_ 15 (d := mkD "_law_made" sLMade) rfl) (c.fact 15 (f := .glo "_law_made") rfl) fun _ _ _ _ _ _ us hl => match us, hl with | [_, _, _], _ => rfl
  obtain ⟨D16, e16⟩ := df (st := sLNamesOf) (ps := ["_law_text"]) X G (c.def_ 16 (d := mkD "_law_names_of" sLNamesOf) rfl) (c.fact 16 (f := .glo "_law_names_of") rfl) fun _ _ _ _ _ _ us hl => match us, hl with | [_], _ => rfl
  obtain ⟨D17, e17⟩ := df (st := sLHeights) (ps := ["_law_rules_here"]) X G (c.def_ 17 (d := mkD "_law_heights" sLHeights) rfl) (c.fact 17 (f := .glo "_law_heights") rfl) fun _ _ _ _ _ _ us hl => match us, hl with | [_], _ => rfl
  obtain ⟨D18, e18⟩ := df (st := sLChain) (ps := ["_law_tape", "_law_alphabet_here"]) X G (c.def_ 18 (d := mkD "_law_chain" sLChain) rfl) (c.fact 18 (f := .glo "_law_chain") rfl) fun _ _ _ _ _ _ us hl => match us, hl with | [_, _], _ => rfl
  obtain ⟨fdgi, Fgi⟩ := c.def_ 19 (d := ⟨("Grammar", some "__init__"), "__init__", "Grammar.__init__", defArgs sGrInit, defBody sGrInit, defScope sGrInit, [], []⟩) rfl
  obtain ⟨fdg0, Fg0⟩ := c.def_ 20 (d := ⟨("Grammar", some "alphabet"), "alphabet", "Grammar.alphabet", defArgs sGrAlphabet, defBody sGrAlphabet, defScope sGrAlphabet, [], []⟩) rfl
  obtain ⟨fdg1, Fg1⟩ := c.def_ 21 (d := ⟨("Grammar", some "productions"), "productions", "Grammar.productions", defArgs sGrProductions, defBody sGrProductions, defScope sGrProductions, [], []⟩) rfl
  obtain ⟨fdg2, Fg2⟩ := c.def_ 22 (d := ⟨("Grammar", some "symbols"), "symbols", "Grammar.symbols", defArgs sGrSymbols, defBody sGrSymbols, defScope sGrSymbols, [], []⟩) rfl
  obtain ⟨fdg3, Fg3⟩ := c.def_ 23 (d := ⟨("Grammar", some "__eq__"), "__eq__", "Grammar.__eq__", defArgs sGrEq, defBody sGrEq, defScope sGrEq, [], []⟩) rfl
  let Gr0 : DfG K mg := ⟨He.ga K "Grammar", He.glo_ok X G (c.fact 37 (f := .glo "Grammar") rfl), He.cls_ok (c.fact 38 (f := .cls "Grammar") rfl), He.noat_ok (c.fact 39 (f := .noat "Grammar" "base") rfl), He.noat_ok (c.fact 40 (f := .noat "Grammar" "rules") rfl), He.noat_ok (c.fact 41 (f := .noat "Grammar" "occurring") rfl),
    ⟨_, fdgi, Fgi, Fgi.bindsN fun _ _ _ _ _ _ us hl => match us, hl with | [_, _, _], _ => rfl⟩, He.mkr_ok (c.fact 42 (f := .mkr "Grammar") rfl)⟩
  let Gr : DfGM K mg := ⟨Gr0, ⟨_, fdg0, Fg0, Fg0.bindsN fun _ _ _ _ _ _ us hl => match us, hl with | [_], _ => rfl⟩, He.meth_ok (c.fact 43 (f := .meth "Grammar" "alphabet") rfl), ⟨_, fdg1, Fg1, Fg1.bindsN fun _ _ _ _ _ _ us hl => match us, hl with | [_], _ => rfl⟩, He.meth_ok (c.fact 44 (f := .meth "Grammar" "productions") rfl), ⟨_, fdg2, Fg2, Fg2.bindsN fun _ _ _ _ _ _ us hl => match us, hl with | [_], _ => rfl⟩, He.meth_ok (c.fact 45 (f := .meth "Grammar" "symbols") rfl), ⟨_, fdg3, Fg3, Fg3.bindsN fun _ _ _ _ _ _ us hl => match us, hl with | [_, _], _ => rfl⟩, He.meth_ok (c.fact 46 (f := .meth "Grammar" "__eq__") rfl)⟩
  obtain ⟨X0, qx0⟩ := cx.ex X G 0 (y := "InvalidAlphabet") rfl
  have msup : mg "super" = none := He.free_ok X G (c.fact 47 (f := .free "super") rfl)
  obtain ⟨Y0, qy0⟩ := EX.mkE (ok := EX.MsgOk) X G (cx.ini 0).2 (cx.ini 0).1 (by decide +kernel) (fun F doc pm ctv us h1 h2 h3 h4 h5 hl => by
      obtain ⟨n1, n2, n3, n4, n5, n6, n7⟩ := F
      dsimp only at h1 h2 h3 h4 h5
      subst h1 h2 h3 h4 h5
      match us, hl with
      | [_, _], _ => rfl) (fun F cc oc doc pm ctv od osl w base h1 h2 h3 Sp lk no => by
      obtain ⟨n1, n2, n3, n4, n5, n6, n7⟩ := F
      dsimp only at h1 h2 h3
      subst h1 h2 h3
      exact EX.init_f Sp lk msup (NdefX.nscope_by (show NdefX.nscB _ _ _ (defScope (clsS 3 0)) = true by decide +kernel)) no rfl (by decide +kernel) rfl rfl rfl (by decide) (by decide) (fun L => rfl))
  have b := FunD.bindsA (ps := ["_law_script"]) D0.F fun _ _ _ _ _ _ us hl => match us, hl with | [_], _ => rfl
  refine ⟨D0.fd, fun s v => b s [v] rfl, fun base _ _ => ?_⟩
  have q := ok_law (P := R.prog) (w := w) (base := base) D0 ⟨D1, D2, D3, D4, D5, D6, D7, D8, D9, D10, D11, D12, D13, D14, D15, D16, D17, D18, ⟨He.free_ok X G (c.fact 23 (f := .free "len") rfl), He.free_ok X G (c.fact 26 (f := .free "range") rfl), He.free_ok X G (c.fact 24 (f := .free "sorted") rfl), He.free_ok X G (c.fact 27 (f := .free "set") rfl)⟩, He.free_ok X G (c.fact 19 (f := .free "all") rfl), He.free_ok X G (c.fact 20 (f := .free "zip") rfl), He.free_ok X G (c.fact 21 (f := .free "isinstance") rfl), He.free_ok X G (c.fact 22 (f := .free "str") rfl), He.free_ok X G (c.fact 25 (f := .free "tuple") rfl), He.free_ok X G (c.fact 28 (f := .free "int") rfl), He.free_ok X G (c.fact 29 (f := .free "dict") rfl), He.free_ok X G (c.fact 30 (f := .free "list") rfl), He.free_ok X G (c.fact 31 (f := .free "repr") rfl), He.free_ok X G (c.fact 32 (f := .free "enumerate") rfl), He.int_ok X G (c.fact 33 (f := .int "MOST_LETTERS" 3) rfl), He.int_ok X G (c.fact 34 (f := .int "MOST_ITEMS" 3) rfl), He.int_ok X G (c.fact 35 (f := .int "MOST_PRODUCTIONS" 16) rfl), He.int_ok X G (c.fact 36 (f := .int "MOST_SYMBOLS" 6) rfl), Gr, X0, Y0⟩
  rw [e0] at q
  exact q
end DW
open PySem PySem.W PySem.Calls PyProof.Rows
theorem PySem.Challenge.cw_downwords_k69_ranks_of_symbols_holds : PySem.Challenge.rw_downwords_k69_ranks_of_symbols.Holds := by
  w_on; o_law
  refine HandSHeadRun.head_any (r := OpenLaw.row PySem.Challenge.rw_downwords_k69_ranks_of_symbols) (q := view (OpenLaw.row PySem.Challenge.rw_downwords_k69_ranks_of_symbols).prog [31]) (H := DW.hk) (ob := DW.ob) (M := 4000) (loose := DW.names) (d := HandSHeadRun.topDef (OpenLaw.row PySem.Challenge.rw_downwords_k69_ranks_of_symbols).prog 31) (kwd := []) DW.ob_eq
    (by kernel_rfl) (fun s => by kernel_rfl) DW.run (by kernel_rfl) (by kernel_rfl) (by kernel_rfl) (by rfl) (by first | assumption | decide +kernel) (by decide +kernel) ⟨rfl, rfl, rfl, rfl, rfl, by decide +kernel⟩ ?hw ?hc
  case hw => w_witness2
  case hc =>
    refine GA.walkAt (l := PySem.Challenge.rw_downwords_k69_ranks_of_symbols) (n := 63) (x := "_law_script") rfl (by decide) (by kernel_rfl) ?F
    intro w mg fa h Y G hmg0
    obtain ⟨K, KX, c⟩ := Y
    have hmg : mg ("law" : PySem.Str) = some (.ref fa) := by
      have e : (HandSHeadRun.topDef (OpenLaw.row PySem.Challenge.rw_downwords_k69_ranks_of_symbols).prog 31).name = ("law" : PySem.Str) := by kernel_rfl
      rw [← e]
      exact hmg0
    obtain ⟨fd, hb, hF⟩ := DW.facts (w := w) KX G hmg c
    exact ⟨K, fd, DW.spLaw K, KX, hb, fun H a ns hl _ hS => ⟨a, ns, rfl, hS, fun _ => rfl⟩, hF⟩
